/- The walk of the statement: the rules of and, or, not. -/
import Derived.Test.YtlbchdlokimpfaaV27
import Derived.Test.YtlbchdlokimpfaaBP
namespace Go.Proofs.Ytlbchdlokimpfaa
set_option linter.unusedVariables false
set_option maxRecDepth 10000
open Go.RowKit

def posRulesTbl15 (B7 B k plen cp : Nat) (ap : Option Addr) (ra : Nat) (r : Int) (cs : List Bool) : List (Nat × V.Ent) :=
  [(7, V.Ent.is (.pointer (some ⟨B7, 0, none⟩))), (10, V.Ent.is (.int .i64 (k : Int))), (11, V.Ent.is (.slice ap plen cp)), (64, V.Ent.is (.int .i64 (k : Int))), (65, V.Ent.is (.slice ap plen cp)), (66, V.Ent.is (.slice ap (min plen 300) cp)), (67, V.Ent.is (.pointer (some ⟨B7, 0, none⟩))), (68, V.Ent.is (.int .u8 r)), (69, V.Ent.is (.int .u8 (r % 3))), (70, V.Ent.is (.int .i64 (r % 3))), (71, V.Ent.is (.int .i64 (1 + r % 3))), (72, V.Ent.laid B ra cs), (63, V.Ent.laid B ra cs), (73, V.Ent.set B ra cs), (74, V.Ent.is (.int .i64 0)), (15, V.Ent.sbox B), (16, V.Ent.is (.int .i64 0))]
def posRulesTbl17 (B7 B k plen cp : Nat) (ap : Option Addr) (ra : Nat) (r : Int) (cs : List Bool) : List (Nat × V.Ent) :=
  [(7, V.Ent.is (.pointer (some ⟨B7, 0, none⟩))), (10, V.Ent.is (.int .i64 (k : Int))), (12, V.Ent.is (.slice ap plen cp)), (76, V.Ent.is (.int .i64 (k : Int))), (77, V.Ent.is (.slice ap plen cp)), (78, V.Ent.is (.slice ap (min plen 300) cp)), (79, V.Ent.is (.pointer (some ⟨B7, 1, none⟩))), (80, V.Ent.is (.int .u8 r)), (81, V.Ent.is (.int .u8 (r % 3))), (82, V.Ent.is (.int .i64 (r % 3))), (83, V.Ent.is (.int .i64 (1 + r % 3))), (84, V.Ent.laid B ra cs), (75, V.Ent.laid B ra cs), (85, V.Ent.set B ra cs), (86, V.Ent.is (.int .i64 0)), (17, V.Ent.sbox B), (18, V.Ent.is (.int .i64 0))]
def posRulesTbl21 (b15 : Nat) (b17 : Nat) (B : Nat) (v15 : Value) (v17 : Value) (ra : Nat) (rc : Nat) (NA : List Bool) (NC : List Bool) (R : List Bool) : List (Nat × V.Ent) :=
  [(15, V.Ent.is (.pointer (some ⟨b15, 0, none⟩))), (17, V.Ent.is (.pointer (some ⟨b17, 0, none⟩))), (100, V.Ent.is v15), (101, V.Ent.set B ra NA), (102, V.Ent.is v17), (103, V.Ent.set B rc NC), (104, V.Ent.laid B ra R), (99, V.Ent.laid B ra R), (105, V.Ent.set B ra R), (106, V.Ent.is (.int .i64 0)), (21, V.Ent.sbox B), (22, V.Ent.is (.int .i64 0))]
def posRulesTbl23 (b15 : Nat) (B : Nat) (v15 : Value) (ra : Nat) (NA : List Bool) (R : List Bool) : List (Nat × V.Ent) :=
  [(15, V.Ent.is (.pointer (some ⟨b15, 0, none⟩))), (108, V.Ent.is v15), (109, V.Ent.is v15), (110, V.Ent.set B ra NA), (111, V.Ent.laid B ra R), (107, V.Ent.laid B ra R), (112, V.Ent.set B ra R), (113, V.Ent.is (.int .i64 0)), (23, V.Ent.sbox B), (24, V.Ent.is (.int .i64 0))]
def posRulesTbl25 (b15 : Nat) (B : Nat) (v15 : Value) (ra : Nat) (NA : List Bool) (R : List Bool) : List (Nat × V.Ent) :=
  [(15, V.Ent.is (.pointer (some ⟨b15, 0, none⟩))), (115, V.Ent.is v15), (116, V.Ent.is v15), (117, V.Ent.set B ra NA), (118, V.Ent.laid B ra R), (114, V.Ent.laid B ra R), (119, V.Ent.set B ra R), (120, V.Ent.is (.int .i64 0)), (25, V.Ent.sbox B), (26, V.Ent.is (.int .i64 0))]
def posRulesTbl (k : Nat) (B : Nat) (b15 : Nat) (b19 : Nat) (b21 : Nat) (b23 : Nat) (b25 : Nat) (v15 : Value) (v19 : Value) (v21 : Value) (v23 : Value) (v25 : Value) (ra : Nat) (A : List Bool) (NA : List Bool) (ND : List Bool) (nA : Nat) (lA : List Int) (nN : Nat) (lN : List Int) (nO : Nat) (lO : List Int) (nQ : Nat) (lQ : List Int) : List (Nat × V.Ent) :=
  [(9, V.Ent.is (.bool true)), (10, V.Ent.is (.int .i64 (k : Int))), (15, V.Ent.is (.pointer (some ⟨b15, 0, none⟩))), (19, V.Ent.is (.pointer (some ⟨b19, 0, none⟩))), (21, V.Ent.is (.pointer (some ⟨b21, 0, none⟩))), (23, V.Ent.is (.pointer (some ⟨b23, 0, none⟩))), (25, V.Ent.is (.pointer (some ⟨b25, 0, none⟩))), (135, V.Ent.is (.bool true)), (136, V.Ent.is (.bool true)), (137, V.Ent.is v19), (138, V.Ent.set B ra ND), (139, V.Ent.slI nN lN), (140, V.Ent.is v21), (141, V.Ent.slI nN lN), (142, V.Ent.is (.bool true)), (143, V.Ent.is (.bool true)), (144, V.Ent.is (.bool true)), (145, V.Ent.is v15), (146, V.Ent.set B ra NA), (147, V.Ent.set B ra A), (148, V.Ent.slI nA lA), (149, V.Ent.is v15), (150, V.Ent.slI nA lA), (151, V.Ent.is (.bool true)), (152, V.Ent.is (.bool true)), (153, V.Ent.is (.bool true)), (154, V.Ent.is v23), (155, V.Ent.slI nO lO), (156, V.Ent.is (.int .i64 (nO : Int))), (157, V.Ent.is (.int .i64 (k : Int))), (158, V.Ent.is (.bool true)), (159, V.Ent.is (.bool true)), (160, V.Ent.is (.bool true)), (161, V.Ent.is v25), (162, V.Ent.slI nQ lQ), (163, V.Ent.is (.int .i64 (nQ : Int))), (164, V.Ent.is (.bool true)), (165, V.Ent.is (.bool true))]
set_option maxHeartbeats 16000000 in
theorem posRules_in (tb : Nat → Int) (w : World) (ht : TabAt w tb) (n : Int) (hn : 0 ≤ n ∧ n < 256) (a : Option Addr) (len cap : Nat) (l : List Int) (h : Sl w .u8 a len cap l) (hw : ∀ x ∈ l, 0 ≤ x ∧ x < 256) (hm : len ≤ 1048576) (a2 : Option Addr) (len2 cap2 : Nat) (l2 : List Int) (h2 : Sl w .u8 a2 len2 cap2 l2) (hw2 : ∀ x ∈ l2, 0 ≤ x ∧ x < 256) (hm2 : len2 ≤ 1048576) (r0 r1 : Int) (hr0 : 0 ≤ r0 ∧ r0 < 256) (hr1 : 0 ≤ r1 ∧ r1 < 256) :
    Calls Try.prog 5 #[.int .u8 n, .slice a len cap, .slice a2 len2 cap2, .agg #[.int .u8 r0, .int .u8 r1]] w fun e w' => e = .returned (.bool true) ∧ Below w.heap.size w w' := by
  obtain ⟨k, hk⟩ : ∃ k : Nat, 1 + n = (k : Int) := ⟨(1 + n).toNat, by omega⟩
  have hk0 : 0 < k := by omega
  have hk2 : k ≤ 256 := by omega
  have hkz : (0 : Int) < (k : Int) := by omega
  have hkz2 : (k : Int) ≤ 256 := by omega
  obtain ⟨n0, n1⟩ := hn
  obtain ⟨ra, hra, ra1, ra3⟩ : ∃ ra : Nat, 1 + r0 % 3 = (ra : Int) ∧ 1 ≤ ra ∧ ra ≤ 3 := ⟨(1 + r0 % 3).toNat, by omega, by omega, by omega⟩
  obtain ⟨rc, hrc, rc1, rc3⟩ : ∃ rc : Nat, 1 + r1 % 3 = (rc : Int) ∧ 1 ≤ rc ∧ rc ≤ 3 := ⟨(1 + r1 % 3).toNat, by omega, by omega, by omega⟩
  have HRA := hide hra
  have HRC := hide hrc
  have H0 := hide ht
  have HL := hide h
  have HW := hide hw
  have HL2 := hide h2
  have HW2 := hide hw2
  have HR0 := hide hr0
  have HR1 := hide hr1
  clear ht h hw h2 hw2 hr0 hr1 hra hrc
  go_enter Try.func5, Try.ntmps5
  go_wp2_with fail
  have hb0 := below_one w (.cells #[.int .u8 r0, .int .u8 r1] 50)
  have hA0 := heap_alloc_new w (.cells #[.int .u8 r0, .int .u8 r1] 50)
  refine (shown_any tb _ (H0.out.below hb0)).mono ?_
  rintro e w1 ⟨rfl, hb⟩
  have BB := hide (bthen hb0 hb)
  have HA := hide ((hb.block _ (lt_of_block hA0)).trans hA0)
  clear hb0 hA0 hb
  go_wp2_with fail
  go_loopw [11, 13] (fun p i wr => ∃ (j : Nat) (ap : Option Addr) (cp : Nat), j ≤ len ∧ i = .int .i64 j ∧ p = .slice ap j cp ∧ Hid (wr.ownsRow w1.heap.size 3 1 (.slice ap j cp) j ((Z.md k (l.take j)).map (Value.int .i64))) ∧ Hid (Below w1.heap.size w1 wr)) (fun p i _ => len - (intOf i).toNat)
  case atStart => exact ⟨0, none, 0, Nat.zero_le _, rfl, rfl, hide (World.ownsRow_nil _ _ _ _), hide (Below.refl _ _)⟩
  case round =>
    rename_i wr
    obtain ⟨j, ap, cp, hj, rfl, rfl, ho, hB⟩ := hrel
    by_cases hlt : j < len
    · obtain ⟨b, off, rfl, hlb, hc⟩ := (HL.out.below (BB.out.trans (hB.out.mono BB.out.size))).cellI hlt
      have hjl : j < l.length := by rw [HL.out.1]; exact hlt
      have hwx := HW.out (l.getD j 0) (by rw [List.getD_eq_getElem?_getD, List.getElem?_eq_getElem hjl]; exact List.getElem_mem hjl)
      have HMD := hide (md_snoc (k := k) hjl)
      have HLN := hide (show (Z.md k (l.take j)).length = j by rw [md_length, List.length_take]; omega)
      obtain ⟨x, hx⟩ : ∃ x, l.getD j 0 = x := ⟨_, rfl⟩
      rw [hx] at hc hwx HMD
      obtain ⟨x0, x1⟩ := hwx
      have hjlen : (j : Int) < (len : Int) := by omega
      have hne : ¬ ((k : Int) = 0) := by omega
      clear hx hjl
      go_wp2_with (at_builtin; refine wpList_appI rfl (.tmp 37) (.tmp 45) rfl w1.heap.size _ (Z.md k (l.take j)) j HLN.out rfl (World.ownsRow.alloc ho.out _) _ 1 (x % (k : Int)) rfl (Sl.one wr 3 .i64 (x % (k : Int))) (by omega) (by have := hB.out.size; simp; omega) ?_)
      intro v' w3 hown has
      have hbl : Below w1.heap.size w1 w3 := (hB.out.alloc hB.out.size _).trans (has.1.below (by have := hB.out.size; simp; omega) (fun q hq => (owns_lt ho.out hq).1))
      obtain ⟨g, c9, rfl⟩ := ownsRow_succ hown
      have HO := hide hown
      have HBL := hide hbl
      clear hown has hbl ho hB hc
      go_wp2
      refine ⟨⟨j + 1, _, _, hlt, by simp, rfl, hide ?_, HBL⟩, by simp [intOf]; omega⟩
      rw [HMD.out, List.map_append]
      exact HO.out
    · obtain rfl : len = j := by omega
      have hsl := V.Sl.of_row (hl := by rw [md_length, List.length_take, HL.out.1]; omega) ho.out
      rw [List.take_of_length_le (by rw [HL.out.1]; exact Nat.le_refl _)] at hsl
      obtain ⟨w2, hw2⟩ : ∃ w2, wr = w2 := ⟨_, rfl⟩
      rw [hw2] at hsl hB ⊢
      have HP := hide hsl
      replace HA := hide ((hB.out.block _ (lt_of_block HA.out)).trans HA.out)
      replace BB := hide (bthen BB.out hB.out)
      clear ho hB hw2 hsl
      generalize ap = ap1 at *
      generalize cp = cp1 at *
      go_wp2_with fail
      go_loopw [12, 14] (fun p i wr => ∃ (j : Nat) (ap : Option Addr) (cp : Nat), j ≤ len2 ∧ i = .int .i64 j ∧ p = .slice ap j cp ∧ Hid (wr.ownsRow w2.heap.size 3 1 (.slice ap j cp) j ((Z.md k (l2.take j)).map (Value.int .i64))) ∧ Hid (Below w2.heap.size w2 wr)) (fun p i _ => len2 - (intOf i).toNat)
      case atStart => exact ⟨0, none, 0, Nat.zero_le _, rfl, rfl, hide (World.ownsRow_nil _ _ _ _), hide (Below.refl _ _)⟩
      case round =>
        rename_i wr
        obtain ⟨j, ap, cp, hj, rfl, rfl, ho, hB⟩ := hrel
        by_cases hlt : j < len2
        · obtain ⟨b, off, rfl, hlb, hc⟩ := (HL2.out.below (BB.out.trans (hB.out.mono BB.out.size))).cellI hlt
          have hjl : j < l2.length := by rw [HL2.out.1]; exact hlt
          have hwx := HW2.out (l2.getD j 0) (by rw [List.getD_eq_getElem?_getD, List.getElem?_eq_getElem hjl]; exact List.getElem_mem hjl)
          have HMD := hide (md_snoc (k := k) hjl)
          have HLN := hide (show (Z.md k (l2.take j)).length = j by rw [md_length, List.length_take]; omega)
          obtain ⟨x, hx⟩ : ∃ x, l2.getD j 0 = x := ⟨_, rfl⟩
          rw [hx] at hc hwx HMD
          obtain ⟨x0, x1⟩ := hwx
          have hjlen : (j : Int) < (len2 : Int) := by omega
          have hne : ¬ ((k : Int) = 0) := by omega
          clear hx hjl
          go_wp2_with (at_builtin; refine wpList_appI rfl (.tmp 53) (.tmp 61) rfl w2.heap.size _ (Z.md k (l2.take j)) j HLN.out rfl (World.ownsRow.alloc ho.out _) _ 1 (x % (k : Int)) rfl (Sl.one wr 3 .i64 (x % (k : Int))) (by omega) (by have := hB.out.size; simp; omega) ?_)
          intro v' w3 hown has
          have hbl : Below w2.heap.size w2 w3 := (hB.out.alloc hB.out.size _).trans (has.1.below (by have := hB.out.size; simp; omega) (fun q hq => (owns_lt ho.out hq).1))
          obtain ⟨g, c9, rfl⟩ := ownsRow_succ hown
          have HO := hide hown
          have HBL := hide hbl
          clear hown has hbl ho hB hc
          go_wp2
          refine ⟨⟨j + 1, _, _, hlt, by simp, rfl, hide ?_, HBL⟩, by simp [intOf]; omega⟩
          rw [HMD.out, List.map_append]
          exact HO.out
        · obtain rfl : len2 = j := by omega
          have hsl := V.Sl.of_row (hl := by rw [md_length, List.length_take, HL2.out.1]; omega) ho.out
          rw [List.take_of_length_le (by rw [HL2.out.1]; exact Nat.le_refl _)] at hsl
          obtain ⟨w3, hw3⟩ : ∃ w3, wr = w3 := ⟨_, rfl⟩
          rw [hw3] at hsl hB ⊢
          have HQ := hide hsl
          replace HA := hide ((hB.out.block _ (lt_of_block HA.out)).trans HA.out)
          replace HP := hide (HP.out.below hB.out)
          replace BB := hide (bthen BB.out hB.out)
          clear ho hB hw3 hsl
          generalize ap = ap2 at *
          generalize cp = cp2 at *
          obtain ⟨A, hAA⟩ : ∃ A, Z.fo k ((Z.md k l).take 300) = A := ⟨_, rfl⟩
          have HAL := hide (show A.length = k by rw [← hAA]; exact fo_length _ _)
          have HAA := hide hAA
          obtain ⟨C, hCC⟩ : ∃ C, Z.fo k ((Z.md k l2).take 300) = C := ⟨_, rfl⟩
          have HCL := hide (show C.length = k by rw [← hCC]; exact fo_length _ _)
          have HCC := hide hCC
          clear hAA hCC
          go_wp2_with fail
          have hf : Sl w3 .i64 ap1 (min len 300) cp1 ((Z.md k l).take 300) := by
            rcases Nat.lt_or_ge 300 len with h9 | h9
            · rw [Nat.min_eq_right (by omega)]; exact HP.out.upto 300 (by omega)
            · rw [Nat.min_eq_left h9, List.take_of_length_le (by rw [HP.out.1]; exact h9)]; exact HP.out
          have hl7 : w.heap.size < w3.heap.size := lt_of_block HA.out
          have hc7 : w3.cell? ⟨w.heap.size, 0, none⟩ = some (.int .u8 r0) := by have := HA.out; simp [World.cell?, this]
          refine V.wp_region_dead (w0 := w3) [64, 65, 66, 67, 68, 69, 70, 71, 72, 63, 73, 74, 15, 16] [7, 10, 11] [(13, [15])] (posRulesTbl15 w.heap.size w3.heap.size k len cp1 ap1 ra r0 A) (V.LaidS 15 w3.heap.size ra A) 13 rfl (by kernel_rfl) (by kernel_rfl) (by kernel_rfl) (Below.refl _ _) ?hb ?hs ?hX ?hd
          case hb =>
            intro d hd
            simp only [List.mem_cons, List.not_mem_nil, or_false] at hd
            rcases hd with rfl | rfl | rfl <;> rfl
          case hs =>
            refine ⟨.inl ⟨rfl, by decide, ?_⟩, .inl ⟨rfl, by decide, ?_⟩, .inl ⟨rfl, by decide, ?_⟩, .inl ⟨rfl, by decide, ?_⟩, .inl ⟨rfl, by decide, ?_⟩, .inl ⟨rfl, by decide, ?_⟩, .inl ⟨rfl, by decide, ?_⟩, .inl ⟨rfl, by decide, ?_⟩, .inl ⟨rfl, by decide, ?_⟩, .inl ⟨rfl, by decide, ?_⟩, .inl ⟨rfl, by decide, ?_⟩, .inl ⟨rfl, by decide, ?_⟩, .inl ⟨rfl, by decide, ?_⟩, .inr ⟨.inl rfl, ?_⟩, .inl ⟨rfl, by decide, ?_⟩, trivial⟩
            · exact V.Step.move (.inl rfl) (.inl rfl) (.inl ⟨_, rfl⟩) (fun _ h => by cases h; rfl)
            · exact V.Step.move (.inl rfl) (.inl rfl) (.inl ⟨_, rfl⟩) (fun _ h => by cases h; rfl)
            · exact V.Step.few (.inl rfl) rfl rfl HP.out (by omega) (fun _ h => by cases h; rfl)
            · exact V.Step.idxA (i := 0) (.inl rfl) rfl rfl (by decide) (fun _ h => by cases h; rfl)
            · exact V.Step.ldU8 (.inl rfl) rfl rfl hl7 hc7 (fun _ h => by cases h; rfl)
            · exact V.Step.bin (v1 := .int .u8 r0) (v2 := .int .u8 3) (v := .int .u8 (r0 % 3)) (.inl rfl) rfl (.inl ⟨_, rfl⟩) (.inr ⟨_, rfl⟩) rfl rfl (fun w => ⟨rfl, V.run_rem3 w r0 HR0.out.1⟩) (fun _ h => by cases h; rfl)
            · exact V.Step.conv (.inl rfl) rfl rfl (fun w => V.run_conv8 w (r0 % 3) (by omega) (by omega)) (fun _ h => by cases h; rfl)
            · exact V.Step.bin (v1 := .int .i64 1) (v2 := .int .i64 (r0 % 3)) (v := .int .i64 (1 + r0 % 3)) (.inl rfl) rfl (.inr ⟨_, rfl⟩) (.inl ⟨_, rfl⟩) rfl rfl (fun w => ⟨rfl, V.run_add1 w (r0 % 3) (by omega) (by omega)⟩) (fun _ h => by cases h; rfl)
            · exact V.Step.of (.inl rfl) rfl rfl rfl rfl HRA.out hf (md_in hk0) (by omega) (by omega) ra1 ra3 HAA.out (fun _ h => by cases h; rfl)
            · exact V.Step.move (.inl rfl) (.inl rfl) (.inl ⟨_, rfl⟩) (fun _ h => by cases h; rfl)
            · exact V.Step.ext0S (.inl rfl) rfl rfl (fun _ h => by cases h; rfl)
            · exact V.Step.ext1S (.inl rfl) rfl rfl (fun _ h => by cases h; rfl)
            · exact V.Step.sbox (.inl rfl) rfl (fun _ h => by cases h; rfl)
            · refine V.Touch.layS rfl rfl rfl rfl rfl (fun d hd => ?_)
              replace hd : d ∈ [7, 10, 11] ∨ d ∈ [64, 65, 66, 67, 68, 69, 70, 71, 72, 63, 73, 74] := by
                rcases hd with hd | hd
                · exact .inl hd
                · exact .inr (V.mem_alive [64, 65, 66, 67, 68, 69, 70, 71, 72, 63, 73, 74] hd (by kernel_rfl))
              simp only [List.mem_cons, List.not_mem_nil, or_false] at hd
              rcases hd with (rfl | rfl | rfl) | (rfl | rfl | rfl | rfl | rfl | rfl | rfl | rfl | rfl | rfl | rfl | rfl)
              all_goals first | exact V.SafeS.is _ | exact V.SafeS.laid _ _ _ | exact V.SafeS.set _ _ _
            · exact V.Step.move (.inl rfl) (.inr rfl) (.inl ⟨_, rfl⟩) (fun _ h => by cases h; rfl)
          case hX =>
            intro j o hj hwt hne a wa wb v hx hbb
            exact hx.put hbb (V.once_get (by kernel_rfl) hj hwt hne)
          case hd =>
          intro vs w4 hwv hk hx
          have v64 : vs 64 = (.int .i64 (k : Int)) := hk 0 _ 64 rfl rfl (by decide)
          have v65 : vs 65 = (.slice ap1 len cp1) := hk 1 _ 65 rfl rfl (by decide)
          have v66 : vs 66 = (.slice ap1 (min len 300) cp1) := hk 2 _ 66 rfl rfl (by decide)
          have v67 : vs 67 = (.pointer (some ⟨w.heap.size, 0, none⟩)) := hk 3 _ 67 rfl rfl (by decide)
          have v68 : vs 68 = (.int .u8 r0) := hk 4 _ 68 rfl rfl (by decide)
          have v69 : vs 69 = (.int .u8 (r0 % 3)) := hk 5 _ 69 rfl rfl (by decide)
          have v70 : vs 70 = (.int .i64 (r0 % 3)) := hk 6 _ 70 rfl rfl (by decide)
          have v71 : vs 71 = (.int .i64 (1 + r0 % 3)) := hk 7 _ 71 rfl rfl (by decide)
          obtain ⟨u72, v72⟩ : ∃ u, vs 72 = u := ⟨_, rfl⟩
          obtain ⟨u63, v63⟩ : ∃ u, vs 63 = u := ⟨_, rfl⟩
          obtain ⟨u73, v73⟩ : ∃ u, vs 73 = u := ⟨_, rfl⟩
          have v74 : vs 74 = (.int .i64 0) := hk 11 _ 74 rfl rfl (by decide)
          have v16 : vs 16 = (.int .i64 0) := hk 14 _ 16 rfl rfl (by decide)
          obtain ⟨b15, T15, ao15, le15, ca15, h15, hB15, hA15, hS15, -⟩ := hx (by decide)
          have v15 : vs 15 = .pointer (some ⟨b15, 0, none⟩) := (V.puts_eval (by decide) (by show 15 < 166; omega)).symm.trans h15
          simp only [V.puts, List.foldl_cons, List.foldl_nil, v64, v65, v66, v67, v68, v69, v70, v71, v72, v63, v73, v74, v16, v15, Act.put, List.setIfInBounds_toArray, List.set_cons_zero, List.set_cons_succ]
          clear hk hx h15 hB15 v64 v65 v66 v67 v68 v69 v70 v71 v72 v63 v73 v74 v16 v15
          clear hf hl7 hc7
          replace HA := hide ((hwv.block _ (lt_of_block HA.out)).trans HA.out)
          replace HQ := hide (HQ.out.below hwv)
          replace BB := hide (bthen BB.out hwv)
          have HX15 := hide hA15
          have HS15 := hide hS15
          clear hwv hA15 hS15 HP
          go_wp2_with fail
          have hf : Sl w4 .i64 ap2 (min len2 300) cp2 ((Z.md k l2).take 300) := by
            rcases Nat.lt_or_ge 300 len2 with h9 | h9
            · rw [Nat.min_eq_right (by omega)]; exact HQ.out.upto 300 (by omega)
            · rw [Nat.min_eq_left h9, List.take_of_length_le (by rw [HQ.out.1]; exact h9)]; exact HQ.out
          have hl7 : w.heap.size < w4.heap.size := lt_of_block HA.out
          have hc7 : w4.cell? ⟨w.heap.size, 1, none⟩ = some (.int .u8 r1) := by have := HA.out; simp [World.cell?, this]
          refine V.wp_region_dead (w0 := w4) [76, 77, 78, 79, 80, 81, 82, 83, 84, 75, 85, 86, 17, 18] [7, 10, 12] [(13, [17])] (posRulesTbl17 w.heap.size w4.heap.size k len2 cp2 ap2 rc r1 C) (V.LaidS 17 w4.heap.size rc C) 13 rfl (by kernel_rfl) (by kernel_rfl) (by kernel_rfl) (Below.refl _ _) ?hb ?hs ?hX ?hd
          case hb =>
            intro d hd
            simp only [List.mem_cons, List.not_mem_nil, or_false] at hd
            rcases hd with rfl | rfl | rfl <;> rfl
          case hs =>
            refine ⟨.inl ⟨rfl, by decide, ?_⟩, .inl ⟨rfl, by decide, ?_⟩, .inl ⟨rfl, by decide, ?_⟩, .inl ⟨rfl, by decide, ?_⟩, .inl ⟨rfl, by decide, ?_⟩, .inl ⟨rfl, by decide, ?_⟩, .inl ⟨rfl, by decide, ?_⟩, .inl ⟨rfl, by decide, ?_⟩, .inl ⟨rfl, by decide, ?_⟩, .inl ⟨rfl, by decide, ?_⟩, .inl ⟨rfl, by decide, ?_⟩, .inl ⟨rfl, by decide, ?_⟩, .inl ⟨rfl, by decide, ?_⟩, .inr ⟨.inl rfl, ?_⟩, .inl ⟨rfl, by decide, ?_⟩, trivial⟩
            · exact V.Step.move (.inl rfl) (.inl rfl) (.inl ⟨_, rfl⟩) (fun _ h => by cases h; rfl)
            · exact V.Step.move (.inl rfl) (.inl rfl) (.inl ⟨_, rfl⟩) (fun _ h => by cases h; rfl)
            · exact V.Step.few (.inl rfl) rfl rfl HQ.out (by omega) (fun _ h => by cases h; rfl)
            · exact V.Step.idxA (i := 1) (.inl rfl) rfl rfl (by decide) (fun _ h => by cases h; rfl)
            · exact V.Step.ldU8 (.inl rfl) rfl rfl hl7 hc7 (fun _ h => by cases h; rfl)
            · exact V.Step.bin (v1 := .int .u8 r1) (v2 := .int .u8 3) (v := .int .u8 (r1 % 3)) (.inl rfl) rfl (.inl ⟨_, rfl⟩) (.inr ⟨_, rfl⟩) rfl rfl (fun w => ⟨rfl, V.run_rem3 w r1 HR1.out.1⟩) (fun _ h => by cases h; rfl)
            · exact V.Step.conv (.inl rfl) rfl rfl (fun w => V.run_conv8 w (r1 % 3) (by omega) (by omega)) (fun _ h => by cases h; rfl)
            · exact V.Step.bin (v1 := .int .i64 1) (v2 := .int .i64 (r1 % 3)) (v := .int .i64 (1 + r1 % 3)) (.inl rfl) rfl (.inr ⟨_, rfl⟩) (.inl ⟨_, rfl⟩) rfl rfl (fun w => ⟨rfl, V.run_add1 w (r1 % 3) (by omega) (by omega)⟩) (fun _ h => by cases h; rfl)
            · exact V.Step.of (.inl rfl) rfl rfl rfl rfl HRC.out hf (md_in hk0) (by omega) (by omega) rc1 rc3 HCC.out (fun _ h => by cases h; rfl)
            · exact V.Step.move (.inl rfl) (.inl rfl) (.inl ⟨_, rfl⟩) (fun _ h => by cases h; rfl)
            · exact V.Step.ext0S (.inl rfl) rfl rfl (fun _ h => by cases h; rfl)
            · exact V.Step.ext1S (.inl rfl) rfl rfl (fun _ h => by cases h; rfl)
            · exact V.Step.sbox (.inl rfl) rfl (fun _ h => by cases h; rfl)
            · refine V.Touch.layS rfl rfl rfl rfl rfl (fun d hd => ?_)
              replace hd : d ∈ [7, 10, 12] ∨ d ∈ [76, 77, 78, 79, 80, 81, 82, 83, 84, 75, 85, 86] := by
                rcases hd with hd | hd
                · exact .inl hd
                · exact .inr (V.mem_alive [76, 77, 78, 79, 80, 81, 82, 83, 84, 75, 85, 86] hd (by kernel_rfl))
              simp only [List.mem_cons, List.not_mem_nil, or_false] at hd
              rcases hd with (rfl | rfl | rfl) | (rfl | rfl | rfl | rfl | rfl | rfl | rfl | rfl | rfl | rfl | rfl | rfl)
              all_goals first | exact V.SafeS.is _ | exact V.SafeS.laid _ _ _ | exact V.SafeS.set _ _ _
            · exact V.Step.move (.inl rfl) (.inr rfl) (.inl ⟨_, rfl⟩) (fun _ h => by cases h; rfl)
          case hX =>
            intro j o hj hwt hne a wa wb v hx hbb
            exact hx.put hbb (V.once_get (by kernel_rfl) hj hwt hne)
          case hd =>
          intro vs w5 hwv hk hx
          have v76 : vs 76 = (.int .i64 (k : Int)) := hk 0 _ 76 rfl rfl (by decide)
          have v77 : vs 77 = (.slice ap2 len2 cp2) := hk 1 _ 77 rfl rfl (by decide)
          have v78 : vs 78 = (.slice ap2 (min len2 300) cp2) := hk 2 _ 78 rfl rfl (by decide)
          have v79 : vs 79 = (.pointer (some ⟨w.heap.size, 1, none⟩)) := hk 3 _ 79 rfl rfl (by decide)
          have v80 : vs 80 = (.int .u8 r1) := hk 4 _ 80 rfl rfl (by decide)
          have v81 : vs 81 = (.int .u8 (r1 % 3)) := hk 5 _ 81 rfl rfl (by decide)
          have v82 : vs 82 = (.int .i64 (r1 % 3)) := hk 6 _ 82 rfl rfl (by decide)
          have v83 : vs 83 = (.int .i64 (1 + r1 % 3)) := hk 7 _ 83 rfl rfl (by decide)
          obtain ⟨u84, v84⟩ : ∃ u, vs 84 = u := ⟨_, rfl⟩
          obtain ⟨u75, v75⟩ : ∃ u, vs 75 = u := ⟨_, rfl⟩
          obtain ⟨u85, v85⟩ : ∃ u, vs 85 = u := ⟨_, rfl⟩
          have v86 : vs 86 = (.int .i64 0) := hk 11 _ 86 rfl rfl (by decide)
          have v18 : vs 18 = (.int .i64 0) := hk 14 _ 18 rfl rfl (by decide)
          obtain ⟨b17, T17, ao17, le17, ca17, h17, hB17, hA17, hS17, -⟩ := hx (by decide)
          have v17 : vs 17 = .pointer (some ⟨b17, 0, none⟩) := (V.puts_eval (by decide) (by show 17 < 166; omega)).symm.trans h17
          simp only [V.puts, List.foldl_cons, List.foldl_nil, v76, v77, v78, v79, v80, v81, v82, v83, v84, v75, v85, v86, v18, v17, Act.put, List.setIfInBounds_toArray, List.set_cons_zero, List.set_cons_succ]
          clear hk hx h17 hB17 v76 v77 v78 v79 v80 v81 v82 v83 v84 v75 v85 v86 v18 v17
          clear hf hl7 hc7
          replace HX15 := hide (HX15.out.below hwv)
          replace HS15 := hide (HS15.out.below hwv)
          replace BB := hide (bthen BB.out hwv)
          have HX17 := hide hA17
          have HS17 := hide hS17
          clear hwv hA17 hS17 HQ HA
          obtain ⟨v15, HH15⟩ : ∃ v, Hid (Here w5 b15 v ra A) := ⟨_, hide ⟨_, _, rfl, HX15.out, HS15.out⟩⟩
          obtain ⟨v17, HH17⟩ : ∃ v, Hid (Here w5 b17 v rc C) := ⟨_, hide ⟨_, _, rfl, HX17.out, HS17.out⟩⟩
          clear HX15 HX17 HS15 HS17
          obtain ⟨x15, y15, e15, a15, s15⟩ := HH15.out
          obtain ⟨x17, y17, e17, a17, s17⟩ := HH17.out
          have d15 := a15.cells
          have d17 := a17.cells
          go_wp2_with fail
          rw [← e15, ← e17]
          clear d15 d17 e15 a15 s15 e17 a17 s17 x15 y15 x17 y17
          refine (and_any _ _ ra rc A C _ HH15.out.set HH17.out.set (by rw [HAL.out, HCL.out]) ra1 ra3).mono ?_
          rintro e w6 ⟨s, rfl, hs1, -, hb⟩
          obtain ⟨T, ao, le, ca, rfl⟩ := SetAt.shape hs1
          obtain ⟨D, HD19⟩ : ∃ D, Hid (Z.an A C = D) := ⟨_, hide rfl⟩
          have HDL19 := hide (show D.length = k by rw [← HD19.out, an_length (by rw [HAL.out, HCL.out]), HAL.out])
          rw [HD19.out] at hs1 ⊢
          rw [HDL19.out] at hs1 ⊢
          have hS := hide hs1
          have hB := hide hb
          clear hs1 hb
          go_wp2_with fail
          have hA := AtS.new w6 (.int .i64 (k : Int)) (.iface T (.slice ao le ca))
          have hbA := below_one w6 (.cells #[.int .i64 (k : Int), .iface T (.slice ao le ca)] 28)
          have hS2 := hS.out.below hbA
          obtain ⟨w7, hw9⟩ : ∃ w9, w6.alloc (.cells #[.int .i64 (k : Int), .iface T (.slice ao le ca)] 28) = w9 := ⟨_, rfl⟩
          obtain ⟨b19, hb9⟩ : ∃ b9, w6.heap.size = b9 := ⟨_, rfl⟩
          rw [hw9] at hA hbA hS2 ⊢
          have hb2 := bthen hB.out hbA
          rw [hb9] at hA ⊢
          obtain ⟨v19, HH19⟩ : ∃ v, Hid (Here w7 b19 v ra D) := ⟨_, hide ⟨_, _, rfl, hA, hS2⟩⟩
          clear hA hS2 hS hB hw9 hb9 hbA
          replace HH15 := hide (HH15.out.below hb2)
          replace HH17 := hide (HH17.out.below hb2)
          replace BB := hide (bthen BB.out hb2)
          clear hb2
          go_wp2_with fail
          refine V.wp_region_dead (w0 := w7) [100, 101, 102, 103, 104, 99, 105, 106, 21, 22] [15, 17] [(9, [21])] (posRulesTbl21 b15 b17 w7.heap.size v15 v17 ra rc (Z.nt A) (Z.nt C) (Z.orr (Z.nt A) (Z.nt C))) (V.LaidS 21 w7.heap.size ra (Z.orr (Z.nt A) (Z.nt C))) 9 rfl (by kernel_rfl) (by kernel_rfl) (by kernel_rfl) (Below.refl _ _) ?hb ?hs ?hX ?hd
          case hb =>
            intro d hd
            simp only [List.mem_cons, List.not_mem_nil, or_false] at hd
            rcases hd with rfl | rfl <;> rfl
          case hs =>
            refine ⟨.inl ⟨rfl, by decide, ?_⟩, .inl ⟨rfl, by decide, ?_⟩, .inl ⟨rfl, by decide, ?_⟩, .inl ⟨rfl, by decide, ?_⟩, .inl ⟨rfl, by decide, ?_⟩, .inl ⟨rfl, by decide, ?_⟩, .inl ⟨rfl, by decide, ?_⟩, .inl ⟨rfl, by decide, ?_⟩, .inl ⟨rfl, by decide, ?_⟩, .inr ⟨.inl rfl, ?_⟩, .inl ⟨rfl, by decide, ?_⟩, trivial⟩
            · exact V.Step.ldH (.inl rfl) rfl rfl HH15.out (fun _ h => by cases h; rfl)
            · exact V.Step.notV (.inl rfl) rfl rfl HH15.out.set ra1 ra3 (fun _ h => by cases h; rfl)
            · exact V.Step.ldH (.inl rfl) rfl rfl HH17.out (fun _ h => by cases h; rfl)
            · exact V.Step.notV (.inl rfl) rfl rfl HH17.out.set rc1 rc3 (fun _ h => by cases h; rfl)
            · exact V.Step.or (.inl rfl) rfl rfl rfl V.IsSet.set V.IsSet.set (by rw [nt_length, nt_length, HAL.out, HCL.out]) ra1 ra3 (fun _ h => by cases h; rfl)
            · exact V.Step.move (.inl rfl) (.inl rfl) (.inl ⟨_, rfl⟩) (fun _ h => by cases h; rfl)
            · exact V.Step.ext0S (.inl rfl) rfl rfl (fun _ h => by cases h; rfl)
            · exact V.Step.ext1S (.inl rfl) rfl rfl (fun _ h => by cases h; rfl)
            · exact V.Step.sbox (.inl rfl) rfl (fun _ h => by cases h; rfl)
            · refine V.Touch.layS rfl rfl rfl rfl rfl (fun d hd => ?_)
              replace hd : d ∈ [15, 17] ∨ d ∈ [100, 101, 102, 103, 104, 99, 105, 106] := by
                rcases hd with hd | hd
                · exact .inl hd
                · exact .inr (V.mem_alive [100, 101, 102, 103, 104, 99, 105, 106] hd (by kernel_rfl))
              simp only [List.mem_cons, List.not_mem_nil, or_false] at hd
              rcases hd with (rfl | rfl) | (rfl | rfl | rfl | rfl | rfl | rfl | rfl | rfl)
              all_goals first | exact V.SafeS.is _ | exact V.SafeS.laid _ _ _ | exact V.SafeS.set _ _ _
            · exact V.Step.move (.inl rfl) (.inr rfl) (.inl ⟨_, rfl⟩) (fun _ h => by cases h; rfl)
          case hX =>
            intro j o hj hwt hne a wa wb v hx hbb
            exact hx.put hbb (V.once_get (by kernel_rfl) hj hwt hne)
          case hd =>
          intro vs w8 hwv hk hx
          have v100 : vs 100 = v15 := hk 0 _ 100 rfl rfl (by decide)
          obtain ⟨u101, v101⟩ : ∃ u, vs 101 = u := ⟨_, rfl⟩
          have v102 : vs 102 = v17 := hk 2 _ 102 rfl rfl (by decide)
          obtain ⟨u103, v103⟩ : ∃ u, vs 103 = u := ⟨_, rfl⟩
          obtain ⟨u104, v104⟩ : ∃ u, vs 104 = u := ⟨_, rfl⟩
          obtain ⟨u99, v99⟩ : ∃ u, vs 99 = u := ⟨_, rfl⟩
          obtain ⟨u105, v105⟩ : ∃ u, vs 105 = u := ⟨_, rfl⟩
          have v106 : vs 106 = (.int .i64 0) := hk 7 _ 106 rfl rfl (by decide)
          have v22 : vs 22 = (.int .i64 0) := hk 10 _ 22 rfl rfl (by decide)
          obtain ⟨b21, T21, ao21, le21, ca21, h21, hB21, hA21, hS21, -⟩ := hx (by decide)
          have v21 : vs 21 = .pointer (some ⟨b21, 0, none⟩) := (V.puts_eval (by decide) (by show 21 < 166; omega)).symm.trans h21
          simp only [V.puts, List.foldl_cons, List.foldl_nil, v100, v101, v102, v103, v104, v99, v105, v106, v22, v21, Act.put, List.setIfInBounds_toArray, List.set_cons_zero, List.set_cons_succ]
          clear hk hx h21 hB21 v100 v101 v102 v103 v104 v99 v105 v106 v22 v21
          obtain ⟨v21, HH21⟩ : ∃ v, Hid (Here w8 b21 v ra (Z.orr (Z.nt A) (Z.nt C))) := ⟨_, hide ⟨_, _, rfl, hA21, hS21⟩⟩
          clear hA21 hS21
          have HNE : Z.orr (Z.nt A) (Z.nt C) = Z.nt D := by rw [← HD19.out, nt_an]
          rw [HNE] at HH21
          clear HNE
          replace HH15 := hide (HH15.out.below hwv)
          replace HH19 := hide (HH19.out.below hwv)
          replace BB := hide (bthen BB.out hwv)
          clear hwv HH17
          go_wp2_with fail
          refine V.wp_region_dead (w0 := w8) [108, 109, 110, 111, 107, 112, 113, 23, 24] [15] [(8, [23])] (posRulesTbl23 b15 w8.heap.size v15 ra (Z.nt A) (Z.orr A (Z.nt A))) (V.LaidS 23 w8.heap.size ra (Z.orr A (Z.nt A))) 8 rfl (by kernel_rfl) (by kernel_rfl) (by kernel_rfl) (Below.refl _ _) ?hb ?hs ?hX ?hd
          case hb =>
            intro d hd
            simp only [List.mem_cons, List.not_mem_nil, or_false] at hd
            subst hd; rfl
          case hs =>
            refine ⟨.inl ⟨rfl, by decide, ?_⟩, .inl ⟨rfl, by decide, ?_⟩, .inl ⟨rfl, by decide, ?_⟩, .inl ⟨rfl, by decide, ?_⟩, .inl ⟨rfl, by decide, ?_⟩, .inl ⟨rfl, by decide, ?_⟩, .inl ⟨rfl, by decide, ?_⟩, .inl ⟨rfl, by decide, ?_⟩, .inr ⟨.inl rfl, ?_⟩, .inl ⟨rfl, by decide, ?_⟩, trivial⟩
            · exact V.Step.ldH (.inl rfl) rfl rfl HH15.out (fun _ h => by cases h; rfl)
            · exact V.Step.ldH (.inl rfl) rfl rfl HH15.out (fun _ h => by cases h; rfl)
            · exact V.Step.notV (.inl rfl) rfl rfl HH15.out.set ra1 ra3 (fun _ h => by cases h; rfl)
            · exact V.Step.or (.inl rfl) rfl rfl rfl (V.IsSet.is HH15.out.set) V.IsSet.set (by rw [nt_length]) ra1 ra3 (fun _ h => by cases h; rfl)
            · exact V.Step.move (.inl rfl) (.inl rfl) (.inl ⟨_, rfl⟩) (fun _ h => by cases h; rfl)
            · exact V.Step.ext0S (.inl rfl) rfl rfl (fun _ h => by cases h; rfl)
            · exact V.Step.ext1S (.inl rfl) rfl rfl (fun _ h => by cases h; rfl)
            · exact V.Step.sbox (.inl rfl) rfl (fun _ h => by cases h; rfl)
            · refine V.Touch.layS rfl rfl rfl rfl rfl (fun d hd => ?_)
              replace hd : d ∈ [15] ∨ d ∈ [108, 109, 110, 111, 107, 112, 113] := by
                rcases hd with hd | hd
                · exact .inl hd
                · exact .inr (V.mem_alive [108, 109, 110, 111, 107, 112, 113] hd (by kernel_rfl))
              simp only [List.mem_cons, List.not_mem_nil, or_false] at hd
              rcases hd with (rfl) | (rfl | rfl | rfl | rfl | rfl | rfl | rfl)
              all_goals first | exact V.SafeS.is _ | exact V.SafeS.laid _ _ _ | exact V.SafeS.set _ _ _
            · exact V.Step.move (.inl rfl) (.inr rfl) (.inl ⟨_, rfl⟩) (fun _ h => by cases h; rfl)
          case hX =>
            intro j o hj hwt hne a wa wb v hx hbb
            exact hx.put hbb (V.once_get (by kernel_rfl) hj hwt hne)
          case hd =>
          intro vs w9 hwv hk hx
          have v108 : vs 108 = v15 := hk 0 _ 108 rfl rfl (by decide)
          have v109 : vs 109 = v15 := hk 1 _ 109 rfl rfl (by decide)
          obtain ⟨u110, v110⟩ : ∃ u, vs 110 = u := ⟨_, rfl⟩
          obtain ⟨u111, v111⟩ : ∃ u, vs 111 = u := ⟨_, rfl⟩
          obtain ⟨u107, v107⟩ : ∃ u, vs 107 = u := ⟨_, rfl⟩
          obtain ⟨u112, v112⟩ : ∃ u, vs 112 = u := ⟨_, rfl⟩
          have v113 : vs 113 = (.int .i64 0) := hk 6 _ 113 rfl rfl (by decide)
          have v24 : vs 24 = (.int .i64 0) := hk 9 _ 24 rfl rfl (by decide)
          obtain ⟨b23, T23, ao23, le23, ca23, h23, hB23, hA23, hS23, -⟩ := hx (by decide)
          have v23 : vs 23 = .pointer (some ⟨b23, 0, none⟩) := (V.puts_eval (by decide) (by show 23 < 166; omega)).symm.trans h23
          simp only [V.puts, List.foldl_cons, List.foldl_nil, v108, v109, v110, v111, v107, v112, v113, v24, v23, Act.put, List.setIfInBounds_toArray, List.set_cons_zero, List.set_cons_succ]
          clear hk hx h23 hB23 v108 v109 v110 v111 v107 v112 v113 v24 v23
          obtain ⟨v23, HH23⟩ : ∃ v, Hid (Here w9 b23 v ra (Z.orr A (Z.nt A))) := ⟨_, hide ⟨_, _, rfl, hA23, hS23⟩⟩
          clear hA23 hS23
          replace HH15 := hide (HH15.out.below hwv)
          replace HH19 := hide (HH19.out.below hwv)
          replace HH21 := hide (HH21.out.below hwv)
          replace BB := hide (bthen BB.out hwv)
          clear hwv
          go_wp2_with fail
          refine V.wp_region_dead (w0 := w9) [115, 116, 117, 118, 114, 119, 120, 25, 26] [15] [(8, [25])] (posRulesTbl25 b15 w9.heap.size v15 ra (Z.nt A) (Z.an A (Z.nt A))) (V.LaidS 25 w9.heap.size ra (Z.an A (Z.nt A))) 8 rfl (by kernel_rfl) (by kernel_rfl) (by kernel_rfl) (Below.refl _ _) ?hb ?hs ?hX ?hd
          case hb =>
            intro d hd
            simp only [List.mem_cons, List.not_mem_nil, or_false] at hd
            subst hd; rfl
          case hs =>
            refine ⟨.inl ⟨rfl, by decide, ?_⟩, .inl ⟨rfl, by decide, ?_⟩, .inl ⟨rfl, by decide, ?_⟩, .inl ⟨rfl, by decide, ?_⟩, .inl ⟨rfl, by decide, ?_⟩, .inl ⟨rfl, by decide, ?_⟩, .inl ⟨rfl, by decide, ?_⟩, .inl ⟨rfl, by decide, ?_⟩, .inr ⟨.inl rfl, ?_⟩, .inl ⟨rfl, by decide, ?_⟩, trivial⟩
            · exact V.Step.ldH (.inl rfl) rfl rfl HH15.out (fun _ h => by cases h; rfl)
            · exact V.Step.ldH (.inl rfl) rfl rfl HH15.out (fun _ h => by cases h; rfl)
            · exact V.Step.notV (.inl rfl) rfl rfl HH15.out.set ra1 ra3 (fun _ h => by cases h; rfl)
            · exact V.Step.and (.inl rfl) rfl rfl rfl (V.IsSet.is HH15.out.set) V.IsSet.set (by rw [nt_length]) ra1 ra3 (fun _ h => by cases h; rfl)
            · exact V.Step.move (.inl rfl) (.inl rfl) (.inl ⟨_, rfl⟩) (fun _ h => by cases h; rfl)
            · exact V.Step.ext0S (.inl rfl) rfl rfl (fun _ h => by cases h; rfl)
            · exact V.Step.ext1S (.inl rfl) rfl rfl (fun _ h => by cases h; rfl)
            · exact V.Step.sbox (.inl rfl) rfl (fun _ h => by cases h; rfl)
            · refine V.Touch.layS rfl rfl rfl rfl rfl (fun d hd => ?_)
              replace hd : d ∈ [15] ∨ d ∈ [115, 116, 117, 118, 114, 119, 120] := by
                rcases hd with hd | hd
                · exact .inl hd
                · exact .inr (V.mem_alive [115, 116, 117, 118, 114, 119, 120] hd (by kernel_rfl))
              simp only [List.mem_cons, List.not_mem_nil, or_false] at hd
              rcases hd with (rfl) | (rfl | rfl | rfl | rfl | rfl | rfl | rfl)
              all_goals first | exact V.SafeS.is _ | exact V.SafeS.laid _ _ _ | exact V.SafeS.set _ _ _
            · exact V.Step.move (.inl rfl) (.inr rfl) (.inl ⟨_, rfl⟩) (fun _ h => by cases h; rfl)
          case hX =>
            intro j o hj hwt hne a wa wb v hx hbb
            exact hx.put hbb (V.once_get (by kernel_rfl) hj hwt hne)
          case hd =>
          intro vs w10 hwv hk hx
          have v115 : vs 115 = v15 := hk 0 _ 115 rfl rfl (by decide)
          have v116 : vs 116 = v15 := hk 1 _ 116 rfl rfl (by decide)
          obtain ⟨u117, v117⟩ : ∃ u, vs 117 = u := ⟨_, rfl⟩
          obtain ⟨u118, v118⟩ : ∃ u, vs 118 = u := ⟨_, rfl⟩
          obtain ⟨u114, v114⟩ : ∃ u, vs 114 = u := ⟨_, rfl⟩
          obtain ⟨u119, v119⟩ : ∃ u, vs 119 = u := ⟨_, rfl⟩
          have v120 : vs 120 = (.int .i64 0) := hk 6 _ 120 rfl rfl (by decide)
          have v26 : vs 26 = (.int .i64 0) := hk 9 _ 26 rfl rfl (by decide)
          obtain ⟨b25, T25, ao25, le25, ca25, h25, hB25, hA25, hS25, -⟩ := hx (by decide)
          have v25 : vs 25 = .pointer (some ⟨b25, 0, none⟩) := (V.puts_eval (by decide) (by show 25 < 166; omega)).symm.trans h25
          simp only [V.puts, List.foldl_cons, List.foldl_nil, v115, v116, v117, v118, v114, v119, v120, v26, v25, Act.put, List.setIfInBounds_toArray, List.set_cons_zero, List.set_cons_succ]
          clear hk hx h25 hB25 v115 v116 v117 v118 v114 v119 v120 v26 v25
          obtain ⟨v25, HH25⟩ : ∃ v, Hid (Here w10 b25 v ra (Z.an A (Z.nt A))) := ⟨_, hide ⟨_, _, rfl, hA25, hS25⟩⟩
          clear hA25 hS25
          replace HH15 := hide (HH15.out.below hwv)
          replace HH19 := hide (HH19.out.below hwv)
          replace HH21 := hide (HH21.out.below hwv)
          replace HH23 := hide (HH23.out.below hwv)
          replace BB := hide (bthen BB.out hwv)
          clear hwv
          go_wp2_with fail
          have HT := hide (H0.out.below BB.out)
          have hO : (Z.ls (Z.orr A (Z.nt A))).length = k := by rw [orr_nt, all_ls, HAL.out]
          have hQ : (Z.ls (Z.an A (Z.nt A))).length = 0 := by rw [an_nt, none_ls]
          have hcA : (Z.ls A).length ≤ k := by have := ls_len A; rw [HAL.out] at this; exact this
          have hcN : (Z.ls (Z.nt D)).length ≤ k := by have := ls_len (Z.nt D); rw [nt_length, HDL19.out] at this; exact this
          refine V.wp_region_tail (w0 := w10) 31 [135, 136, 137, 138, 139, 140, 141, 142, 143, 144, 145, 146, 147, 148, 149, 150, 151, 152, 153, 154, 155, 156, 157, 158, 159, 160, 161, 162, 163, 164, 165] [9, 10, 15, 19, 21, 23, 25] (posRulesTbl k w10.heap.size b15 b19 b21 b23 b25 v15 v19 v21 v23 v25 ra A (Z.nt A) (Z.nt D) (Z.ls A).length (Z.nums (Z.tz tb) ra A) (Z.ls (Z.nt D)).length (Z.nums (Z.tz tb) ra (Z.nt D)) (Z.ls (Z.orr A (Z.nt A))).length (Z.nums (Z.tz tb) ra (Z.orr A (Z.nt A))) (Z.ls (Z.an A (Z.nt A))).length (Z.nums (Z.tz tb) ra (Z.an A (Z.nt A)))) (by decide) rfl (by kernel_rfl) (by kernel_rfl) (by kernel_rfl) (Below.refl _ _) ?hb ?hs ?hd
          case hb =>
            intro d hd
            simp only [List.mem_cons, List.not_mem_nil, or_false] at hd
            rcases hd with rfl | rfl | rfl | rfl | rfl | rfl | rfl <;> rfl
          case hs =>
            refine ⟨?_, ?_, ?_, ?_, ?_, ?_, ?_, ?_, ?_, ?_, ?_, ?_, ?_, ?_, ?_, ?_, ?_, ?_, ?_, ?_, ?_, ?_, ?_, ?_, ?_, ?_, ?_, ?_, ?_, ?_, ?_, trivial⟩
            · exact V.Step.move (.inl rfl) (.inl rfl) (.inl ⟨_, rfl⟩) (fun _ h => by cases h; rfl)
            · exact V.Step.move (.inl rfl) (.inl rfl) (.inl ⟨_, rfl⟩) (fun _ h => by cases h; rfl)
            · exact V.Step.ldH (.inr ⟨_, _, _, rfl, rfl, rfl⟩) rfl rfl HH19.out (fun _ h => by cases h; rfl)
            · exact V.Step.notV (.inr ⟨_, _, _, rfl, rfl, rfl⟩) rfl rfl HH19.out.set ra1 ra3 (fun _ h => by cases h; rfl)
            · exact V.Step.listS (.inr ⟨_, _, _, rfl, rfl, rfl⟩) rfl rfl HT.out (fun _ h => by cases h; rfl)
            · exact V.Step.ldH (.inr ⟨_, _, _, rfl, rfl, rfl⟩) rfl rfl HH21.out (fun _ h => by cases h; rfl)
            · exact V.Step.listV (.inr ⟨_, _, _, rfl, rfl, rfl⟩) rfl rfl HH21.out.set HT.out (fun _ h => by cases h; rfl)
            · exact V.Step.ints (.inr ⟨_, _, _, rfl, rfl, rfl⟩) rfl rfl rfl rfl (by omega) (fun _ h => by cases h; rfl)
            · exact V.Step.pick (b := true) (.inl rfl) rfl ⟨_, rfl, rfl⟩ (.inl ⟨_, rfl⟩) (fun _ h => by cases h; rfl)
            · exact V.Step.move (.inl rfl) (.inl rfl) (.inl ⟨_, rfl⟩) (fun _ h => by cases h; rfl)
            · exact V.Step.ldH (.inr ⟨_, _, _, rfl, rfl, rfl⟩) rfl rfl HH15.out (fun _ h => by cases h; rfl)
            · exact V.Step.notV (.inr ⟨_, _, _, rfl, rfl, rfl⟩) rfl rfl HH15.out.set ra1 ra3 (fun _ h => by cases h; rfl)
            · exact V.Step.notS (.inr ⟨_, _, _, rfl, rfl, rfl⟩) rfl rfl ra1 ra3 (fun _ h => by cases h; rw [nt_nt]; rfl)
            · exact V.Step.listS (.inr ⟨_, _, _, rfl, rfl, rfl⟩) rfl rfl HT.out (fun _ h => by cases h; rfl)
            · exact V.Step.ldH (.inr ⟨_, _, _, rfl, rfl, rfl⟩) rfl rfl HH15.out (fun _ h => by cases h; rfl)
            · exact V.Step.listV (.inr ⟨_, _, _, rfl, rfl, rfl⟩) rfl rfl HH15.out.set HT.out (fun _ h => by cases h; rfl)
            · exact V.Step.ints (.inr ⟨_, _, _, rfl, rfl, rfl⟩) rfl rfl rfl rfl (by omega) (fun _ h => by cases h; rfl)
            · exact V.Step.pick (b := true) (.inl rfl) rfl ⟨_, rfl, rfl⟩ (.inl ⟨_, rfl⟩) (fun _ h => by cases h; rfl)
            · exact V.Step.move (.inl rfl) (.inl rfl) (.inl ⟨_, rfl⟩) (fun _ h => by cases h; rfl)
            · exact V.Step.ldH (.inr ⟨_, _, _, rfl, rfl, rfl⟩) rfl rfl HH23.out (fun _ h => by cases h; rfl)
            · exact V.Step.listV (.inr ⟨_, _, _, rfl, rfl, rfl⟩) rfl rfl HH23.out.set HT.out (fun _ h => by cases h; rfl)
            · exact V.Step.lenI (.inr ⟨_, _, _, rfl, rfl, rfl⟩) rfl rfl (fun _ h => by cases h; rfl)
            · exact V.Step.move (.inr ⟨_, _, _, rfl, rfl, rfl⟩) (.inl rfl) (.inl ⟨_, rfl⟩) (fun _ h => by cases h; rfl)
            · exact V.Step.bin (v1 := .int .i64 ((Z.ls (Z.orr A (Z.nt A))).length : Int)) (v2 := .int .i64 (k : Int)) (v := .bool true) (.inr ⟨_, _, _, rfl, rfl, rfl⟩) rfl (.inl ⟨_, rfl⟩) (.inl ⟨_, rfl⟩) rfl rfl (fun w => ⟨rfl, V.run_eqI w _ _ (by omega)⟩) (fun _ h => by cases h; rfl)
            · exact V.Step.pick (b := true) (.inl rfl) rfl ⟨_, rfl, rfl⟩ (.inl ⟨_, rfl⟩) (fun _ h => by cases h; rfl)
            · exact V.Step.move (.inl rfl) (.inl rfl) (.inl ⟨_, rfl⟩) (fun _ h => by cases h; rfl)
            · exact V.Step.ldH (.inr ⟨_, _, _, rfl, rfl, rfl⟩) rfl rfl HH25.out (fun _ h => by cases h; rfl)
            · exact V.Step.listV (.inr ⟨_, _, _, rfl, rfl, rfl⟩) rfl rfl HH25.out.set HT.out (fun _ h => by cases h; rfl)
            · exact V.Step.lenI (.inr ⟨_, _, _, rfl, rfl, rfl⟩) rfl rfl (fun _ h => by cases h; rfl)
            · exact V.Step.bin (v1 := .int .i64 ((Z.ls (Z.an A (Z.nt A))).length : Int)) (v2 := .int .i64 0) (v := .bool true) (.inr ⟨_, _, _, rfl, rfl, rfl⟩) rfl (.inl ⟨_, rfl⟩) (.inr ⟨_, rfl⟩) rfl rfl (fun w => ⟨rfl, V.run_eqI w _ _ (by omega)⟩) (fun _ h => by cases h; rfl)
            · exact V.Step.pick (b := true) (.inl rfl) rfl ⟨_, rfl, rfl⟩ (.inl ⟨_, rfl⟩) (fun _ h => by cases h; rfl)
          case hd =>
          intro vs wz hwv hk9
          have v135 : vs 135 = (.bool true) := hk9 0 _ 135 rfl rfl
          have v136 : vs 136 = (.bool true) := hk9 1 _ 136 rfl rfl
          have v137 : vs 137 = v19 := hk9 2 _ 137 rfl rfl
          obtain ⟨u138, v138⟩ : ∃ u, vs 138 = u := ⟨_, rfl⟩
          obtain ⟨u139, v139⟩ : ∃ u, vs 139 = u := ⟨_, rfl⟩
          have v140 : vs 140 = v21 := hk9 5 _ 140 rfl rfl
          obtain ⟨u141, v141⟩ : ∃ u, vs 141 = u := ⟨_, rfl⟩
          have v142 : vs 142 = (.bool true) := hk9 7 _ 142 rfl rfl
          have v143 : vs 143 = (.bool true) := hk9 8 _ 143 rfl rfl
          have v144 : vs 144 = (.bool true) := hk9 9 _ 144 rfl rfl
          have v145 : vs 145 = v15 := hk9 10 _ 145 rfl rfl
          obtain ⟨u146, v146⟩ : ∃ u, vs 146 = u := ⟨_, rfl⟩
          obtain ⟨u147, v147⟩ : ∃ u, vs 147 = u := ⟨_, rfl⟩
          obtain ⟨u148, v148⟩ : ∃ u, vs 148 = u := ⟨_, rfl⟩
          have v149 : vs 149 = v15 := hk9 14 _ 149 rfl rfl
          obtain ⟨u150, v150⟩ : ∃ u, vs 150 = u := ⟨_, rfl⟩
          have v151 : vs 151 = (.bool true) := hk9 16 _ 151 rfl rfl
          have v152 : vs 152 = (.bool true) := hk9 17 _ 152 rfl rfl
          have v153 : vs 153 = (.bool true) := hk9 18 _ 153 rfl rfl
          have v154 : vs 154 = v23 := hk9 19 _ 154 rfl rfl
          obtain ⟨u155, v155⟩ : ∃ u, vs 155 = u := ⟨_, rfl⟩
          have v156 : vs 156 = (.int .i64 ((Z.ls (Z.orr A (Z.nt A))).length : Int)) := hk9 21 _ 156 rfl rfl
          have v157 : vs 157 = (.int .i64 (k : Int)) := hk9 22 _ 157 rfl rfl
          have v158 : vs 158 = (.bool true) := hk9 23 _ 158 rfl rfl
          have v159 : vs 159 = (.bool true) := hk9 24 _ 159 rfl rfl
          have v160 : vs 160 = (.bool true) := hk9 25 _ 160 rfl rfl
          have v161 : vs 161 = v25 := hk9 26 _ 161 rfl rfl
          obtain ⟨u162, v162⟩ : ∃ u, vs 162 = u := ⟨_, rfl⟩
          have v163 : vs 163 = (.int .i64 ((Z.ls (Z.an A (Z.nt A))).length : Int)) := hk9 28 _ 163 rfl rfl
          have v164 : vs 164 = (.bool true) := hk9 29 _ 164 rfl rfl
          have v165 : vs 165 = (.bool true) := hk9 30 _ 165 rfl rfl
          simp only [V.puts, List.foldl_cons, List.foldl_nil, v135, v136, v137, v138, v139, v140, v141, v142, v143, v144, v145, v146, v147, v148, v149, v150, v151, v152, v153, v154, v155, v156, v157, v158, v159, v160, v161, v162, v163, v164, v165, Act.put, List.setIfInBounds_toArray, List.set_cons_zero, List.set_cons_succ]
          clear hk9 v135 v136 v137 v138 v139 v140 v141 v142 v143 v144 v145 v146 v147 v148 v149 v150 v151 v152 v153 v154 v155 v156 v157 v158 v159 v160 v161 v162 v163 v164 v165
          simp only [List.drop]
          replace BB := hide (bthen BB.out hwv)
          clear hwv
          go_wp2
          go_ret
          exact ⟨rfl, BB.out⟩
end Go.Proofs.Ytlbchdlokimpfaa

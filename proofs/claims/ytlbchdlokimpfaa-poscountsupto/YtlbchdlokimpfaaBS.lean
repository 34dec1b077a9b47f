/- The walk of the statement: how many are in both and in either. -/
import Derived.Test.YtlbchdlokimpfaaV27
import Derived.Test.YtlbchdlokimpfaaBP
namespace Go.Proofs.Ytlbchdlokimpfaa
set_option linter.unusedVariables false
set_option maxRecDepth 10000
open Go.RowKit

def posCountsTbl15 (B7 B k plen cp : Nat) (ap : Option Addr) (ra : Nat) (r : Int) (cs : List Bool) : List (Nat × V.Ent) :=
  [(7, V.Ent.is (.pointer (some ⟨B7, 0, none⟩))), (10, V.Ent.is (.int .i64 (k : Int))), (11, V.Ent.is (.slice ap plen cp)), (60, V.Ent.is (.int .i64 (k : Int))), (61, V.Ent.is (.slice ap plen cp)), (62, V.Ent.is (.slice ap (min plen 300) cp)), (63, V.Ent.is (.pointer (some ⟨B7, 0, none⟩))), (64, V.Ent.is (.int .u8 r)), (65, V.Ent.is (.int .u8 (r % 3))), (66, V.Ent.is (.int .i64 (r % 3))), (67, V.Ent.is (.int .i64 (1 + r % 3))), (68, V.Ent.laid B ra cs), (59, V.Ent.laid B ra cs), (69, V.Ent.set B ra cs), (70, V.Ent.is (.int .i64 0)), (15, V.Ent.sbox B), (16, V.Ent.is (.int .i64 0))]
def posCountsTbl17 (B7 B k plen cp : Nat) (ap : Option Addr) (ra : Nat) (r : Int) (cs : List Bool) : List (Nat × V.Ent) :=
  [(7, V.Ent.is (.pointer (some ⟨B7, 0, none⟩))), (10, V.Ent.is (.int .i64 (k : Int))), (12, V.Ent.is (.slice ap plen cp)), (72, V.Ent.is (.int .i64 (k : Int))), (73, V.Ent.is (.slice ap plen cp)), (74, V.Ent.is (.slice ap (min plen 300) cp)), (75, V.Ent.is (.pointer (some ⟨B7, 1, none⟩))), (76, V.Ent.is (.int .u8 r)), (77, V.Ent.is (.int .u8 (r % 3))), (78, V.Ent.is (.int .i64 (r % 3))), (79, V.Ent.is (.int .i64 (1 + r % 3))), (80, V.Ent.laid B ra cs), (71, V.Ent.laid B ra cs), (81, V.Ent.set B ra cs), (82, V.Ent.is (.int .i64 0)), (17, V.Ent.sbox B), (18, V.Ent.is (.int .i64 0))]
def posCountsTbl (k : Nat) (B : Nat) (b15 : Nat) (b17 : Nat) (b19 : Nat) (b21 : Nat) (v15 : Value) (v17 : Value) (v19 : Value) (v21 : Value) (ra : Nat) (NA : List Bool) (nA : Nat) (lA : List Int) (nC : Nat) (lC : List Int) (nD : Nat) (lD : List Int) (nE : Nat) (lE : List Int) (nN : Nat) (lN : List Int) : List (Nat × V.Ent) :=
  [(9, V.Ent.is (.bool true)), (10, V.Ent.is (.int .i64 (k : Int))), (15, V.Ent.is (.pointer (some ⟨b15, 0, none⟩))), (17, V.Ent.is (.pointer (some ⟨b17, 0, none⟩))), (19, V.Ent.is (.pointer (some ⟨b19, 0, none⟩))), (21, V.Ent.is (.pointer (some ⟨b21, 0, none⟩))), (16, V.Ent.is (.int .i64 0)), (18, V.Ent.is (.int .i64 0)), (20, V.Ent.is (.int .i64 0)), (22, V.Ent.is (.int .i64 0)), (95, V.Ent.is (.bool true)), (96, V.Ent.is (.bool true)), (97, V.Ent.is (.int .i64 0)), (98, V.Ent.is (.bool true)), (99, V.Ent.is (.bool true)), (100, V.Ent.is (.bool true)), (101, V.Ent.is (.int .i64 0)), (102, V.Ent.is (.bool true)), (103, V.Ent.is (.bool true)), (104, V.Ent.is (.bool true)), (105, V.Ent.is (.int .i64 0)), (106, V.Ent.is (.bool true)), (107, V.Ent.is (.bool true)), (108, V.Ent.is (.bool true)), (109, V.Ent.is (.int .i64 0)), (110, V.Ent.is (.bool true)), (111, V.Ent.is (.bool true)), (112, V.Ent.is (.bool true)), (113, V.Ent.is v19), (114, V.Ent.slI nD lD), (115, V.Ent.is (.int .i64 (nD : Int))), (116, V.Ent.is v21), (117, V.Ent.slI nE lE), (118, V.Ent.is (.int .i64 (nE : Int))), (119, V.Ent.is (.int .i64 ((nD : Int) + nE))), (120, V.Ent.is v15), (121, V.Ent.slI nA lA), (122, V.Ent.is (.int .i64 (nA : Int))), (123, V.Ent.is v17), (124, V.Ent.slI nC lC), (125, V.Ent.is (.int .i64 (nC : Int))), (126, V.Ent.is (.int .i64 ((nA : Int) + nC))), (127, V.Ent.is (.bool true)), (128, V.Ent.is (.bool true)), (129, V.Ent.is (.bool true)), (130, V.Ent.is v15), (131, V.Ent.set B ra NA), (132, V.Ent.slI nN lN), (133, V.Ent.is (.int .i64 (nN : Int))), (134, V.Ent.is (.int .i64 (k : Int))), (135, V.Ent.is v15), (136, V.Ent.slI nA lA), (137, V.Ent.is (.int .i64 (nA : Int))), (138, V.Ent.is (.int .i64 ((k : Int) - nA))), (139, V.Ent.is (.bool true)), (140, V.Ent.is (.bool true))]
set_option maxHeartbeats 16000000 in
theorem posCounts_in (tb : Nat → Int) (w : World) (ht : TabAt w tb) (n : Int) (hn : 0 ≤ n ∧ n < 256) (a : Option Addr) (len cap : Nat) (l : List Int) (h : Sl w .u8 a len cap l) (hw : ∀ x ∈ l, 0 ≤ x ∧ x < 256) (hm : len ≤ 1048576) (a2 : Option Addr) (len2 cap2 : Nat) (l2 : List Int) (h2 : Sl w .u8 a2 len2 cap2 l2) (hw2 : ∀ x ∈ l2, 0 ≤ x ∧ x < 256) (hm2 : len2 ≤ 1048576) (r0 r1 : Int) (hr0 : 0 ≤ r0 ∧ r0 < 256) (hr1 : 0 ≤ r1 ∧ r1 < 256) :
    Calls Try.prog 8 #[.int .u8 n, .slice a len cap, .slice a2 len2 cap2, .agg #[.int .u8 r0, .int .u8 r1]] w fun e w' => e = .returned (.bool true) ∧ Below w.heap.size w w' := by
  obtain ⟨k, hk⟩ : ∃ k : Nat, 1 + n = (k : Int) := ⟨(1 + n).toNat, by omega⟩
  have hk0 : 0 < k := by omega
  have hk2 : k ≤ 256 := by omega
  have hkz : (0 : Int) < (k : Int) := by omega
  have hkz2 : (k : Int) ≤ 256 := by omega
  obtain ⟨n0, n1⟩ := hn
  obtain ⟨ra, hra, ra1, ra3⟩ : ∃ ra : Nat, 1 + r0 % 3 = (ra : Int) ∧ 1 ≤ ra ∧ ra ≤ 3 := ⟨(1 + r0 % 3).toNat, by omega, by omega, by omega⟩
  obtain ⟨rc, hrc, rc1, rc3⟩ : ∃ rc : Nat, 1 + r1 % 3 = (rc : Int) ∧ 1 ≤ rc ∧ rc ≤ 3 := ⟨(1 + r1 % 3).toNat, by omega, by omega, by omega⟩
  have HRA := hide hra
  have HRC := hide hrc
  have H0 := hide ht
  have HL := hide h
  have HW := hide hw
  have HL2 := hide h2
  have HW2 := hide hw2
  have HR0 := hide hr0
  have HR1 := hide hr1
  clear ht h hw h2 hw2 hr0 hr1 hra hrc
  go_enter Try.func8, Try.ntmps8
  go_wp2_with fail
  have hb0 := below_one w (.cells #[.int .u8 r0, .int .u8 r1] 50)
  have hA0 := heap_alloc_new w (.cells #[.int .u8 r0, .int .u8 r1] 50)
  refine (shown_any tb _ (H0.out.below hb0)).mono ?_
  rintro e w1 ⟨rfl, hb⟩
  have BB := hide (bthen hb0 hb)
  have HA := hide ((hb.block _ (lt_of_block hA0)).trans hA0)
  clear hb0 hA0 hb
  go_wp2_with fail
  go_loopw [11, 13] (fun p i wr => ∃ (j : Nat) (ap : Option Addr) (cp : Nat), j ≤ len ∧ i = .int .i64 j ∧ p = .slice ap j cp ∧ Hid (wr.ownsRow w1.heap.size 3 1 (.slice ap j cp) j ((Z.md k (l.take j)).map (Value.int .i64))) ∧ Hid (Below w1.heap.size w1 wr)) (fun p i _ => len - (intOf i).toNat)
  case atStart => exact ⟨0, none, 0, Nat.zero_le _, rfl, rfl, hide (World.ownsRow_nil _ _ _ _), hide (Below.refl _ _)⟩
  case round =>
    rename_i wr
    obtain ⟨j, ap, cp, hj, rfl, rfl, ho, hB⟩ := hrel
    by_cases hlt : j < len
    · obtain ⟨b, off, rfl, hlb, hc⟩ := (HL.out.below (BB.out.trans (hB.out.mono BB.out.size))).cellI hlt
      have hjl : j < l.length := by rw [HL.out.1]; exact hlt
      have hwx := HW.out (l.getD j 0) (by rw [List.getD_eq_getElem?_getD, List.getElem?_eq_getElem hjl]; exact List.getElem_mem hjl)
      have HMD := hide (md_snoc (k := k) hjl)
      have HLN := hide (show (Z.md k (l.take j)).length = j by rw [md_length, List.length_take]; omega)
      obtain ⟨x, hx⟩ : ∃ x, l.getD j 0 = x := ⟨_, rfl⟩
      rw [hx] at hc hwx HMD
      obtain ⟨x0, x1⟩ := hwx
      have hjlen : (j : Int) < (len : Int) := by omega
      have hne : ¬ ((k : Int) = 0) := by omega
      clear hx hjl
      go_wp2_with (at_builtin; refine wpList_appI rfl (.tmp 33) (.tmp 41) rfl w1.heap.size _ (Z.md k (l.take j)) j HLN.out rfl (World.ownsRow.alloc ho.out _) _ 1 (x % (k : Int)) rfl (Sl.one wr 3 .i64 (x % (k : Int))) (by omega) (by have := hB.out.size; simp; omega) ?_)
      intro v' w3 hown has
      have hbl : Below w1.heap.size w1 w3 := (hB.out.alloc hB.out.size _).trans (has.1.below (by have := hB.out.size; simp; omega) (fun q hq => (owns_lt ho.out hq).1))
      obtain ⟨g, c9, rfl⟩ := ownsRow_succ hown
      have HO := hide hown
      have HBL := hide hbl
      clear hown has hbl ho hB hc
      go_wp2
      refine ⟨⟨j + 1, _, _, hlt, by simp, rfl, hide ?_, HBL⟩, by simp [intOf]; omega⟩
      rw [HMD.out, List.map_append]
      exact HO.out
    · obtain rfl : len = j := by omega
      have hsl := V.Sl.of_row (hl := by rw [md_length, List.length_take, HL.out.1]; omega) ho.out
      rw [List.take_of_length_le (by rw [HL.out.1]; exact Nat.le_refl _)] at hsl
      obtain ⟨w2, hw2⟩ : ∃ w2, wr = w2 := ⟨_, rfl⟩
      rw [hw2] at hsl hB ⊢
      have HP := hide hsl
      replace HA := hide ((hB.out.block _ (lt_of_block HA.out)).trans HA.out)
      replace BB := hide (bthen BB.out hB.out)
      clear ho hB hw2 hsl
      generalize ap = ap1 at *
      generalize cp = cp1 at *
      go_wp2_with fail
      go_loopw [12, 14] (fun p i wr => ∃ (j : Nat) (ap : Option Addr) (cp : Nat), j ≤ len2 ∧ i = .int .i64 j ∧ p = .slice ap j cp ∧ Hid (wr.ownsRow w2.heap.size 3 1 (.slice ap j cp) j ((Z.md k (l2.take j)).map (Value.int .i64))) ∧ Hid (Below w2.heap.size w2 wr)) (fun p i _ => len2 - (intOf i).toNat)
      case atStart => exact ⟨0, none, 0, Nat.zero_le _, rfl, rfl, hide (World.ownsRow_nil _ _ _ _), hide (Below.refl _ _)⟩
      case round =>
        rename_i wr
        obtain ⟨j, ap, cp, hj, rfl, rfl, ho, hB⟩ := hrel
        by_cases hlt : j < len2
        · obtain ⟨b, off, rfl, hlb, hc⟩ := (HL2.out.below (BB.out.trans (hB.out.mono BB.out.size))).cellI hlt
          have hjl : j < l2.length := by rw [HL2.out.1]; exact hlt
          have hwx := HW2.out (l2.getD j 0) (by rw [List.getD_eq_getElem?_getD, List.getElem?_eq_getElem hjl]; exact List.getElem_mem hjl)
          have HMD := hide (md_snoc (k := k) hjl)
          have HLN := hide (show (Z.md k (l2.take j)).length = j by rw [md_length, List.length_take]; omega)
          obtain ⟨x, hx⟩ : ∃ x, l2.getD j 0 = x := ⟨_, rfl⟩
          rw [hx] at hc hwx HMD
          obtain ⟨x0, x1⟩ := hwx
          have hjlen : (j : Int) < (len2 : Int) := by omega
          have hne : ¬ ((k : Int) = 0) := by omega
          clear hx hjl
          go_wp2_with (at_builtin; refine wpList_appI rfl (.tmp 49) (.tmp 57) rfl w2.heap.size _ (Z.md k (l2.take j)) j HLN.out rfl (World.ownsRow.alloc ho.out _) _ 1 (x % (k : Int)) rfl (Sl.one wr 3 .i64 (x % (k : Int))) (by omega) (by have := hB.out.size; simp; omega) ?_)
          intro v' w3 hown has
          have hbl : Below w2.heap.size w2 w3 := (hB.out.alloc hB.out.size _).trans (has.1.below (by have := hB.out.size; simp; omega) (fun q hq => (owns_lt ho.out hq).1))
          obtain ⟨g, c9, rfl⟩ := ownsRow_succ hown
          have HO := hide hown
          have HBL := hide hbl
          clear hown has hbl ho hB hc
          go_wp2
          refine ⟨⟨j + 1, _, _, hlt, by simp, rfl, hide ?_, HBL⟩, by simp [intOf]; omega⟩
          rw [HMD.out, List.map_append]
          exact HO.out
        · obtain rfl : len2 = j := by omega
          have hsl := V.Sl.of_row (hl := by rw [md_length, List.length_take, HL2.out.1]; omega) ho.out
          rw [List.take_of_length_le (by rw [HL2.out.1]; exact Nat.le_refl _)] at hsl
          obtain ⟨w3, hw3⟩ : ∃ w3, wr = w3 := ⟨_, rfl⟩
          rw [hw3] at hsl hB ⊢
          have HQ := hide hsl
          replace HA := hide ((hB.out.block _ (lt_of_block HA.out)).trans HA.out)
          replace HP := hide (HP.out.below hB.out)
          replace BB := hide (bthen BB.out hB.out)
          clear ho hB hw3 hsl
          generalize ap = ap2 at *
          generalize cp = cp2 at *
          obtain ⟨A, hAA⟩ : ∃ A, Z.fo k ((Z.md k l).take 300) = A := ⟨_, rfl⟩
          have HAL := hide (show A.length = k by rw [← hAA]; exact fo_length _ _)
          have HAA := hide hAA
          obtain ⟨C, hCC⟩ : ∃ C, Z.fo k ((Z.md k l2).take 300) = C := ⟨_, rfl⟩
          have HCL := hide (show C.length = k by rw [← hCC]; exact fo_length _ _)
          have HCC := hide hCC
          clear hAA hCC
          go_wp2_with fail
          have hf : Sl w3 .i64 ap1 (min len 300) cp1 ((Z.md k l).take 300) := by
            rcases Nat.lt_or_ge 300 len with h9 | h9
            · rw [Nat.min_eq_right (by omega)]; exact HP.out.upto 300 (by omega)
            · rw [Nat.min_eq_left h9, List.take_of_length_le (by rw [HP.out.1]; exact h9)]; exact HP.out
          have hl7 : w.heap.size < w3.heap.size := lt_of_block HA.out
          have hc7 : w3.cell? ⟨w.heap.size, 0, none⟩ = some (.int .u8 r0) := by have := HA.out; simp [World.cell?, this]
          refine V.wp_region_dead (w0 := w3) [60, 61, 62, 63, 64, 65, 66, 67, 68, 59, 69, 70, 15, 16] [7, 10, 11] [(13, [15])] (posCountsTbl15 w.heap.size w3.heap.size k len cp1 ap1 ra r0 A) (V.LaidS 15 w3.heap.size ra A) 13 rfl (by kernel_rfl) (by kernel_rfl) (by kernel_rfl) (Below.refl _ _) ?hb ?hs ?hX ?hd
          case hb =>
            intro d hd
            simp only [List.mem_cons, List.not_mem_nil, or_false] at hd
            rcases hd with rfl | rfl | rfl <;> rfl
          case hs =>
            refine ⟨.inl ⟨rfl, by decide, ?_⟩, .inl ⟨rfl, by decide, ?_⟩, .inl ⟨rfl, by decide, ?_⟩, .inl ⟨rfl, by decide, ?_⟩, .inl ⟨rfl, by decide, ?_⟩, .inl ⟨rfl, by decide, ?_⟩, .inl ⟨rfl, by decide, ?_⟩, .inl ⟨rfl, by decide, ?_⟩, .inl ⟨rfl, by decide, ?_⟩, .inl ⟨rfl, by decide, ?_⟩, .inl ⟨rfl, by decide, ?_⟩, .inl ⟨rfl, by decide, ?_⟩, .inl ⟨rfl, by decide, ?_⟩, .inr ⟨.inl rfl, ?_⟩, .inl ⟨rfl, by decide, ?_⟩, trivial⟩
            · exact V.Step.move (.inl rfl) (.inl rfl) (.inl ⟨_, rfl⟩) (fun _ h => by cases h; rfl)
            · exact V.Step.move (.inl rfl) (.inl rfl) (.inl ⟨_, rfl⟩) (fun _ h => by cases h; rfl)
            · exact V.Step.few (.inl rfl) rfl rfl HP.out (by omega) (fun _ h => by cases h; rfl)
            · exact V.Step.idxA (i := 0) (.inl rfl) rfl rfl (by decide) (fun _ h => by cases h; rfl)
            · exact V.Step.ldU8 (.inl rfl) rfl rfl hl7 hc7 (fun _ h => by cases h; rfl)
            · exact V.Step.bin (v1 := .int .u8 r0) (v2 := .int .u8 3) (v := .int .u8 (r0 % 3)) (.inl rfl) rfl (.inl ⟨_, rfl⟩) (.inr ⟨_, rfl⟩) rfl rfl (fun w => ⟨rfl, V.run_rem3 w r0 HR0.out.1⟩) (fun _ h => by cases h; rfl)
            · exact V.Step.conv (.inl rfl) rfl rfl (fun w => V.run_conv8 w (r0 % 3) (by omega) (by omega)) (fun _ h => by cases h; rfl)
            · exact V.Step.bin (v1 := .int .i64 1) (v2 := .int .i64 (r0 % 3)) (v := .int .i64 (1 + r0 % 3)) (.inl rfl) rfl (.inr ⟨_, rfl⟩) (.inl ⟨_, rfl⟩) rfl rfl (fun w => ⟨rfl, V.run_add1 w (r0 % 3) (by omega) (by omega)⟩) (fun _ h => by cases h; rfl)
            · exact V.Step.of (.inl rfl) rfl rfl rfl rfl HRA.out hf (md_in hk0) (by omega) (by omega) ra1 ra3 HAA.out (fun _ h => by cases h; rfl)
            · exact V.Step.move (.inl rfl) (.inl rfl) (.inl ⟨_, rfl⟩) (fun _ h => by cases h; rfl)
            · exact V.Step.ext0S (.inl rfl) rfl rfl (fun _ h => by cases h; rfl)
            · exact V.Step.ext1S (.inl rfl) rfl rfl (fun _ h => by cases h; rfl)
            · exact V.Step.sbox (.inl rfl) rfl (fun _ h => by cases h; rfl)
            · refine V.Touch.layS rfl rfl rfl rfl rfl (fun d hd => ?_)
              replace hd : d ∈ [7, 10, 11] ∨ d ∈ [60, 61, 62, 63, 64, 65, 66, 67, 68, 59, 69, 70] := by
                rcases hd with hd | hd
                · exact .inl hd
                · exact .inr (V.mem_alive [60, 61, 62, 63, 64, 65, 66, 67, 68, 59, 69, 70] hd (by kernel_rfl))
              simp only [List.mem_cons, List.not_mem_nil, or_false] at hd
              rcases hd with (rfl | rfl | rfl) | (rfl | rfl | rfl | rfl | rfl | rfl | rfl | rfl | rfl | rfl | rfl | rfl)
              all_goals first | exact V.SafeS.is _ | exact V.SafeS.laid _ _ _ | exact V.SafeS.set _ _ _
            · exact V.Step.move (.inl rfl) (.inr rfl) (.inl ⟨_, rfl⟩) (fun _ h => by cases h; rfl)
          case hX =>
            intro j o hj hwt hne a wa wb v hx hbb
            exact hx.put hbb (V.once_get (by kernel_rfl) hj hwt hne)
          case hd =>
          intro vs w4 hwv hk hx
          have v60 : vs 60 = (.int .i64 (k : Int)) := hk 0 _ 60 rfl rfl (by decide)
          have v61 : vs 61 = (.slice ap1 len cp1) := hk 1 _ 61 rfl rfl (by decide)
          have v62 : vs 62 = (.slice ap1 (min len 300) cp1) := hk 2 _ 62 rfl rfl (by decide)
          have v63 : vs 63 = (.pointer (some ⟨w.heap.size, 0, none⟩)) := hk 3 _ 63 rfl rfl (by decide)
          have v64 : vs 64 = (.int .u8 r0) := hk 4 _ 64 rfl rfl (by decide)
          have v65 : vs 65 = (.int .u8 (r0 % 3)) := hk 5 _ 65 rfl rfl (by decide)
          have v66 : vs 66 = (.int .i64 (r0 % 3)) := hk 6 _ 66 rfl rfl (by decide)
          have v67 : vs 67 = (.int .i64 (1 + r0 % 3)) := hk 7 _ 67 rfl rfl (by decide)
          obtain ⟨u68, v68⟩ : ∃ u, vs 68 = u := ⟨_, rfl⟩
          obtain ⟨u59, v59⟩ : ∃ u, vs 59 = u := ⟨_, rfl⟩
          obtain ⟨u69, v69⟩ : ∃ u, vs 69 = u := ⟨_, rfl⟩
          have v70 : vs 70 = (.int .i64 0) := hk 11 _ 70 rfl rfl (by decide)
          have v16 : vs 16 = (.int .i64 0) := hk 14 _ 16 rfl rfl (by decide)
          obtain ⟨b15, T15, ao15, le15, ca15, h15, hB15, hA15, hS15, -⟩ := hx (by decide)
          have v15 : vs 15 = .pointer (some ⟨b15, 0, none⟩) := (V.puts_eval (by decide) (by show 15 < 141; omega)).symm.trans h15
          simp only [V.puts, List.foldl_cons, List.foldl_nil, v60, v61, v62, v63, v64, v65, v66, v67, v68, v59, v69, v70, v16, v15, Act.put, List.setIfInBounds_toArray, List.set_cons_zero, List.set_cons_succ]
          clear hk hx h15 hB15 v60 v61 v62 v63 v64 v65 v66 v67 v68 v59 v69 v70 v16 v15
          clear hf hl7 hc7
          replace HA := hide ((hwv.block _ (lt_of_block HA.out)).trans HA.out)
          replace HQ := hide (HQ.out.below hwv)
          replace BB := hide (bthen BB.out hwv)
          have HX15 := hide hA15
          have HS15 := hide hS15
          clear hwv hA15 hS15 HP
          go_wp2_with fail
          have hf : Sl w4 .i64 ap2 (min len2 300) cp2 ((Z.md k l2).take 300) := by
            rcases Nat.lt_or_ge 300 len2 with h9 | h9
            · rw [Nat.min_eq_right (by omega)]; exact HQ.out.upto 300 (by omega)
            · rw [Nat.min_eq_left h9, List.take_of_length_le (by rw [HQ.out.1]; exact h9)]; exact HQ.out
          have hl7 : w.heap.size < w4.heap.size := lt_of_block HA.out
          have hc7 : w4.cell? ⟨w.heap.size, 1, none⟩ = some (.int .u8 r1) := by have := HA.out; simp [World.cell?, this]
          refine V.wp_region_dead (w0 := w4) [72, 73, 74, 75, 76, 77, 78, 79, 80, 71, 81, 82, 17, 18] [7, 10, 12] [(13, [17])] (posCountsTbl17 w.heap.size w4.heap.size k len2 cp2 ap2 rc r1 C) (V.LaidS 17 w4.heap.size rc C) 13 rfl (by kernel_rfl) (by kernel_rfl) (by kernel_rfl) (Below.refl _ _) ?hb ?hs ?hX ?hd
          case hb =>
            intro d hd
            simp only [List.mem_cons, List.not_mem_nil, or_false] at hd
            rcases hd with rfl | rfl | rfl <;> rfl
          case hs =>
            refine ⟨.inl ⟨rfl, by decide, ?_⟩, .inl ⟨rfl, by decide, ?_⟩, .inl ⟨rfl, by decide, ?_⟩, .inl ⟨rfl, by decide, ?_⟩, .inl ⟨rfl, by decide, ?_⟩, .inl ⟨rfl, by decide, ?_⟩, .inl ⟨rfl, by decide, ?_⟩, .inl ⟨rfl, by decide, ?_⟩, .inl ⟨rfl, by decide, ?_⟩, .inl ⟨rfl, by decide, ?_⟩, .inl ⟨rfl, by decide, ?_⟩, .inl ⟨rfl, by decide, ?_⟩, .inl ⟨rfl, by decide, ?_⟩, .inr ⟨.inl rfl, ?_⟩, .inl ⟨rfl, by decide, ?_⟩, trivial⟩
            · exact V.Step.move (.inl rfl) (.inl rfl) (.inl ⟨_, rfl⟩) (fun _ h => by cases h; rfl)
            · exact V.Step.move (.inl rfl) (.inl rfl) (.inl ⟨_, rfl⟩) (fun _ h => by cases h; rfl)
            · exact V.Step.few (.inl rfl) rfl rfl HQ.out (by omega) (fun _ h => by cases h; rfl)
            · exact V.Step.idxA (i := 1) (.inl rfl) rfl rfl (by decide) (fun _ h => by cases h; rfl)
            · exact V.Step.ldU8 (.inl rfl) rfl rfl hl7 hc7 (fun _ h => by cases h; rfl)
            · exact V.Step.bin (v1 := .int .u8 r1) (v2 := .int .u8 3) (v := .int .u8 (r1 % 3)) (.inl rfl) rfl (.inl ⟨_, rfl⟩) (.inr ⟨_, rfl⟩) rfl rfl (fun w => ⟨rfl, V.run_rem3 w r1 HR1.out.1⟩) (fun _ h => by cases h; rfl)
            · exact V.Step.conv (.inl rfl) rfl rfl (fun w => V.run_conv8 w (r1 % 3) (by omega) (by omega)) (fun _ h => by cases h; rfl)
            · exact V.Step.bin (v1 := .int .i64 1) (v2 := .int .i64 (r1 % 3)) (v := .int .i64 (1 + r1 % 3)) (.inl rfl) rfl (.inr ⟨_, rfl⟩) (.inl ⟨_, rfl⟩) rfl rfl (fun w => ⟨rfl, V.run_add1 w (r1 % 3) (by omega) (by omega)⟩) (fun _ h => by cases h; rfl)
            · exact V.Step.of (.inl rfl) rfl rfl rfl rfl HRC.out hf (md_in hk0) (by omega) (by omega) rc1 rc3 HCC.out (fun _ h => by cases h; rfl)
            · exact V.Step.move (.inl rfl) (.inl rfl) (.inl ⟨_, rfl⟩) (fun _ h => by cases h; rfl)
            · exact V.Step.ext0S (.inl rfl) rfl rfl (fun _ h => by cases h; rfl)
            · exact V.Step.ext1S (.inl rfl) rfl rfl (fun _ h => by cases h; rfl)
            · exact V.Step.sbox (.inl rfl) rfl (fun _ h => by cases h; rfl)
            · refine V.Touch.layS rfl rfl rfl rfl rfl (fun d hd => ?_)
              replace hd : d ∈ [7, 10, 12] ∨ d ∈ [72, 73, 74, 75, 76, 77, 78, 79, 80, 71, 81, 82] := by
                rcases hd with hd | hd
                · exact .inl hd
                · exact .inr (V.mem_alive [72, 73, 74, 75, 76, 77, 78, 79, 80, 71, 81, 82] hd (by kernel_rfl))
              simp only [List.mem_cons, List.not_mem_nil, or_false] at hd
              rcases hd with (rfl | rfl | rfl) | (rfl | rfl | rfl | rfl | rfl | rfl | rfl | rfl | rfl | rfl | rfl | rfl)
              all_goals first | exact V.SafeS.is _ | exact V.SafeS.laid _ _ _ | exact V.SafeS.set _ _ _
            · exact V.Step.move (.inl rfl) (.inr rfl) (.inl ⟨_, rfl⟩) (fun _ h => by cases h; rfl)
          case hX =>
            intro j o hj hwt hne a wa wb v hx hbb
            exact hx.put hbb (V.once_get (by kernel_rfl) hj hwt hne)
          case hd =>
          intro vs w5 hwv hk hx
          have v72 : vs 72 = (.int .i64 (k : Int)) := hk 0 _ 72 rfl rfl (by decide)
          have v73 : vs 73 = (.slice ap2 len2 cp2) := hk 1 _ 73 rfl rfl (by decide)
          have v74 : vs 74 = (.slice ap2 (min len2 300) cp2) := hk 2 _ 74 rfl rfl (by decide)
          have v75 : vs 75 = (.pointer (some ⟨w.heap.size, 1, none⟩)) := hk 3 _ 75 rfl rfl (by decide)
          have v76 : vs 76 = (.int .u8 r1) := hk 4 _ 76 rfl rfl (by decide)
          have v77 : vs 77 = (.int .u8 (r1 % 3)) := hk 5 _ 77 rfl rfl (by decide)
          have v78 : vs 78 = (.int .i64 (r1 % 3)) := hk 6 _ 78 rfl rfl (by decide)
          have v79 : vs 79 = (.int .i64 (1 + r1 % 3)) := hk 7 _ 79 rfl rfl (by decide)
          obtain ⟨u80, v80⟩ : ∃ u, vs 80 = u := ⟨_, rfl⟩
          obtain ⟨u71, v71⟩ : ∃ u, vs 71 = u := ⟨_, rfl⟩
          obtain ⟨u81, v81⟩ : ∃ u, vs 81 = u := ⟨_, rfl⟩
          have v82 : vs 82 = (.int .i64 0) := hk 11 _ 82 rfl rfl (by decide)
          have v18 : vs 18 = (.int .i64 0) := hk 14 _ 18 rfl rfl (by decide)
          obtain ⟨b17, T17, ao17, le17, ca17, h17, hB17, hA17, hS17, -⟩ := hx (by decide)
          have v17 : vs 17 = .pointer (some ⟨b17, 0, none⟩) := (V.puts_eval (by decide) (by show 17 < 141; omega)).symm.trans h17
          simp only [V.puts, List.foldl_cons, List.foldl_nil, v72, v73, v74, v75, v76, v77, v78, v79, v80, v71, v81, v82, v18, v17, Act.put, List.setIfInBounds_toArray, List.set_cons_zero, List.set_cons_succ]
          clear hk hx h17 hB17 v72 v73 v74 v75 v76 v77 v78 v79 v80 v71 v81 v82 v18 v17
          clear hf hl7 hc7
          replace HX15 := hide (HX15.out.below hwv)
          replace HS15 := hide (HS15.out.below hwv)
          replace BB := hide (bthen BB.out hwv)
          have HX17 := hide hA17
          have HS17 := hide hS17
          clear hwv hA17 hS17 HQ HA
          obtain ⟨v15, HH15⟩ : ∃ v, Hid (Here w5 b15 v ra A) := ⟨_, hide ⟨_, _, rfl, HX15.out, HS15.out⟩⟩
          obtain ⟨v17, HH17⟩ : ∃ v, Hid (Here w5 b17 v rc C) := ⟨_, hide ⟨_, _, rfl, HX17.out, HS17.out⟩⟩
          clear HX15 HX17 HS15 HS17
          obtain ⟨x15, y15, e15, a15, s15⟩ := HH15.out
          obtain ⟨x17, y17, e17, a17, s17⟩ := HH17.out
          have d15 := a15.cells
          have d17 := a17.cells
          go_wp2_with fail
          rw [← e15, ← e17]
          clear d15 d17 e15 a15 s15 e17 a17 s17 x15 y15 x17 y17
          refine (and_any _ _ ra rc A C _ HH15.out.set HH17.out.set (by rw [HAL.out, HCL.out]) ra1 ra3).mono ?_
          rintro e w6 ⟨s, rfl, hs1, -, hb⟩
          obtain ⟨T, ao, le, ca, rfl⟩ := SetAt.shape hs1
          obtain ⟨D, HD19⟩ : ∃ D, Hid (Z.an A C = D) := ⟨_, hide rfl⟩
          have HDL19 := hide (show D.length = k by rw [← HD19.out, an_length (by rw [HAL.out, HCL.out]), HAL.out])
          rw [HD19.out] at hs1 ⊢
          rw [HDL19.out] at hs1 ⊢
          have hS := hide hs1
          have hB := hide hb
          obtain ⟨x15, y15, e15, a15, s15⟩ := HH15.out.below hb
          obtain ⟨x17, y17, e17, a17, s17⟩ := HH17.out.below hb
          have d15 : ∀ o, (w6.alloc o).cell? ⟨b15, 0, none⟩ = some x15 := fun o => (a15.below (below_one w6 o)).cells.1
          have f15 : ∀ o, (w6.alloc o).cell? ⟨b15, 1, none⟩ = some y15 := fun o => (a15.below (below_one w6 o)).cells.2
          have d17 : ∀ o, (w6.alloc o).cell? ⟨b17, 0, none⟩ = some x17 := fun o => (a17.below (below_one w6 o)).cells.1
          have f17 : ∀ o, (w6.alloc o).cell? ⟨b17, 1, none⟩ = some y17 := fun o => (a17.below (below_one w6 o)).cells.2
          clear a15 s15 a17 s17
          clear hs1 hb
          go_wp2_with fail
          rw [← e15, ← e17]
          clear d15 d17 f15 f17 e15 e17 x15 y15 x17 y17
          have hA := AtS.new w6 (.int .i64 (k : Int)) (.iface T (.slice ao le ca))
          have hbA := below_one w6 (.cells #[.int .i64 (k : Int), .iface T (.slice ao le ca)] 28)
          have hS2 := hS.out.below hbA
          obtain ⟨w7, hw9⟩ : ∃ w9, w6.alloc (.cells #[.int .i64 (k : Int), .iface T (.slice ao le ca)] 28) = w9 := ⟨_, rfl⟩
          obtain ⟨b19, hb9⟩ : ∃ b9, w6.heap.size = b9 := ⟨_, rfl⟩
          rw [hw9] at hA hbA hS2 ⊢
          have hb2 := bthen hB.out hbA
          rw [hb9] at hA ⊢
          obtain ⟨v19, HH19⟩ : ∃ v, Hid (Here w7 b19 v ra D) := ⟨_, hide ⟨_, _, rfl, hA, hS2⟩⟩
          clear hA hS2 hS hB hw9 hb9 hbA
          replace HH15 := hide (HH15.out.below hb2)
          replace HH17 := hide (HH17.out.below hb2)
          replace BB := hide (bthen BB.out hb2)
          clear hb2
          refine (or_any _ _ ra rc A C _ HH15.out.set HH17.out.set (by rw [HAL.out, HCL.out]) ra1 ra3).mono ?_
          rintro e w8 ⟨s, rfl, hs1, -, hb⟩
          obtain ⟨T, ao, le, ca, rfl⟩ := SetAt.shape hs1
          obtain ⟨E, HD21⟩ : ∃ D, Hid (Z.orr A C = D) := ⟨_, hide rfl⟩
          have HDL21 := hide (show E.length = k by rw [← HD21.out, orr_length (by rw [HAL.out, HCL.out]), HAL.out])
          rw [HD21.out] at hs1 ⊢
          rw [HDL21.out] at hs1 ⊢
          have hS := hide hs1
          have hB := hide hb
          clear hs1 hb
          go_wp2_with fail
          have hA := AtS.new w8 (.int .i64 (k : Int)) (.iface T (.slice ao le ca))
          have hbA := below_one w8 (.cells #[.int .i64 (k : Int), .iface T (.slice ao le ca)] 28)
          have hS2 := hS.out.below hbA
          obtain ⟨w9, hw9⟩ : ∃ w9, w8.alloc (.cells #[.int .i64 (k : Int), .iface T (.slice ao le ca)] 28) = w9 := ⟨_, rfl⟩
          obtain ⟨b21, hb9⟩ : ∃ b9, w8.heap.size = b9 := ⟨_, rfl⟩
          rw [hw9] at hA hbA hS2 ⊢
          have hb2 := bthen hB.out hbA
          rw [hb9] at hA ⊢
          obtain ⟨v21, HH21⟩ : ∃ v, Hid (Here w9 b21 v ra E) := ⟨_, hide ⟨_, _, rfl, hA, hS2⟩⟩
          clear hA hS2 hS hB hw9 hb9 hbA
          replace HH15 := hide (HH15.out.below hb2)
          replace HH17 := hide (HH17.out.below hb2)
          replace HH19 := hide (HH19.out.below hb2)
          replace BB := hide (bthen BB.out hb2)
          clear hb2
          have HT := hide (H0.out.below BB.out)
          have hc1 : (Z.ls D).length + (Z.ls E).length = (Z.ls A).length + (Z.ls C).length := by
            have h9 := cnt_both (a := A) (b := C) (by rw [HAL.out, HCL.out]) k
            rw [HD19.out, HD21.out] at h9
            unfold Z.ls
            rw [HAL.out, HCL.out, HDL19.out, HDL21.out]
            exact h9
          have hc2 : (Z.ls (Z.nt A)).length + (Z.ls A).length = k := by
            have h9 := cnt_not (a := A) (k := k) (by rw [HAL.out]; exact Nat.le_refl _)
            unfold Z.ls
            rw [nt_length, HAL.out]
            exact h9
          have hcA : (Z.ls A).length ≤ k := by have := ls_len A; rw [HAL.out] at this; exact this
          have hcC : (Z.ls C).length ≤ k := by have := ls_len C; rw [HCL.out] at this; exact this
          go_wp2_with fail
          refine V.wp_region_tail (w0 := w9) 46 [95, 96, 97, 98, 99, 100, 101, 102, 103, 104, 105, 106, 107, 108, 109, 110, 111, 112, 113, 114, 115, 116, 117, 118, 119, 120, 121, 122, 123, 124, 125, 126, 127, 128, 129, 130, 131, 132, 133, 134, 135, 136, 137, 138, 139, 140] [9, 10, 15, 17, 19, 21, 16, 18, 20, 22] (posCountsTbl k w9.heap.size b15 b17 b19 b21 v15 v17 v19 v21 ra (Z.nt A) (Z.ls A).length (Z.nums (Z.tz tb) ra A) (Z.ls C).length (Z.nums (Z.tz tb) rc C) (Z.ls D).length (Z.nums (Z.tz tb) ra D) (Z.ls E).length (Z.nums (Z.tz tb) ra E) (Z.ls (Z.nt A)).length (Z.nums (Z.tz tb) ra (Z.nt A))) (by decide) rfl (by kernel_rfl) (by kernel_rfl) (by kernel_rfl) (Below.refl _ _) ?hb ?hs ?hd
          case hb =>
            intro d hd
            simp only [List.mem_cons, List.not_mem_nil, or_false] at hd
            rcases hd with rfl | rfl | rfl | rfl | rfl | rfl | rfl | rfl | rfl | rfl <;> rfl
          case hs =>
            refine ⟨?_, ?_, ?_, ?_, ?_, ?_, ?_, ?_, ?_, ?_, ?_, ?_, ?_, ?_, ?_, ?_, ?_, ?_, ?_, ?_, ?_, ?_, ?_, ?_, ?_, ?_, ?_, ?_, ?_, ?_, ?_, ?_, ?_, ?_, ?_, ?_, ?_, ?_, ?_, ?_, ?_, ?_, ?_, ?_, ?_, ?_, trivial⟩
            · exact V.Step.move (.inl rfl) (.inl rfl) (.inl ⟨_, rfl⟩) (fun _ h => by cases h; rfl)
            · exact V.Step.move (.inl rfl) (.inl rfl) (.inl ⟨_, rfl⟩) (fun _ h => by cases h; rfl)
            · exact V.Step.move (.inr ⟨_, _, _, rfl, rfl, rfl⟩) (.inl rfl) (.inl ⟨_, rfl⟩) (fun _ h => by cases h; rfl)
            · exact V.Step.bin (v1 := .int .i64 0) (v2 := .int .i64 0) (v := .bool true) (.inr ⟨_, _, _, rfl, rfl, rfl⟩) rfl (.inl ⟨_, rfl⟩) (.inr ⟨_, rfl⟩) rfl rfl (fun w => ⟨rfl, V.run_eqE w⟩) (fun _ h => by cases h; rfl)
            · exact V.Step.pick (b := true) (.inl rfl) rfl ⟨_, rfl, rfl⟩ (.inl ⟨_, rfl⟩) (fun _ h => by cases h; rfl)
            · exact V.Step.move (.inl rfl) (.inl rfl) (.inl ⟨_, rfl⟩) (fun _ h => by cases h; rfl)
            · exact V.Step.move (.inr ⟨_, _, _, rfl, rfl, rfl⟩) (.inl rfl) (.inl ⟨_, rfl⟩) (fun _ h => by cases h; rfl)
            · exact V.Step.bin (v1 := .int .i64 0) (v2 := .int .i64 0) (v := .bool true) (.inr ⟨_, _, _, rfl, rfl, rfl⟩) rfl (.inl ⟨_, rfl⟩) (.inr ⟨_, rfl⟩) rfl rfl (fun w => ⟨rfl, V.run_eqE w⟩) (fun _ h => by cases h; rfl)
            · exact V.Step.pick (b := true) (.inl rfl) rfl ⟨_, rfl, rfl⟩ (.inl ⟨_, rfl⟩) (fun _ h => by cases h; rfl)
            · exact V.Step.move (.inl rfl) (.inl rfl) (.inl ⟨_, rfl⟩) (fun _ h => by cases h; rfl)
            · exact V.Step.move (.inr ⟨_, _, _, rfl, rfl, rfl⟩) (.inl rfl) (.inl ⟨_, rfl⟩) (fun _ h => by cases h; rfl)
            · exact V.Step.bin (v1 := .int .i64 0) (v2 := .int .i64 0) (v := .bool true) (.inr ⟨_, _, _, rfl, rfl, rfl⟩) rfl (.inl ⟨_, rfl⟩) (.inr ⟨_, rfl⟩) rfl rfl (fun w => ⟨rfl, V.run_eqE w⟩) (fun _ h => by cases h; rfl)
            · exact V.Step.pick (b := true) (.inl rfl) rfl ⟨_, rfl, rfl⟩ (.inl ⟨_, rfl⟩) (fun _ h => by cases h; rfl)
            · exact V.Step.move (.inl rfl) (.inl rfl) (.inl ⟨_, rfl⟩) (fun _ h => by cases h; rfl)
            · exact V.Step.move (.inr ⟨_, _, _, rfl, rfl, rfl⟩) (.inl rfl) (.inl ⟨_, rfl⟩) (fun _ h => by cases h; rfl)
            · exact V.Step.bin (v1 := .int .i64 0) (v2 := .int .i64 0) (v := .bool true) (.inr ⟨_, _, _, rfl, rfl, rfl⟩) rfl (.inl ⟨_, rfl⟩) (.inr ⟨_, rfl⟩) rfl rfl (fun w => ⟨rfl, V.run_eqE w⟩) (fun _ h => by cases h; rfl)
            · exact V.Step.pick (b := true) (.inl rfl) rfl ⟨_, rfl, rfl⟩ (.inl ⟨_, rfl⟩) (fun _ h => by cases h; rfl)
            · exact V.Step.move (.inl rfl) (.inl rfl) (.inl ⟨_, rfl⟩) (fun _ h => by cases h; rfl)
            · exact V.Step.ldH (.inr ⟨_, _, _, rfl, rfl, rfl⟩) rfl rfl HH19.out (fun _ h => by cases h; rfl)
            · exact V.Step.listV (.inr ⟨_, _, _, rfl, rfl, rfl⟩) rfl rfl (HH19.out.set) HT.out (fun _ h => by cases h; rfl)
            · exact V.Step.lenI (.inr ⟨_, _, _, rfl, rfl, rfl⟩) rfl rfl (fun _ h => by cases h; rfl)
            · exact V.Step.ldH (.inr ⟨_, _, _, rfl, rfl, rfl⟩) rfl rfl HH21.out (fun _ h => by cases h; rfl)
            · exact V.Step.listV (.inr ⟨_, _, _, rfl, rfl, rfl⟩) rfl rfl (HH21.out.set) HT.out (fun _ h => by cases h; rfl)
            · exact V.Step.lenI (.inr ⟨_, _, _, rfl, rfl, rfl⟩) rfl rfl (fun _ h => by cases h; rfl)
            · exact V.Step.bin (v1 := .int .i64 ((Z.ls D).length : Int)) (v2 := .int .i64 ((Z.ls E).length : Int)) (v := .int .i64 (((Z.ls D).length : Int) + ((Z.ls E).length : Int))) (.inr ⟨_, _, _, rfl, rfl, rfl⟩) rfl (.inl ⟨_, rfl⟩) (.inl ⟨_, rfl⟩) rfl rfl (fun w => ⟨rfl, V.run_addM w _ _ _ rfl (by omega) (by omega)⟩) (fun _ h => by cases h; rfl)
            · exact V.Step.ldH (.inr ⟨_, _, _, rfl, rfl, rfl⟩) rfl rfl HH15.out (fun _ h => by cases h; rfl)
            · exact V.Step.listV (.inr ⟨_, _, _, rfl, rfl, rfl⟩) rfl rfl (HH15.out.set) HT.out (fun _ h => by cases h; rfl)
            · exact V.Step.lenI (.inr ⟨_, _, _, rfl, rfl, rfl⟩) rfl rfl (fun _ h => by cases h; rfl)
            · exact V.Step.ldH (.inr ⟨_, _, _, rfl, rfl, rfl⟩) rfl rfl HH17.out (fun _ h => by cases h; rfl)
            · exact V.Step.listV (.inr ⟨_, _, _, rfl, rfl, rfl⟩) rfl rfl (HH17.out.set) HT.out (fun _ h => by cases h; rfl)
            · exact V.Step.lenI (.inr ⟨_, _, _, rfl, rfl, rfl⟩) rfl rfl (fun _ h => by cases h; rfl)
            · exact V.Step.bin (v1 := .int .i64 ((Z.ls A).length : Int)) (v2 := .int .i64 ((Z.ls C).length : Int)) (v := .int .i64 (((Z.ls A).length : Int) + ((Z.ls C).length : Int))) (.inr ⟨_, _, _, rfl, rfl, rfl⟩) rfl (.inl ⟨_, rfl⟩) (.inl ⟨_, rfl⟩) rfl rfl (fun w => ⟨rfl, V.run_addM w _ _ _ rfl (by omega) (by omega)⟩) (fun _ h => by cases h; rfl)
            · exact V.Step.bin (v1 := .int .i64 (((Z.ls D).length : Int) + ((Z.ls E).length : Int))) (v2 := .int .i64 (((Z.ls A).length : Int) + ((Z.ls C).length : Int))) (v := .bool true) (.inr ⟨_, _, _, rfl, rfl, rfl⟩) rfl (.inl ⟨_, rfl⟩) (.inl ⟨_, rfl⟩) rfl rfl (fun w => ⟨rfl, V.run_eqI w _ _ (by omega)⟩) (fun _ h => by cases h; rfl)
            · exact V.Step.pick (b := true) (.inl rfl) rfl ⟨_, rfl, rfl⟩ (.inl ⟨_, rfl⟩) (fun _ h => by cases h; rfl)
            · exact V.Step.move (.inl rfl) (.inl rfl) (.inl ⟨_, rfl⟩) (fun _ h => by cases h; rfl)
            · exact V.Step.ldH (.inr ⟨_, _, _, rfl, rfl, rfl⟩) rfl rfl HH15.out (fun _ h => by cases h; rfl)
            · exact V.Step.notV (.inr ⟨_, _, _, rfl, rfl, rfl⟩) rfl rfl HH15.out.set ra1 ra3 (fun _ h => by cases h; rfl)
            · exact V.Step.listS (.inr ⟨_, _, _, rfl, rfl, rfl⟩) rfl rfl HT.out (fun _ h => by cases h; rfl)
            · exact V.Step.lenI (.inr ⟨_, _, _, rfl, rfl, rfl⟩) rfl rfl (fun _ h => by cases h; rfl)
            · exact V.Step.move (.inr ⟨_, _, _, rfl, rfl, rfl⟩) (.inl rfl) (.inl ⟨_, rfl⟩) (fun _ h => by cases h; rfl)
            · exact V.Step.ldH (.inr ⟨_, _, _, rfl, rfl, rfl⟩) rfl rfl HH15.out (fun _ h => by cases h; rfl)
            · exact V.Step.listV (.inr ⟨_, _, _, rfl, rfl, rfl⟩) rfl rfl (HH15.out.set) HT.out (fun _ h => by cases h; rfl)
            · exact V.Step.lenI (.inr ⟨_, _, _, rfl, rfl, rfl⟩) rfl rfl (fun _ h => by cases h; rfl)
            · exact V.Step.bin (v1 := .int .i64 (k : Int)) (v2 := .int .i64 ((Z.ls A).length : Int)) (v := .int .i64 ((k : Int) - ((Z.ls A).length : Int))) (.inr ⟨_, _, _, rfl, rfl, rfl⟩) rfl (.inl ⟨_, rfl⟩) (.inl ⟨_, rfl⟩) rfl rfl (fun w => ⟨rfl, V.run_subM w _ _ _ rfl (by omega) (by omega)⟩) (fun _ h => by cases h; rfl)
            · exact V.Step.bin (v1 := .int .i64 ((Z.ls (Z.nt A)).length : Int)) (v2 := .int .i64 ((k : Int) - ((Z.ls A).length : Int))) (v := .bool true) (.inr ⟨_, _, _, rfl, rfl, rfl⟩) rfl (.inl ⟨_, rfl⟩) (.inl ⟨_, rfl⟩) rfl rfl (fun w => ⟨rfl, V.run_eqI w _ _ (by omega)⟩) (fun _ h => by cases h; rfl)
            · exact V.Step.pick (b := true) (.inl rfl) rfl ⟨_, rfl, rfl⟩ (.inl ⟨_, rfl⟩) (fun _ h => by cases h; rfl)
          case hd =>
          intro vs wz hwv hk9
          have v95 : vs 95 = (.bool true) := hk9 0 _ 95 rfl rfl
          have v96 : vs 96 = (.bool true) := hk9 1 _ 96 rfl rfl
          have v97 : vs 97 = (.int .i64 0) := hk9 2 _ 97 rfl rfl
          have v98 : vs 98 = (.bool true) := hk9 3 _ 98 rfl rfl
          have v99 : vs 99 = (.bool true) := hk9 4 _ 99 rfl rfl
          have v100 : vs 100 = (.bool true) := hk9 5 _ 100 rfl rfl
          have v101 : vs 101 = (.int .i64 0) := hk9 6 _ 101 rfl rfl
          have v102 : vs 102 = (.bool true) := hk9 7 _ 102 rfl rfl
          have v103 : vs 103 = (.bool true) := hk9 8 _ 103 rfl rfl
          have v104 : vs 104 = (.bool true) := hk9 9 _ 104 rfl rfl
          have v105 : vs 105 = (.int .i64 0) := hk9 10 _ 105 rfl rfl
          have v106 : vs 106 = (.bool true) := hk9 11 _ 106 rfl rfl
          have v107 : vs 107 = (.bool true) := hk9 12 _ 107 rfl rfl
          have v108 : vs 108 = (.bool true) := hk9 13 _ 108 rfl rfl
          have v109 : vs 109 = (.int .i64 0) := hk9 14 _ 109 rfl rfl
          have v110 : vs 110 = (.bool true) := hk9 15 _ 110 rfl rfl
          have v111 : vs 111 = (.bool true) := hk9 16 _ 111 rfl rfl
          have v112 : vs 112 = (.bool true) := hk9 17 _ 112 rfl rfl
          have v113 : vs 113 = v19 := hk9 18 _ 113 rfl rfl
          obtain ⟨u114, v114⟩ : ∃ u, vs 114 = u := ⟨_, rfl⟩
          have v115 : vs 115 = (.int .i64 ((Z.ls D).length : Int)) := hk9 20 _ 115 rfl rfl
          have v116 : vs 116 = v21 := hk9 21 _ 116 rfl rfl
          obtain ⟨u117, v117⟩ : ∃ u, vs 117 = u := ⟨_, rfl⟩
          have v118 : vs 118 = (.int .i64 ((Z.ls E).length : Int)) := hk9 23 _ 118 rfl rfl
          have v119 : vs 119 = (.int .i64 (((Z.ls D).length : Int) + (Z.ls E).length)) := hk9 24 _ 119 rfl rfl
          have v120 : vs 120 = v15 := hk9 25 _ 120 rfl rfl
          obtain ⟨u121, v121⟩ : ∃ u, vs 121 = u := ⟨_, rfl⟩
          have v122 : vs 122 = (.int .i64 ((Z.ls A).length : Int)) := hk9 27 _ 122 rfl rfl
          have v123 : vs 123 = v17 := hk9 28 _ 123 rfl rfl
          obtain ⟨u124, v124⟩ : ∃ u, vs 124 = u := ⟨_, rfl⟩
          have v125 : vs 125 = (.int .i64 ((Z.ls C).length : Int)) := hk9 30 _ 125 rfl rfl
          have v126 : vs 126 = (.int .i64 (((Z.ls A).length : Int) + (Z.ls C).length)) := hk9 31 _ 126 rfl rfl
          have v127 : vs 127 = (.bool true) := hk9 32 _ 127 rfl rfl
          have v128 : vs 128 = (.bool true) := hk9 33 _ 128 rfl rfl
          have v129 : vs 129 = (.bool true) := hk9 34 _ 129 rfl rfl
          have v130 : vs 130 = v15 := hk9 35 _ 130 rfl rfl
          obtain ⟨u131, v131⟩ : ∃ u, vs 131 = u := ⟨_, rfl⟩
          obtain ⟨u132, v132⟩ : ∃ u, vs 132 = u := ⟨_, rfl⟩
          have v133 : vs 133 = (.int .i64 ((Z.ls (Z.nt A)).length : Int)) := hk9 38 _ 133 rfl rfl
          have v134 : vs 134 = (.int .i64 (k : Int)) := hk9 39 _ 134 rfl rfl
          have v135 : vs 135 = v15 := hk9 40 _ 135 rfl rfl
          obtain ⟨u136, v136⟩ : ∃ u, vs 136 = u := ⟨_, rfl⟩
          have v137 : vs 137 = (.int .i64 ((Z.ls A).length : Int)) := hk9 42 _ 137 rfl rfl
          have v138 : vs 138 = (.int .i64 ((k : Int) - (Z.ls A).length)) := hk9 43 _ 138 rfl rfl
          have v139 : vs 139 = (.bool true) := hk9 44 _ 139 rfl rfl
          have v140 : vs 140 = (.bool true) := hk9 45 _ 140 rfl rfl
          simp only [V.puts, List.foldl_cons, List.foldl_nil, v95, v96, v97, v98, v99, v100, v101, v102, v103, v104, v105, v106, v107, v108, v109, v110, v111, v112, v113, v114, v115, v116, v117, v118, v119, v120, v121, v122, v123, v124, v125, v126, v127, v128, v129, v130, v131, v132, v133, v134, v135, v136, v137, v138, v139, v140, Act.put, List.setIfInBounds_toArray, List.set_cons_zero, List.set_cons_succ]
          clear hk9 v95 v96 v97 v98 v99 v100 v101 v102 v103 v104 v105 v106 v107 v108 v109 v110 v111 v112 v113 v114 v115 v116 v117 v118 v119 v120 v121 v122 v123 v124 v125 v126 v127 v128 v129 v130 v131 v132 v133 v134 v135 v136 v137 v138 v139 v140
          simp only [List.drop]
          replace BB := hide (bthen BB.out hwv)
          clear hwv
          go_wp2
          go_ret
          exact ⟨rfl, BB.out⟩
end Go.Proofs.Ytlbchdlokimpfaa

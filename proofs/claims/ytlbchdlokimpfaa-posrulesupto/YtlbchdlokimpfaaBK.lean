/- What is in both, in either; what isn't in a set. -/
import Derived.Test.YtlbchdlokimpfaaV25
namespace Go.Proofs.Ytlbchdlokimpfaa
set_option linter.unusedVariables false
set_option maxRecDepth 10000
open Go.RowKit

theorem Asks.congr {v : Value} {w : World} {f f' : Nat → Bool} {n : Nat} (h : Asks v w f n) (he : ∀ k, k < n → f k = f' k) : Asks v w f' n := by
  obtain ⟨g, bd, cp, hv, hen, hs⟩ := h
  exact ⟨g, bd, cp, hv, hen, fun W hW k hk => by rw [← he k hk]; exact hs W hW k hk⟩
def anTbl (B0 B1 B2 n ra : Nat) (a b : Value) (f : Nat → Bool) (cs : List Bool) : List (Nat × V.Ent) :=
  [(2, V.Ent.is (.pointer (some ⟨B0, 0, none⟩))), (3, V.Ent.is (.pointer (some ⟨B1, 0, none⟩))), (6, V.Ent.is a), (7, V.Ent.is b), (8, V.Ent.is a), (9, V.Ent.is (.func (.func 28) #[a] #[])), (10, V.Ent.is b), (11, V.Ent.is (.func (.func 28) #[b] #[])), (12, V.Ent.ask f n), (13, V.Ent.laid B2 ra cs), (14, V.Ent.set B2 ra cs), (15, V.Ent.is (.int .i64 0))]
set_option maxHeartbeats 2000000 in
theorem and_any (a b : Value) (ra rb : Nat) (ba bb : List Bool) (w : World) (ha : SetAt w a ra ba) (hb : SetAt w b rb bb) (hab : ba.length = bb.length) (h1 : 1 ≤ ra) (h3 : ra ≤ 3) :
    Calls Try.prog 19 #[a, b] w fun e w' => ∃ s, e = .returned (.tuple #[s, .int .i64 0]) ∧ SetAns ra (Z.an ba bb) w s w' := by
  have hn := ha.1
  obtain ⟨Ta, aoa, la, ca, hae⟩ := SetAt.shape ha
  obtain ⟨Tb, aob, lb, cb, hbe⟩ := SetAt.shape hb
  have hcl : (Z.an ba bb).length = ba.length := an_length hab
  have hat : ∀ k, k < ba.length → ((fun k => ba.getD k false) k && (fun k => bb.getD k false) k) = (fun k => (Z.an ba bb).getD k false) k := fun k _ => (an_at hab k).symm
  subst hae hbe
  rw [← hab] at hb ⊢
  have HA := hide ha
  have HB := hide hb
  have HAB := hide hab
  have HCL := hide hcl
  have HAT := hide hat
  have HN := hide hn
  obtain ⟨n, hnn⟩ : ∃ n, ba.length = n := ⟨_, rfl⟩
  rw [hnn] at hn HA HB ⊢
  have HE := hide hnn
  clear ha hb hab hcl hat hnn
  go_enter Try.func19, Try.ntmps19
  go_wp2_with fail
  have hb3 : Below w.heap.size w (((w.alloc (.cells #[.int .i64 (n : Int), .iface Ta (.slice aoa la ca)] 28)).alloc (.cells #[.int .i64 (n : Int), .iface Tb (.slice aob lb cb)] 28)).alloc (.cells #[.int .i64 0, .nilIface] 28)) := (bthen (below_one w _) (below_one _ _)).alloc (by simp; omega) _
  have hA0 : AtS (((w.alloc (.cells #[.int .i64 (n : Int), .iface Ta (.slice aoa la ca)] 28)).alloc (.cells #[.int .i64 (n : Int), .iface Tb (.slice aob lb cb)] 28)).alloc (.cells #[.int .i64 0, .nilIface] 28)) w.heap.size (.int .i64 (n : Int)) (.iface Ta (.slice aoa la ca)) := ((AtS.new w _ _).below (below_one _ _)).below (below_one _ _)
  have hA1 : AtS (((w.alloc (.cells #[.int .i64 (n : Int), .iface Ta (.slice aoa la ca)] 28)).alloc (.cells #[.int .i64 (n : Int), .iface Tb (.slice aob lb cb)] 28)).alloc (.cells #[.int .i64 0, .nilIface] 28)) (w.alloc (.cells #[.int .i64 (n : Int), .iface Ta (.slice aoa la ca)] 28)).heap.size (.int .i64 (n : Int)) (.iface Tb (.slice aob lb cb)) := (AtS.new _ _ _).below (below_one _ _)
  have hA6 := AtS.new ((w.alloc (.cells #[.int .i64 (n : Int), .iface Ta (.slice aoa la ca)] 28)).alloc (.cells #[.int .i64 (n : Int), .iface Tb (.slice aob lb cb)] 28)) (.int .i64 0) .nilIface
  obtain ⟨w3, hw3⟩ : ∃ w3, (((w.alloc (.cells #[.int .i64 (n : Int), .iface Ta (.slice aoa la ca)] 28)).alloc (.cells #[.int .i64 (n : Int), .iface Tb (.slice aob lb cb)] 28)).alloc (.cells #[.int .i64 0, .nilIface] 28)) = w3 := ⟨_, rfl⟩
  rw [hw3] at hb3 hA0 hA1 hA6 ⊢
  simp only [World.size_alloc] at hA1 hA6
  have hsz : w3.heap.size = w.heap.size + 1 + 1 + 1 := by rw [← hw3]; simp
  clear hw3
  refine V.wp_region_tail (w0 := w3) 10 [6, 7, 8, 9, 10, 11, 12, 13, 14, 15] [2, 3] (anTbl w.heap.size (w.heap.size + 1) w3.heap.size n ra (.agg #[.int .i64 (n : Int), .iface Ta (.slice aoa la ca)]) (.agg #[.int .i64 (n : Int), .iface Tb (.slice aob lb cb)]) (fun k => (Z.an ba bb).getD k false) (Z.an ba bb)) (by decide) rfl (by kernel_rfl) (by kernel_rfl) (by kernel_rfl) (Below.refl _ _) ?hb ?hs ?hd
  case hb =>
    intro d hd
    simp only [List.mem_cons, List.not_mem_nil, or_false] at hd
    rcases hd with rfl | rfl <;> rfl
  case hs =>
    refine ⟨?_, ?_, ?_, ?_, ?_, ?_, ?_, ?_, ?_, ?_, trivial⟩
    · exact V.Step.ldS (.inl rfl) rfl rfl hA0 (fun _ h => by cases h; rfl)
    · exact V.Step.ldS (.inl rfl) rfl rfl hA1 (fun _ h => by cases h; rfl)
    · exact V.Step.ldS (.inl rfl) rfl rfl hA0 (fun _ h => by cases h; rfl)
    · exact V.Step.has (.inl rfl) rfl rfl (fun _ h => by cases h; rfl)
    · exact V.Step.ldS (.inl rfl) rfl rfl hA1 (fun _ h => by cases h; rfl)
    · exact V.Step.has (.inl rfl) rfl rfl (fun _ h => by cases h; rfl)
    · refine V.Step.callR2 (.inl rfl) rfl Try.func43 (by kernel_rfl) rfl fun wa v1 v2 hwa e1 e2 => ?_
      obtain rfl : v1 = .func (.func 28) #[.agg #[.int .i64 (n : Int), .iface Ta (.slice aoa la ca)]] #[] := e1
      obtain rfl : v2 = .func (.func 28) #[.agg #[.int .i64 (n : Int), .iface Tb (.slice aob lb cb)]] #[] := e2
      have q1 := asks_has (HA.out.below (hb3.trans (hwa.mono hb3.size)))
      have q2 := asks_has (HB.out.below (hb3.trans (hwa.mono hb3.size)))
      rw [HE.out] at q1
      rw [← HAB.out, HE.out] at q2
      have q3 := (both_asks q1 q2 hn).congr (fun k hk => HAT.out k (by rw [HE.out]; exact hk))
      refine (both_any _ _ _ _ _ _ _).mono ?_
      rintro e wb ⟨rfl, rfl⟩
      exact ⟨_, rfl, bthen (below_one wa _) (below_one _ _), fun d h => by cases h; exact q3⟩
    · refine V.Step.callR3 (.inl rfl) rfl Try.func42 (by kernel_rfl) rfl fun wa v1 v2 v4 hwa e1 e2 e4 => ?_
      obtain rfl : v1 = .agg #[.int .i64 (n : Int), .iface Ta (.slice aoa la ca)] := e1
      obtain rfl : v2 = .agg #[.int .i64 (n : Int), .iface Tb (.slice aob lb cb)] := e2
      have e5 : Asks v4 wa (fun k => (Z.an ba bb).getD k false) n := e4
      have hbb := hb3.trans (hwa.mono hb3.size)
      refine (joined_any _ _ _ ra rb ba bb (Z.an ba bb) wa (HA.out.below hbb) (HB.out.below hbb) HAB.out HCL.out h1 h3 (by rw [HCL.out, HE.out]; exact e5)).mono ?_
      rintro e wb ⟨s, rfl, hs1, hs2, hs3⟩
      exact ⟨_, rfl, hs3, fun d h => by cases h; exact ⟨s, rfl, hs1, hs2.mono hwa.size⟩⟩
    · exact V.Step.ext0S (.inl rfl) rfl rfl (fun _ h => by cases h; rfl)
    · exact V.Step.ext1S (.inl rfl) rfl rfl (fun _ h => by cases h; rfl)
  case hd =>
  intro vs wa hwa hk9
  have v6 : vs 6 = .agg #[.int .i64 (n : Int), .iface Ta (.slice aoa la ca)] := hk9 0 _ 6 rfl rfl
  have v7 : vs 7 = .agg #[.int .i64 (n : Int), .iface Tb (.slice aob lb cb)] := hk9 1 _ 7 rfl rfl
  have v8 : vs 8 = .agg #[.int .i64 (n : Int), .iface Ta (.slice aoa la ca)] := hk9 2 _ 8 rfl rfl
  have v9 : vs 9 = .func (.func 28) #[.agg #[.int .i64 (n : Int), .iface Ta (.slice aoa la ca)]] #[] := hk9 3 _ 9 rfl rfl
  have v10 : vs 10 = .agg #[.int .i64 (n : Int), .iface Tb (.slice aob lb cb)] := hk9 4 _ 10 rfl rfl
  have v11 : vs 11 = .func (.func 28) #[.agg #[.int .i64 (n : Int), .iface Tb (.slice aob lb cb)]] #[] := hk9 5 _ 11 rfl rfl
  have h12 : Asks (vs 12) wa (fun k => (Z.an ba bb).getD k false) n := hk9 6 _ 12 rfl rfl
  have h13 : ∃ s, vs 13 = .tuple #[s, .int .i64 0] ∧ SetAt wa s ra (Z.an ba bb) ∧ NewSet wa w3.heap.size s (Z.an ba bb).length := hk9 7 _ 13 rfl rfl
  have h14 : SetAt wa (vs 14) ra (Z.an ba bb) ∧ NewSet wa w3.heap.size (vs 14) (Z.an ba bb).length := hk9 8 _ 14 rfl rfl
  have v15 : vs 15 = .int .i64 0 := hk9 9 _ 15 rfl rfl
  obtain ⟨g9, bd9, cp9, v12, -⟩ := h12
  obtain ⟨s13, v13, -⟩ := h13
  obtain ⟨h14, T, ao, len, cap, v14, hx⟩ := h14
  rw [v14] at h14
  simp only [V.puts, List.foldl_cons, List.foldl_nil, v6, v7, v8, v9, v10, v11, v12, v13, v14, v15, Act.put, List.setIfInBounds_toArray, List.set_cons_zero, List.set_cons_succ]
  clear hk9 v6 v7 v8 v9 v10 v11 v12 v13 v14 v15
  simp only [List.drop]
  have hbb := hb3.trans (hwa.mono hb3.size)
  have h7 := hA6.below hwa
  have hst := h14.stored (B := w.heap.size + 1 + 1) (fun x hx' e => by have := (hx x hx').1; omega)
  have hs2 : SetAns ra (Z.an ba bb) w _ _ := ⟨hst, NewSet.stored (NewSet.mono ⟨T, ao, len, cap, rfl, hx⟩ (by omega)) (fun x hx' e => by have := (hx x hx').1; omega), (hbb.setCell (p := ⟨w.heap.size + 1 + 1, 0, none⟩) (by show w.heap.size ≤ w.heap.size + 1 + 1; omega) _).setCell (p := ⟨w.heap.size + 1 + 1, 1, none⟩) (by show w.heap.size ≤ w.heap.size + 1 + 1; omega) _⟩
  rw [HCL.out, HE.out] at hs2 ⊢
  obtain ⟨c0, c1⟩ := h7.cells
  obtain ⟨f0, f1⟩ := h7.thawed
  have H7 := hide h7
  have HS2 := hide hs2
  clear hst hs2 h7 hbb hb3 hA0 hA1 hA6 hsz hwa h14 hx
  go_wp2_with fail
  exact bodyPost_ret (results_set1 Try.results19 _ _ (w.heap.size + 1 + 1) rfl (H7.out.set _ _)) rfl ⟨_, rfl, HS2.out⟩
set_option maxHeartbeats 2000000 in
theorem or_any (a b : Value) (ra rb : Nat) (ba bb : List Bool) (w : World) (ha : SetAt w a ra ba) (hb : SetAt w b rb bb) (hab : ba.length = bb.length) (h1 : 1 ≤ ra) (h3 : ra ≤ 3) :
    Calls Try.prog 21 #[a, b] w fun e w' => ∃ s, e = .returned (.tuple #[s, .int .i64 0]) ∧ SetAns ra (Z.orr ba bb) w s w' := by
  have hn := ha.1
  obtain ⟨Ta, aoa, la, ca, hae⟩ := SetAt.shape ha
  obtain ⟨Tb, aob, lb, cb, hbe⟩ := SetAt.shape hb
  have hcl : (Z.orr ba bb).length = ba.length := orr_length hab
  have hat : ∀ k, k < ba.length → ((fun k => ba.getD k false) k || (fun k => bb.getD k false) k) = (fun k => (Z.orr ba bb).getD k false) k := fun k _ => (orr_at hab k).symm
  subst hae hbe
  rw [← hab] at hb ⊢
  have HA := hide ha
  have HB := hide hb
  have HAB := hide hab
  have HCL := hide hcl
  have HAT := hide hat
  have HN := hide hn
  obtain ⟨n, hnn⟩ : ∃ n, ba.length = n := ⟨_, rfl⟩
  rw [hnn] at hn HA HB ⊢
  have HE := hide hnn
  clear ha hb hab hcl hat hnn
  go_enter Try.func21, Try.ntmps21
  go_wp2_with fail
  have hb3 : Below w.heap.size w (((w.alloc (.cells #[.int .i64 (n : Int), .iface Ta (.slice aoa la ca)] 28)).alloc (.cells #[.int .i64 (n : Int), .iface Tb (.slice aob lb cb)] 28)).alloc (.cells #[.int .i64 0, .nilIface] 28)) := (bthen (below_one w _) (below_one _ _)).alloc (by simp; omega) _
  have hA0 : AtS (((w.alloc (.cells #[.int .i64 (n : Int), .iface Ta (.slice aoa la ca)] 28)).alloc (.cells #[.int .i64 (n : Int), .iface Tb (.slice aob lb cb)] 28)).alloc (.cells #[.int .i64 0, .nilIface] 28)) w.heap.size (.int .i64 (n : Int)) (.iface Ta (.slice aoa la ca)) := ((AtS.new w _ _).below (below_one _ _)).below (below_one _ _)
  have hA1 : AtS (((w.alloc (.cells #[.int .i64 (n : Int), .iface Ta (.slice aoa la ca)] 28)).alloc (.cells #[.int .i64 (n : Int), .iface Tb (.slice aob lb cb)] 28)).alloc (.cells #[.int .i64 0, .nilIface] 28)) (w.alloc (.cells #[.int .i64 (n : Int), .iface Ta (.slice aoa la ca)] 28)).heap.size (.int .i64 (n : Int)) (.iface Tb (.slice aob lb cb)) := (AtS.new _ _ _).below (below_one _ _)
  have hA6 := AtS.new ((w.alloc (.cells #[.int .i64 (n : Int), .iface Ta (.slice aoa la ca)] 28)).alloc (.cells #[.int .i64 (n : Int), .iface Tb (.slice aob lb cb)] 28)) (.int .i64 0) .nilIface
  obtain ⟨w3, hw3⟩ : ∃ w3, (((w.alloc (.cells #[.int .i64 (n : Int), .iface Ta (.slice aoa la ca)] 28)).alloc (.cells #[.int .i64 (n : Int), .iface Tb (.slice aob lb cb)] 28)).alloc (.cells #[.int .i64 0, .nilIface] 28)) = w3 := ⟨_, rfl⟩
  rw [hw3] at hb3 hA0 hA1 hA6 ⊢
  simp only [World.size_alloc] at hA1 hA6
  have hsz : w3.heap.size = w.heap.size + 1 + 1 + 1 := by rw [← hw3]; simp
  clear hw3
  refine V.wp_region_tail (w0 := w3) 10 [6, 7, 8, 9, 10, 11, 12, 13, 14, 15] [2, 3] (anTbl w.heap.size (w.heap.size + 1) w3.heap.size n ra (.agg #[.int .i64 (n : Int), .iface Ta (.slice aoa la ca)]) (.agg #[.int .i64 (n : Int), .iface Tb (.slice aob lb cb)]) (fun k => (Z.orr ba bb).getD k false) (Z.orr ba bb)) (by decide) rfl (by kernel_rfl) (by kernel_rfl) (by kernel_rfl) (Below.refl _ _) ?hb ?hs ?hd
  case hb =>
    intro d hd
    simp only [List.mem_cons, List.not_mem_nil, or_false] at hd
    rcases hd with rfl | rfl <;> rfl
  case hs =>
    refine ⟨?_, ?_, ?_, ?_, ?_, ?_, ?_, ?_, ?_, ?_, trivial⟩
    · exact V.Step.ldS (.inl rfl) rfl rfl hA0 (fun _ h => by cases h; rfl)
    · exact V.Step.ldS (.inl rfl) rfl rfl hA1 (fun _ h => by cases h; rfl)
    · exact V.Step.ldS (.inl rfl) rfl rfl hA0 (fun _ h => by cases h; rfl)
    · exact V.Step.has (.inl rfl) rfl rfl (fun _ h => by cases h; rfl)
    · exact V.Step.ldS (.inl rfl) rfl rfl hA1 (fun _ h => by cases h; rfl)
    · exact V.Step.has (.inl rfl) rfl rfl (fun _ h => by cases h; rfl)
    · refine V.Step.callR2 (.inl rfl) rfl Try.func44 (by kernel_rfl) rfl fun wa v1 v2 hwa e1 e2 => ?_
      obtain rfl : v1 = .func (.func 28) #[.agg #[.int .i64 (n : Int), .iface Ta (.slice aoa la ca)]] #[] := e1
      obtain rfl : v2 = .func (.func 28) #[.agg #[.int .i64 (n : Int), .iface Tb (.slice aob lb cb)]] #[] := e2
      have q1 := asks_has (HA.out.below (hb3.trans (hwa.mono hb3.size)))
      have q2 := asks_has (HB.out.below (hb3.trans (hwa.mono hb3.size)))
      rw [HE.out] at q1
      rw [← HAB.out, HE.out] at q2
      have q3 := (either_asks q1 q2 hn).congr (fun k hk => HAT.out k (by rw [HE.out]; exact hk))
      refine (either_any _ _ _ _ _ _ _).mono ?_
      rintro e wb ⟨rfl, rfl⟩
      exact ⟨_, rfl, bthen (below_one wa _) (below_one _ _), fun d h => by cases h; exact q3⟩
    · refine V.Step.callR3 (.inl rfl) rfl Try.func42 (by kernel_rfl) rfl fun wa v1 v2 v4 hwa e1 e2 e4 => ?_
      obtain rfl : v1 = .agg #[.int .i64 (n : Int), .iface Ta (.slice aoa la ca)] := e1
      obtain rfl : v2 = .agg #[.int .i64 (n : Int), .iface Tb (.slice aob lb cb)] := e2
      have e5 : Asks v4 wa (fun k => (Z.orr ba bb).getD k false) n := e4
      have hbb := hb3.trans (hwa.mono hb3.size)
      refine (joined_any _ _ _ ra rb ba bb (Z.orr ba bb) wa (HA.out.below hbb) (HB.out.below hbb) HAB.out HCL.out h1 h3 (by rw [HCL.out, HE.out]; exact e5)).mono ?_
      rintro e wb ⟨s, rfl, hs1, hs2, hs3⟩
      exact ⟨_, rfl, hs3, fun d h => by cases h; exact ⟨s, rfl, hs1, hs2.mono hwa.size⟩⟩
    · exact V.Step.ext0S (.inl rfl) rfl rfl (fun _ h => by cases h; rfl)
    · exact V.Step.ext1S (.inl rfl) rfl rfl (fun _ h => by cases h; rfl)
  case hd =>
  intro vs wa hwa hk9
  have v6 : vs 6 = .agg #[.int .i64 (n : Int), .iface Ta (.slice aoa la ca)] := hk9 0 _ 6 rfl rfl
  have v7 : vs 7 = .agg #[.int .i64 (n : Int), .iface Tb (.slice aob lb cb)] := hk9 1 _ 7 rfl rfl
  have v8 : vs 8 = .agg #[.int .i64 (n : Int), .iface Ta (.slice aoa la ca)] := hk9 2 _ 8 rfl rfl
  have v9 : vs 9 = .func (.func 28) #[.agg #[.int .i64 (n : Int), .iface Ta (.slice aoa la ca)]] #[] := hk9 3 _ 9 rfl rfl
  have v10 : vs 10 = .agg #[.int .i64 (n : Int), .iface Tb (.slice aob lb cb)] := hk9 4 _ 10 rfl rfl
  have v11 : vs 11 = .func (.func 28) #[.agg #[.int .i64 (n : Int), .iface Tb (.slice aob lb cb)]] #[] := hk9 5 _ 11 rfl rfl
  have h12 : Asks (vs 12) wa (fun k => (Z.orr ba bb).getD k false) n := hk9 6 _ 12 rfl rfl
  have h13 : ∃ s, vs 13 = .tuple #[s, .int .i64 0] ∧ SetAt wa s ra (Z.orr ba bb) ∧ NewSet wa w3.heap.size s (Z.orr ba bb).length := hk9 7 _ 13 rfl rfl
  have h14 : SetAt wa (vs 14) ra (Z.orr ba bb) ∧ NewSet wa w3.heap.size (vs 14) (Z.orr ba bb).length := hk9 8 _ 14 rfl rfl
  have v15 : vs 15 = .int .i64 0 := hk9 9 _ 15 rfl rfl
  obtain ⟨g9, bd9, cp9, v12, -⟩ := h12
  obtain ⟨s13, v13, -⟩ := h13
  obtain ⟨h14, T, ao, len, cap, v14, hx⟩ := h14
  rw [v14] at h14
  simp only [V.puts, List.foldl_cons, List.foldl_nil, v6, v7, v8, v9, v10, v11, v12, v13, v14, v15, Act.put, List.setIfInBounds_toArray, List.set_cons_zero, List.set_cons_succ]
  clear hk9 v6 v7 v8 v9 v10 v11 v12 v13 v14 v15
  simp only [List.drop]
  have hbb := hb3.trans (hwa.mono hb3.size)
  have h7 := hA6.below hwa
  have hst := h14.stored (B := w.heap.size + 1 + 1) (fun x hx' e => by have := (hx x hx').1; omega)
  have hs2 : SetAns ra (Z.orr ba bb) w _ _ := ⟨hst, NewSet.stored (NewSet.mono ⟨T, ao, len, cap, rfl, hx⟩ (by omega)) (fun x hx' e => by have := (hx x hx').1; omega), (hbb.setCell (p := ⟨w.heap.size + 1 + 1, 0, none⟩) (by show w.heap.size ≤ w.heap.size + 1 + 1; omega) _).setCell (p := ⟨w.heap.size + 1 + 1, 1, none⟩) (by show w.heap.size ≤ w.heap.size + 1 + 1; omega) _⟩
  rw [HCL.out, HE.out] at hs2 ⊢
  obtain ⟨c0, c1⟩ := h7.cells
  obtain ⟨f0, f1⟩ := h7.thawed
  have H7 := hide h7
  have HS2 := hide hs2
  clear hst hs2 h7 hbb hb3 hA0 hA1 hA6 hsz hwa h14 hx
  go_wp2_with fail
  exact bodyPost_ret (results_set1 Try.results21 _ _ (w.heap.size + 1 + 1) rfl (H7.out.set _ _)) rfl ⟨_, rfl, HS2.out⟩
def ntTbl (B0 n ra : Nat) (a : Value) (f : Nat → Bool) (ps : List Int) : List (Nat × V.Ent) :=
  [(1, V.Ent.is (.pointer (some ⟨B0, 0, none⟩))), (3, V.Ent.is (.pointer (some ⟨B0, 0, none⟩))), (4, V.Ent.is (.int .i64 (n : Int))), (5, V.Ent.is (.pointer (some ⟨B0, 0, none⟩))), (6, V.Ent.is (.int .i64 (n : Int))), (7, V.Ent.is a), (8, V.Ent.is (.func (.func 28) #[a] #[])), (9, V.Ent.ask f n), (10, V.Ent.tells ps), (11, V.Ent.is a), (12, V.Ent.is (.int .i64 (ra : Int)))]
set_option maxHeartbeats 2000000 in
theorem notset_any (a : Value) (ra : Nat) (ba : List Bool) (w : World) (ha : SetAt w a ra ba) (h1 : 1 ≤ ra) (h3 : ra ≤ 3) :
    Calls Try.prog 23 #[a] w fun e w' => ∃ s, e = .returned s ∧ SetAns ra (Z.nt ba) w s w' := by
  have hn := ha.1
  obtain ⟨Ta, aoa, la, ca, hae⟩ := SetAt.shape ha
  have hcl : (Z.nt ba).length = ba.length := nt_length ba
  have hat : ∀ k, k < ba.length → (!(fun k => ba.getD k false) k) = (fun k => (Z.nt ba).getD k false) k := fun k hk => (nt_at hk).symm
  subst hae
  have HA := hide ha
  have HCL := hide hcl
  have HAT := hide hat
  obtain ⟨n, hnn⟩ : ∃ n, ba.length = n := ⟨_, rfl⟩
  rw [hnn] at hn HA ⊢
  have HE := hide hnn
  clear ha hcl hat hnn
  go_enter Try.func23, Try.ntmps23
  go_wp2_with fail
  have hb3 : Below w.heap.size w ((w.alloc (.cells #[.int .i64 (n : Int), .iface Ta (.slice aoa la ca)] 28)).alloc (.cells #[.int .i64 0, .nilIface] 28)) := bthen (below_one w _) (below_one _ _)
  have hA0 : AtS ((w.alloc (.cells #[.int .i64 (n : Int), .iface Ta (.slice aoa la ca)] 28)).alloc (.cells #[.int .i64 0, .nilIface] 28)) w.heap.size (.int .i64 (n : Int)) (.iface Ta (.slice aoa la ca)) := (AtS.new w _ _).below (below_one _ _)
  have hA6 := AtS.new (w.alloc (.cells #[.int .i64 (n : Int), .iface Ta (.slice aoa la ca)] 28)) (.int .i64 0) .nilIface
  obtain ⟨w3, hw3⟩ : ∃ w3, ((w.alloc (.cells #[.int .i64 (n : Int), .iface Ta (.slice aoa la ca)] 28)).alloc (.cells #[.int .i64 0, .nilIface] 28)) = w3 := ⟨_, rfl⟩
  rw [hw3] at hb3 hA0 hA6 ⊢
  simp only [World.size_alloc] at hA6
  have hsz : w3.heap.size = w.heap.size + 1 + 1 := by rw [← hw3]; simp
  clear hw3
  refine V.wp_region_tail (w0 := w3) 10 [3, 4, 5, 6, 7, 8, 9, 10, 11, 12] [1] (ntTbl w.heap.size n ra (.agg #[.int .i64 (n : Int), .iface Ta (.slice aoa la ca)]) (fun k => (Z.nt ba).getD k false) (Z.is (Z.ls (Z.nt ba)))) (by decide) rfl (by kernel_rfl) (by kernel_rfl) (by kernel_rfl) (Below.refl _ _) ?hb ?hs ?hd
  case hb =>
    intro d hd
    simp only [List.mem_cons, List.not_mem_nil, or_false] at hd
    subst hd; rfl
  case hs =>
    refine ⟨?_, ?_, ?_, ?_, ?_, ?_, ?_, ?_, ?_, ?_, trivial⟩
    · exact V.Step.fieldS (.inl rfl) rfl rfl (by decide) (fun _ h => by cases h; rfl)
    · exact V.Step.ldI (.inl rfl) rfl rfl (by omega) hA0.cells.1 (fun _ h => by cases h; rfl)
    · exact V.Step.fieldS (.inl rfl) rfl rfl (by decide) (fun _ h => by cases h; rfl)
    · exact V.Step.ldI (.inl rfl) rfl rfl (by omega) hA0.cells.1 (fun _ h => by cases h; rfl)
    · exact V.Step.ldS (.inl rfl) rfl rfl hA0 (fun _ h => by cases h; rfl)
    · exact V.Step.has (.inl rfl) rfl rfl (fun _ h => by cases h; rfl)
    · refine V.Step.callR (.inl rfl) rfl Try.func45 (by kernel_rfl) rfl fun wa v1 hwa e1 => ?_
      obtain rfl : v1 = .func (.func 28) #[.agg #[.int .i64 (n : Int), .iface Ta (.slice aoa la ca)]] #[] := e1
      have q1 := asks_has (HA.out.below (hb3.trans (hwa.mono hb3.size)))
      rw [HE.out] at q1
      have q3 := (not_asks q1 hn).congr (fun k hk => HAT.out k (by rw [HE.out]; exact hk))
      refine (not_any _ _ _ _).mono ?_
      rintro e wb ⟨rfl, rfl⟩
      exact ⟨_, rfl, below_one wa _, fun d h => by cases h; exact q3⟩
    · refine V.Step.callR2 (.inl rfl) rfl Try.func33 (by kernel_rfl) rfl fun wa v1 v2 hwa e1 e2 => ?_
      obtain rfl : v1 = .int .i64 (n : Int) := e1
      have e3 : Asks v2 wa (fun k => (Z.nt ba).getD k false) n := e2
      have h9 := those_tells (cs := Z.nt ba) (v := v2) (w := wa) (by rw [HCL.out, HE.out]; exact hn) (by rw [HCL.out, HE.out]; exact e3)
      rw [HCL.out, HE.out] at h9
      refine h9.mono ?_
      rintro e wb ⟨v', rfl, hb', hg⟩
      exact ⟨v', rfl, hb', fun d h => by cases h; exact hg⟩
    · exact V.Step.ldS (.inl rfl) rfl rfl hA0 (fun _ h => by cases h; rfl)
    · refine V.Step.callR (.inl rfl) rfl Try.func27 (by kernel_rfl) rfl fun wa v1 hwa e1 => ?_
      obtain rfl : v1 = .agg #[.int .i64 (n : Int), .iface Ta (.slice aoa la ca)] := e1
      refine (rep_any _ ra ba wa (HA.out.below (hb3.trans (hwa.mono hb3.size)))).mono ?_
      rintro e wb ⟨rfl, hb'⟩
      exact ⟨_, rfl, hb', fun d h => by cases h; rfl⟩
  case hd =>
  intro vs wa hwa hk9
  have v3 : vs 3 = .pointer (some ⟨w.heap.size, 0, none⟩) := hk9 0 _ 3 rfl rfl
  have v4 : vs 4 = .int .i64 (n : Int) := hk9 1 _ 4 rfl rfl
  have v5 : vs 5 = .pointer (some ⟨w.heap.size, 0, none⟩) := hk9 2 _ 5 rfl rfl
  have v6 : vs 6 = .int .i64 (n : Int) := hk9 3 _ 6 rfl rfl
  have v7 : vs 7 = .agg #[.int .i64 (n : Int), .iface Ta (.slice aoa la ca)] := hk9 4 _ 7 rfl rfl
  have v8 : vs 8 = .func (.func 28) #[.agg #[.int .i64 (n : Int), .iface Ta (.slice aoa la ca)]] #[] := hk9 5 _ 8 rfl rfl
  have h9 : Asks (vs 9) wa (fun k => (Z.nt ba).getD k false) n := hk9 6 _ 9 rfl rfl
  have h10 : GivesR (vs 10) wa (Z.is (Z.ls (Z.nt ba))) := hk9 7 _ 10 rfl rfl
  have v11 : vs 11 = .agg #[.int .i64 (n : Int), .iface Ta (.slice aoa la ca)] := hk9 8 _ 11 rfl rfl
  have v12 : vs 12 = .int .i64 (ra : Int) := hk9 9 _ 12 rfl rfl
  obtain ⟨g9, bd9, cp9, v9, -⟩ := id h9
  obtain ⟨g8, lb8, n8, v10, -⟩ := id h10
  rw [v10] at h10
  simp only [V.puts, List.foldl_cons, List.foldl_nil, v3, v4, v5, v6, v7, v8, v9, v10, v11, v12, Act.put, List.setIfInBounds_toArray, List.set_cons_zero, List.set_cons_succ]
  clear hk9 v3 v4 v5 v6 v7 v8 v9 v10 v11 v12 h9
  simp only [List.drop]
  have hL := laid_any _ wa (Z.nt ba) (by rw [HCL.out, HE.out]; exact hn) ra h1 h3 h10
  rw [HCL.out, HE.out] at hL
  have HL := hide hL
  have HB3 := hide (hb3.trans (hwa.mono hb3.size))
  have H6 := hide (hA6.below hwa)
  have HSZ := hide (show w.heap.size + 1 < wa.heap.size by have := hwa.size; omega)
  clear hL hb3 hA0 hA6 hsz hwa h10
  go_wp2_with fail
  refine HL.out.mono ?_
  rintro e w5 ⟨s, rfl, hs⟩
  have h7 := H6.out.below hs.2.2
  obtain ⟨T, ao, len, cap, rfl, hs2⟩ := SetAns.stored (rep := ra) (bs := Z.nt ba) (B := w.heap.size + 1) HB3.out (by omega) HSZ.out (by rw [← HE.out, ← HCL.out] at hs; exact hs)
  rw [HCL.out, HE.out] at hs2 ⊢
  obtain ⟨c0, c1⟩ := h7.cells
  obtain ⟨f0, f1⟩ := h7.thawed
  have H7 := hide h7
  have HS2 := hide hs2
  clear hs hs2 h7
  go_wp2_with fail
  exact bodyPost_ret (results_set0 Try.results23 _ _ (w.heap.size + 1) rfl (H7.out.set _ _)) rfl ⟨_, rfl, HS2.out⟩
end Go.Proofs.Ytlbchdlokimpfaa

/- How many of a set's numbers are below one. -/
import Derived.Test.YtlbchdlokimpfaaBL
namespace Go.Proofs.Ytlbchdlokimpfaa.V
set_option linter.unusedVariables false
open Go.RowKit
variable {ops : Array Oper} {Q : Exit → Act → World → Prop} {tbl : List (Nat × Ent)} {w0 : World} {o : Oper}
theorem Step.minI {s t : Nat} {x y m : Int} (hw : Wants tbl ops o) (ho : o.op = .call { callee := .builtin .min, args := #[.tmp s, .tmp t], argTypes := #[3, 3] }) (hs : get tbl s = Ent.is (.int .i64 x)) (ht : get tbl t = Ent.is (.int .i64 y)) (hm : m = if y < x then y else x) (hd : ∀ d, o.dst = some d → get tbl d = Ent.is (.int .i64 m)) : Step Try.prog ops Q tbl w0 o := by
  refine Step.value hw fun a w hb hk => ⟨.int .i64 m, ?_, fun d h => by rw [hd d h]; rfl⟩
  have h1 : a.eval (.tmp s) = .int .i64 x := by
    have := hk s (looks_op (by rw [ho]; simp [Op.operands, Call.operands]))
    rwa [hs] at this
  have h2 : a.eval (.tmp t) = .int .i64 y := by
    have := hk t (looks_op (by rw [ho]; simp [Op.operands, Call.operands]))
    rwa [ht] at this
  have h3 := slot_of h1
  have h4 := slot_of h2
  subst hm
  simp only [execOp, ho]
  simp [go_sem, h3, h4]
theorem Step.maxI {t : Nat} {y m : Int} (hw : Wants tbl ops o) (ho : o.op = .call { callee := .builtin .max, args := #[.const (.int .i64 0), .tmp t], argTypes := #[3, 3] }) (ht : get tbl t = Ent.is (.int .i64 y)) (hm : m = if 0 < y then y else 0) (hd : ∀ d, o.dst = some d → get tbl d = Ent.is (.int .i64 m)) : Step Try.prog ops Q tbl w0 o := by
  refine Step.value hw fun a w hb hk => ⟨.int .i64 m, ?_, fun d h => by rw [hd d h]; rfl⟩
  have h2 : a.eval (.tmp t) = .int .i64 y := by
    have := hk t (looks_op (by rw [ho]; simp [Op.operands, Call.operands]))
    rwa [ht] at this
  have h4 := slot_of h2
  subst hm
  simp only [execOp, ho]
  simp [go_sem, h4]
end Go.Proofs.Ytlbchdlokimpfaa.V
namespace Go.Proofs.Ytlbchdlokimpfaa
set_option linter.unusedVariables false
set_option maxRecDepth 10000
open Go.RowKit
/-- A number, no less than 0 and no more than n. -/
def Z.cl (n : Nat) (x : Int) : Nat := (if (0 : Int) < (if (n : Int) < x then (n : Int) else x) then (if (n : Int) < x then (n : Int) else x) else 0).toNat
theorem cl_le (n : Nat) (x : Int) : Z.cl n x ≤ n := by unfold Z.cl; split <;> (try split) <;> omega
theorem cl_is (n : Nat) (x : Int) : ((Z.cl n x : Nat) : Int) = (if (0 : Int) < (if (n : Int) < x then (n : Int) else x) then (if (n : Int) < x then (n : Int) else x) else 0) := by unfold Z.cl; split <;> (try split) <;> omega
def rkTbl (B0 n c : Nat) (x : Int) (a i : Value) : List (Nat × V.Ent) :=
  [(1, V.Ent.is (.int .i64 x)), (2, V.Ent.is (.pointer (some ⟨B0, 0, none⟩))), (5, V.Ent.is a), (6, V.Ent.is i), (7, V.Ent.is (.int .i64 x)), (8, V.Ent.is (.pointer (some ⟨B0, 0, none⟩))), (9, V.Ent.is (.int .i64 (n : Int))), (10, V.Ent.is (.int .i64 (if (n : Int) < x then (n : Int) else x))), (11, V.Ent.is (.int .i64 (c : Int)))]
set_option maxHeartbeats 2000000 in
theorem rank_any (a : Value) (ra : Nat) (ba : List Bool) (x : Int) (w : World) (ha : SetAt w a ra ba) (h2 : ra = 2 → ∃ m, ba = List.replicate m true) :
    Calls Try.prog 29 #[a, .int .i64 x] w fun e w' => e = .returned (.int .i64 ((Z.ps ba (Z.cl ba.length x)).length : Int)) ∧ Below w.heap.size w w' := by
  have hn := ha.1
  obtain ⟨Ta, aoa, la, ca, hae⟩ := SetAt.shape ha
  subst hae
  have HA := hide ha
  have H2 := hide h2
  have HN := hide hn
  have hcl := cl_le ba.length x
  have hci := cl_is ba.length x
  obtain ⟨n, hnn⟩ : ∃ n, ba.length = n := ⟨_, rfl⟩
  rw [hnn] at hn HA hcl hci ⊢
  have HE := hide hnn
  obtain ⟨c, hc⟩ : ∃ c, Z.cl n x = c := ⟨_, rfl⟩
  rw [hc] at hcl hci ⊢
  have HC := hide hcl
  have HCI := hide hci
  clear ha h2 hnn hc hcl hci
  go_enter Try.func29, Try.ntmps29
  go_wp2_with fail
  have hb3 := below_one w (.cells #[.int .i64 (n : Int), .iface Ta (.slice aoa la ca)] 28)
  have hA0 := AtS.new w (.int .i64 (n : Int)) (.iface Ta (.slice aoa la ca))
  obtain ⟨w3, hw3⟩ : ∃ w3, w.alloc (.cells #[.int .i64 (n : Int), .iface Ta (.slice aoa la ca)] 28) = w3 := ⟨_, rfl⟩
  rw [hw3] at hb3 hA0 ⊢
  have hsz : w.heap.size < w3.heap.size := lt_of_block hA0
  clear hw3
  refine V.wp_region_tail (w0 := w3) 7 [5, 6, 7, 8, 9, 10, 11] [1, 2] (rkTbl w.heap.size n c x (.agg #[.int .i64 (n : Int), .iface Ta (.slice aoa la ca)]) (.iface Ta (.slice aoa la ca))) (by decide) rfl (by kernel_rfl) (by kernel_rfl) (by kernel_rfl) (Below.refl _ _) ?hb ?hs ?hd
  case hb =>
    intro d hd
    simp only [List.mem_cons, List.not_mem_nil, or_false] at hd
    rcases hd with rfl | rfl <;> rfl
  case hs =>
    refine ⟨?_, ?_, ?_, ?_, ?_, ?_, ?_, trivial⟩
    · exact V.Step.ldS (.inl rfl) rfl rfl hA0 (fun _ h => by cases h; rfl)
    · refine V.Step.callR (.inl rfl) rfl Try.func41 (by kernel_rfl) rfl fun wa v1 hwa e1 => ?_
      obtain rfl : v1 = .agg #[.int .i64 (n : Int), .iface Ta (.slice aoa la ca)] := e1
      refine (way_any _ _ _ wa).mono ?_
      rintro e wb ⟨rfl, rfl⟩
      exact ⟨_, rfl, below_one wa _, fun d h => by cases h; rfl⟩
    · exact V.Step.move (.inl rfl) (.inl rfl) (.inl ⟨_, rfl⟩) (fun _ h => by cases h; rfl)
    · exact V.Step.fieldS (.inl rfl) rfl rfl (by decide) (fun _ h => by cases h; rfl)
    · exact V.Step.ldI (.inl rfl) rfl rfl hsz hA0.cells.1 (fun _ h => by cases h; rfl)
    · exact V.Step.minI (.inl rfl) rfl rfl rfl rfl (fun _ h => by cases h; rfl)
    · exact V.Step.maxI (.inl rfl) rfl rfl HCI.out (fun _ h => by cases h; rfl)
  case hd =>
  intro vs wa hwa hk9
  have v5 : vs 5 = .agg #[.int .i64 (n : Int), .iface Ta (.slice aoa la ca)] := hk9 0 _ 5 rfl rfl
  have v6 : vs 6 = .iface Ta (.slice aoa la ca) := hk9 1 _ 6 rfl rfl
  have v7 : vs 7 = .int .i64 x := hk9 2 _ 7 rfl rfl
  have v8 : vs 8 = .pointer (some ⟨w.heap.size, 0, none⟩) := hk9 3 _ 8 rfl rfl
  have v9 : vs 9 = .int .i64 (n : Int) := hk9 4 _ 9 rfl rfl
  have v10 : vs 10 = .int .i64 (if (n : Int) < x then (n : Int) else x) := hk9 5 _ 10 rfl rfl
  have v11 : vs 11 = .int .i64 (c : Int) := hk9 6 _ 11 rfl rfl
  simp only [V.puts, List.foldl_cons, List.foldl_nil, v5, v6, v7, v8, v9, v10, v11, Act.put, List.setIfInBounds_toArray, List.set_cons_zero, List.set_cons_succ]
  clear hk9 v5 v6 v7 v8 v9 v10 v11
  simp only [List.drop]
  obtain ⟨z, hz⟩ : ∃ z, (if (n : Int) < x then (n : Int) else x) = z := ⟨_, rfl⟩
  rw [hz]
  have HB := hide (hb3.trans (hwa.mono hb3.size))
  clear hz HCI hb3 hA0 hsz hwa
  obtain ⟨-, kept, hkk, hr⟩ := HA.out.below HB.out
  have hk2 : kept = .iface Ta (.slice aoa la ca) := (by simpa using hkk.symm : _ ∧ kept = .iface Ta (.slice aoa la ca)).2
  subst hk2
  rcases hr with ⟨rfl, ao, len, cap, hif, hs⟩ | ⟨rfl, ao, len, cap, hif, hs⟩ | ⟨rfl, ao, len, cap, hif, hs⟩
  · injection hif with e1 e2
    injection e2 with e2 e3 e4
    subst e1 e2 e3 e4
    replace hs := hide hs
    have hm : ∀ w : World, (method 26 76 (.slice aoa la ca) "astragal/pos.below").run Try.prog w = .ok (69, .slice aoa la ca) w := fun _ => by kernel_rfl
    clear hkk
    go_wp2_with fail
    refine (rabelow_any _ _ _ ba c _ hs.out HN.out (by rw [HE.out]; exact HC.out)).mono ?_
    rintro e w5 ⟨rfl, hb5⟩
    have HB5 := hide (HB.out.trans (hb5.mono HB.out.size))
    clear hb5
    go_wp2
    go_ret
    exact ⟨rfl, HB5.out⟩
  · injection hif with e1 e2
    injection e2 with e2 e3 e4
    subst e1 e2 e3 e4
    obtain ⟨m, hmm⟩ := H2.out rfl
    have hmn : m = n := by rw [← HE.out, hmm]; simp
    subst hmn
    rw [hmm] at hs
    have hres : (Z.ps ba c).length = c := by rw [hmm, ls_all m c HC.out]; simp
    have HRES := hide hres
    replace hs := hide hs
    have hm : ∀ w : World, (method 26 79 (.slice aoa la ca) "astragal/pos.below").run Try.prog w = .ok (76, .slice aoa la ca) w := fun _ => by kernel_rfl
    clear hkk hmm hres
    go_wp2_with fail
    refine (bibelow_any _ _ _ m c _ hs.out hn HC.out).mono ?_
    rintro e w5 ⟨rfl, rfl⟩
    go_wp2
    go_ret
    exact ⟨by rw [HRES.out]; rfl, HB.out⟩
  · injection hif with e1 e2
    injection e2 with e2 e3 e4
    subst e1 e2 e3 e4
    replace hs := hide hs
    have hm : ∀ w : World, (method 26 81 (.slice aoa la ca) "astragal/pos.below").run Try.prog w = .ok (83, .slice aoa la ca) w := fun _ => by kernel_rfl
    clear hkk
    go_wp2_with fail
    refine (libelow_any _ _ _ ba c _ hs.out HN.out (by rw [HE.out]; exact HC.out)).mono ?_
    rintro e w5 ⟨rfl, rfl⟩
    go_wp2
    go_ret
    exact ⟨rfl, HB.out⟩
theorem len_any (a : Value) (ra : Nat) (ba : List Bool) (w : World) (ha : SetAt w a ra ba) :
    Calls Try.prog 30 #[a] w fun e w' => e = .returned (.int .i64 (ba.length : Int)) ∧ Below w.heap.size w w' := by
  obtain ⟨Ta, aoa, la, ca, hae⟩ := SetAt.shape ha
  subst hae
  have hb := below_one w (.cells #[.int .i64 (ba.length : Int), .iface Ta (.slice aoa la ca)] 28)
  obtain ⟨n, hnn⟩ : ∃ n, ba.length = n := ⟨_, rfl⟩
  rw [hnn] at hb ⊢
  clear ha hnn
  go_enter Try.func30, Try.ntmps30
  go_wp2
  go_ret
  exact ⟨rfl, hb⟩
end Go.Proofs.Ytlbchdlokimpfaa

/- The walk of the statement: the next bits up are the next number; turned in sign the order is turned round. -/
import Derived.Test.YthaeipephelmcaaN4
import Derived.Test.YthaeipephelmcaaRU
namespace Go.Proofs.Ythaeipephelmcaa
set_option linter.unusedVariables false
open Go.RowKit

theorem num_up {a : Int} (h0 : 0 ≤ a) (h1 : a ≤ 9218868437227405312) : D.ky a = a + 9223372036854775808 := by
  have hn : D.isN a = false := by
    cases h : D.isN a with
    | false => rfl
    | true => rw [D.isN_iff] at h; omega
  unfold D.ky; rw [D.cl_num hn, if_neg (by omega)]
theorem num_down {a : Int} (h0 : 0 ≤ a) (h1 : a ≤ 9218868437227405312) : D.ky (9223372036854775808 + a) = 9223372036854775807 - a := by
  have hn : D.isN (9223372036854775808 + a) = false := by
    cases h : D.isN (9223372036854775808 + a) with
    | false => rfl
    | true => rw [D.isN_iff] at h; omega
  unfold D.ky; rw [D.cl_num hn, if_pos (by omega)]; omega
theorem cp_next {a : Int} (h0 : 0 ≤ a) (h1 : a < 9218868437227405312) : D.cp a (a + 1) = -1 := by
  unfold D.cp; rw [num_up h0 (by omega), num_up (by omega) (by omega), if_pos (by omega)]
theorem cp_signs {a b : Int} (h0 : 0 ≤ a) (h1 : a < 9218868437227405312) (h2 : 0 ≤ b) (h3 : b < 9218868437227405312) : D.cp (9223372036854775808 + a) b = -1 := by
  unfold D.cp; rw [num_down h0 (by omega), num_up h2 (by omega), if_pos (by omega)]
theorem cp_turned {a b : Int} (h0 : 0 ≤ a) (h1 : a < 9218868437227405312) (h2 : 0 ≤ b) (h3 : b < 9218868437227405312) : D.cp (9223372036854775808 + b) (9223372036854775808 + a) = D.cp a b := by
  unfold D.cp; rw [num_down h0 (by omega), num_down h2 (by omega), num_up h0 (by omega), num_up h2 (by omega)]
  repeat' split
  all_goals omega
set_option maxHeartbeats 1000000 in
theorem fltSteps_walk (M : FltKept) (w : World) (p : Int) (wp : (Lit.int .u64 p).wf = true) (q : Int) (wq : (Lit.int .u64 q).wf = true) :
    Calls Try.prog 8 #[.int .u64 p, .int .u64 q] w fun e w' => e = .returned (.bool true) ∧ Below w.heap.size w w' := by
  obtain ⟨ha0, ha1⟩ := wf_u64 wp
  obtain ⟨hb0, hb1⟩ := wf_u64 wq
  have S := fun w => shown_any M w
  have N1 : Hid (∀ (a : Int) (w : World), 0 ≤ a → a < 9218868437227405312 → Calls Try.prog 17 #[.int .u64 a, .int .u64 (a + 1)] w fun e w' => e = .returned (.int .i64 (-1)) ∧ w' = w) := by
    intro a w x0 x1
    have := M.compare a (a + 1) w (by omega) (by omega) (by omega) (by omega)
    rwa [cp_next x0 x1] at this
  have N2 : Hid (∀ (a b : Int) (w : World), 0 ≤ a → a < 9218868437227405312 → 0 ≤ b → b < 9218868437227405312 → Calls Try.prog 17 #[.int .u64 a, .int .u64 b] w fun e w' => e = .returned (.int .i64 (D.cp a b)) ∧ w' = w) := by
    intro a b w x0 x1 y0 y1
    exact M.compare a b w (by omega) (by omega) (by omega) (by omega)
  have N3 : Hid (∀ (a b : Int) (w : World), 0 ≤ a → a < 9218868437227405312 → 0 ≤ b → b < 9218868437227405312 → Calls Try.prog 17 #[.int .u64 (9223372036854775808 + b), .int .u64 (9223372036854775808 + a)] w fun e w' => e = .returned (.int .i64 (D.cp a b)) ∧ w' = w) := by
    intro a b w x0 x1 y0 y1
    have := M.compare (9223372036854775808 + b) (9223372036854775808 + a) w (by omega) (by omega) (by omega) (by omega)
    rwa [cp_turned x0 x1 y0 y1] at this
  have N4 : Hid (∀ (a b : Int) (w : World), 0 ≤ a → a < 9218868437227405312 → 0 ≤ b → b < 9218868437227405312 → Calls Try.prog 17 #[.int .u64 (9223372036854775808 + a), .int .u64 b] w fun e w' => e = .returned (.int .i64 (-1)) ∧ w' = w) := by
    intro a b w x0 x1 y0 y1
    have := M.compare (9223372036854775808 + a) b w (by omega) (by omega) (by omega) (by omega)
    rwa [cp_signs x0 x1 y0 y1] at this
  clear wp wq M
  have a0 : 0 ≤ p % 9218868437227405312 := by omega
  have a1 : p % 9218868437227405312 < 9218868437227405312 := by omega
  have b0 : 0 ≤ q % 9218868437227405312 := by omega
  have b1 : q % 9218868437227405312 < 9218868437227405312 := by omega
  go_enter Try.func8, Try.ntmps8
  go_wp2_with fail
  refine (S _).mono ?_
  rintro e w1 ⟨rfl, rfl⟩
  go_wp2_with fail
  refine (N1.out _ _ a0 a1).mono ?_
  rintro e w1 ⟨rfl, rfl⟩
  go_wp2_with fail
  refine (N2.out _ _ _ a0 a1 b0 b1).mono ?_
  rintro e w1 ⟨rfl, rfl⟩
  go_wp2_with fail
  refine (N3.out _ _ _ a0 a1 b0 b1).mono ?_
  rintro e w1 ⟨rfl, rfl⟩
  go_wp2_with fail
  refine (N4.out _ _ _ a0 a1 b0 b1).mono ?_
  rintro e w1 ⟨rfl, rfl⟩
  go_wp2_with fail
  go_ret
  exact ⟨rfl, Below.refl _ _⟩
end Go.Proofs.Ythaeipephelmcaa

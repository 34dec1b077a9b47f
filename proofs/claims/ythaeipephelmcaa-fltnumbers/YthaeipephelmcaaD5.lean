/- Plain facts on float64s in the spelling of the walk: order by rungs; runs of sums and products. -/
import Derived.Test.YthaeipephelmcaaD4
import Derived.Test.YthaeipephelmcaaRows
namespace Go.Proofs.Ythaeipephelmcaa.D
set_option linter.unusedVariables false
open Ieee

theorem ord_rung (r q : Nat) (hr : r < 2047 * B) (hq : q < 2047 * B) : FloatKind.f64.format.order r q = some (if r < q then .lt else if r = q then .eq else .gt) := by
  show double.order r q = _
  have := order_wd false false r q hr hq
  simp only [wd, Bool.false_eq_true, if_false, su] at this
  rw [this]
  congr 1
  rcases Nat.lt_trichotomy r q with h | h | h
  · rw [if_pos h, cmp_lt (by have := u_lt h; omega)]
  · subst h; rw [if_neg (by omega), if_pos rfl, cmp_eq]
  · rw [if_neg (by omega), if_neg (by omega), cmp_gt (by have := u_lt h; omega)]
theorem ord_lt (r q : Nat) (hr : r < 2047 * B) (hq : q < 2047 * B) : (FloatKind.f64.format.order r q == some Ordering.lt) = decide (r < q) := by
  rw [ord_rung r q hr hq]
  by_cases h : r < q
  · simp [h]
  · rw [if_neg h]
    by_cases h2 : r = q
    · rw [if_pos h2]; simp [h]
    · rw [if_neg h2]; simp [h]
theorem ord_eq (r q : Nat) (hr : r < 2047 * B) (hq : q < 2047 * B) : (FloatKind.f64.format.order r q == some Ordering.eq) = decide (r = q) := by
  rw [ord_rung r q hr hq]
  by_cases h : r < q
  · rw [if_pos h]; simp; omega
  · rw [if_neg h]
    by_cases h2 : r = q
    · rw [if_pos h2]; simp [h2]
    · rw [if_neg h2]; simp [h2]
theorem ord_gt (r q : Nat) (hr : r < 2047 * B) (hq : q < 2047 * B) : (FloatKind.f64.format.order r q == some Ordering.gt) = decide (q < r) := by
  rw [ord_rung r q hr hq]
  by_cases h : r < q
  · rw [if_pos h]; simp; omega
  · rw [if_neg h]
    by_cases h2 : r = q
    · rw [if_pos h2]; simp; omega
    · rw [if_neg h2]; simp; omega

theorem run_half (r : Nat) (h : 2 * B ≤ r) (hr : r < 2047 * B) (w : World) : (binOp .quo 32 (.float .f64 r) (.float .f64 4611686018427387904)).run Try.prog w = .ok (.float .f64 (r - B)) w :=
  run_float_arith w .quo 32 .f64 r 4611686018427387904 (r - B) (by
    have := div_two false r h hr
    simp only [wd, Bool.false_eq_true, if_false] at this
    exact this)
/-- Twice a rung. -/
def dbl (r : Nat) : Nat := if r < B then 2 * r else r + B
theorem u_dbl (r : Nat) : u (dbl r) = 2 * u r := by
  unfold dbl
  by_cases h : r < B
  · rw [if_pos h, u_small r h, u_low _ (by omega)]
  · rw [if_neg h, u_next r (by omega)]
theorem run_twice (r : Nat) (hr : r < 2046 * B) (w : World) : (binOp .mul 32 (.float .f64 r) (.float .f64 4611686018427387904)).run Try.prog w = .ok (.float .f64 (dbl r)) w :=
  run_float_arith w .mul 32 .f64 r 4611686018427387904 (dbl r) (by
    unfold dbl
    by_cases h : r < B
    · rw [if_pos h]
      have := mul_two_low false r h
      simp only [wd, Bool.false_eq_true, if_false] at this
      exact this
    · rw [if_neg h]
      have := mul_two false r (by omega) (by have : r + B < 2046 * B + B := by omega
                                             omega)
      simp only [wd, Bool.false_eq_true, if_false] at this
      exact this)
theorem run_less (f : Nat) (hf : f < B) : ∃ r, r < 2047 * B ∧ u r = f * 2 ^ P22 ∧ ∀ w : World, (binOp .sub 32 (.float .f64 (1023 * B + f)) (.float .f64 4607182418800017408)).run Try.prog w = .ok (.float .f64 r) w := by
  obtain ⟨r, hr, hu, hs⟩ := sub_one f hf
  refine ⟨r, hr, hu, fun w => run_float_arith w .sub 32 .f64 (1023 * B + f) 4607182418800017408 r ?_⟩
  simp only [wd, Bool.false_eq_true, if_false] at hs
  exact hs
/-- A fraction of so many 2^-52, 2^52 times, as a whole number. -/
theorem run_up (r n : Nat) (hr : r < 2047 * B) (hu : u r = n * 2 ^ P22) (hn : n < B) : ∃ q, (∀ w : World, (binOp .mul 32 (.float .f64 r) (.float .f64 4841369599423283200)).run Try.prog w = .ok (.float .f64 q) w) ∧ ∀ w : World, (convert 32 22 (.float .f64 q)).run Try.prog w = .ok (.int .u64 (n : Int)) w := by
  obtain ⟨q, hq, hqu⟩ := rung_of n P74 (by omega) (by have := P74_eq; omega)
  have hx : u q = u r * 2 ^ 52 := by rw [hqu, hu, Nat.mul_assoc, ← Nat.pow_add, show P22 + 52 = P74 from rfl]
  refine ⟨q, fun w => run_float_arith w .mul 32 .f64 r 4841369599423283200 q ?_, fun w => run_convert_float_int w 32 22 .f64 .u64 q (n : Int) (by rw [Try.underlying32]; rfl) Try.underlying22 ?_⟩
  · have := mul_52 false r q hr hq hx
    simp only [wd, Bool.false_eq_true, if_false] at this
    exact this
  · unfold floatToIntVal
    have := toInt_whole false q n hq hqu
    simp only [wd, Bool.false_eq_true, if_false] at this
    show (match (double.read q).toInt .zero with | some n => if IntKind.u64.min ≤ n ∧ n ≤ IntKind.u64.max then some n else none | none => none) = _
    rw [this]
    have hB : B = 4503599627370496 := rfl
    simp [IntKind.min, IntKind.max, IntKind.signed, IntKind.bits]
    omega
theorem xor_sign (r : Nat) (h : r < 9223372036854775808) : (9223372036854775808 + r) ^^^ 9223372036854775808 = r := by
  apply Nat.eq_of_testBit_eq
  intro i
  have e63 : (9223372036854775808 : Nat) = 2 ^ 63 := by decide
  rw [Nat.testBit_xor, e63]
  rcases Nat.lt_trichotomy i 63 with hi | rfl | hi
  · have h63 : ¬ 63 = i := by omega
    rw [Nat.testBit_two_pow_add_gt hi, Nat.testBit_two_pow]
    simp [h63]
  · rw [Nat.testBit_two_pow_add_eq, Nat.testBit_two_pow]
    simp
  · have h1 : (2 ^ 63 + r).testBit i = false := Nat.testBit_lt_two_pow (Nat.lt_of_lt_of_le (show 2 ^ 63 + r < 2 ^ 64 by omega) (Nat.pow_le_pow_right (by omega) (by omega)))
    have h2 : r.testBit i = false := Nat.testBit_lt_two_pow (Nat.lt_of_lt_of_le (show r < 2 ^ 64 by omega) (Nat.pow_le_pow_right (by omega) (by omega)))
    have h63 : ¬ 63 = i := by omega
    rw [h1, h2, Nat.testBit_two_pow]
    simp [h63]
theorem run_neg (r : Nat) (h : r < 9223372036854775808) (w : World) : (Op.unary .neg (.float .f64 (9223372036854775808 + r))).run Try.prog w = .ok (.float .f64 r) w := by
  have e : Op.negFloat .f64 (9223372036854775808 + r) = r := xor_sign r h
  simp [Op.unary, e]
theorem ord_neg (r : Nat) (hr : r < 2047 * B) (h0 : 0 < r) : (FloatKind.f64.format.order (9223372036854775808 + r) 0 == some Ordering.lt) = true := by
  have h1 := order_wd true false r 0 hr (by unfold B; omega)
  have h2 : su true r < su false 0 := by
    have := u_pos r (by omega)
    simp only [su, if_true, Bool.false_eq_true, if_false, u_zero]; omega
  rw [cmp_lt h2] at h1
  show (double.order (9223372036854775808 + r) 0 == some Ordering.lt) = true
  have h3 : double.order (9223372036854775808 + r) 0 = some .lt := h1
  rw [h3]; rfl
end Go.Proofs.Ythaeipephelmcaa.D

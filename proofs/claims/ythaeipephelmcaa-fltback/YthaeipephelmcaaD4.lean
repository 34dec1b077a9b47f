/- Plain facts on float64s: differences, and whole numbers there and back; nothing of the program. -/
import Derived.Test.YthaeipephelmcaaD3
namespace Go.Proofs.Ythaeipephelmcaa.D
set_option linter.unusedVariables false
open Ieee

/-- Great exponents, under names. -/
def P22 : Nat := 1022
def P73 : Nat := 1073
def P74 : Nat := 1074
theorem P22_eq : P22 = 1022 := rfl
theorem P73_eq : P73 = 1073 := rfl
theorem P74_eq : P74 = 1074 := rfl
theorem sub_add (s t : Bool) (r q : Nat) (hr : r < 2047 * B) (hq : q < 2047 * B) : double.sub (wd s r) (wd t q) = double.add (wd s r) (wd (!t) q) := by
  unfold Format.sub Format.add
  rw [read_wd s r hr, read_wd t q hq, read_wd (!t) q hq]
  rfl
/-- One less than a number from 1 on and below 2: its fraction, 2^-52 each. -/
theorem sub_one (f : Nat) (hf : f < B) : ∃ r, r < 2047 * B ∧ u r = f * 2 ^ P22 ∧ double.sub (wd false (1023 * B + f)) (wd false (1023 * B)) = some (wd false r) := by
  obtain ⟨r, hr, hu⟩ := rung_of f P22 (by omega) (by have := P22_eq; omega)
  refine ⟨r, hr, hu, ?_⟩
  have h1 : 1023 * B + f < 2047 * B := by unfold B at *; omega
  have h2 : 1023 * B < 2047 * B := by unfold B; omega
  have hd : (1023 * B + f) / B = 1023 := by rw [Nat.add_comm, Nat.add_mul_div_right _ _ B_pos, Nat.div_eq_of_lt hf]
  have hm : (1023 * B + f) % B = f := by rw [Nat.add_comm, Nat.add_mul_mod_self_right, Nat.mod_eq_of_lt hf]
  have u1 : u (1023 * B + f) = (B + f) * 2 ^ P22 := by rw [u_big _ (by unfold B at *; omega), hd, hm, show 1023 - 1 = P22 from rfl]
  have u2 : u (1023 * B) = B * 2 ^ P22 := by
    rw [u_big _ (by unfold B; omega), Nat.mul_div_cancel _ B_pos, Nat.mul_mod_left, show 1023 - 1 = P22 from rfl, Nat.add_zero]
  have hs : su false (1023 * B + f) + su true (1023 * B) = ((f * 2 ^ P22 : Nat) : Int) := by
    simp only [su, u1, u2, Nat.add_mul]
    generalize f * 2 ^ P22 = a
    generalize B * 2 ^ P22 = b
    simp; omega
  rw [sub_add _ _ _ _ h1 h2]
  have := add_exact false true (1023 * B + f) (1023 * B) r h1 h2 hr (by rw [hs, hu]; exact Int.natAbs_natCast _)
  rw [Bool.not_false, this, hs]
  generalize f * 2 ^ P22 = a
  by_cases h0 : (a : Int) = 0
  · rw [if_pos h0]; rfl
  · rw [if_neg h0]
    have : ¬ (a : Int) < 0 := by omega
    simp only [this, decide_false]

theorem cut_zero (neg : Bool) (n k : Nat) : Toward.zero.cut neg (n * 2 ^ k) k = n := by
  by_cases hn : n = 0
  · subst hn; simp [Toward.cut]
  · have hl := log2_mul_pow n k hn
    have hp : 0 < 2 ^ k := Nat.two_pow_pos k
    unfold Toward.cut
    have hmin : min k ((n * 2 ^ k).log2 + 2) = k := by rw [hl]; omega
    simp only [hmin, Nat.shiftLeft_eq, Nat.one_mul]
    rw [Nat.mul_div_cancel _ hp]
    simp
/-- A whole number, read off. -/
theorem toInt_whole (s : Bool) (r n : Nat) (hr : r < 2047 * B) (hu : u r = n * 2 ^ P74) : (double.read (wd s r)).toInt .zero = some (if s then -(n : Int) else (n : Int)) := by
  rw [read_wd s r hr]
  simp only [Datum.toInt, Datum.integral]
  have hcut : Toward.zero.cut s (M r <<< (E r).toNat) (-(E r)).toNat = n := by
    rw [Nat.shiftLeft_eq]
    have hv := val_rung r
    rw [hu] at hv
    rcases hv with ⟨h1, h2⟩ | ⟨h1, h2⟩
    · rcases Int.lt_or_le (E r) 0 with he | he
      · rw [show (E r).toNat = 0 by omega, Nat.pow_zero, Nat.mul_one]
        have : M r = n * 2 ^ (-(E r)).toNat := by
          rw [show P74 = (-(E r)).toNat + (E r + 1074).toNat by have := P74_eq; omega, Nat.pow_add, ← Nat.mul_assoc] at h2
          exact Nat.eq_of_mul_eq_mul_right (Nat.two_pow_pos _) h2
        rw [this]
        exact cut_zero s n _
      · rw [show (-(E r)).toNat = 0 by omega]
        have : M r * 2 ^ (E r).toNat = n := by
          rw [show (E r + 1074).toNat = (E r).toNat + P74 by have := P74_eq; omega, Nat.pow_add, ← Nat.mul_assoc] at h2
          exact Nat.eq_of_mul_eq_mul_right (Nat.two_pow_pos _) h2
        rw [this]
        have := cut_zero s n 0
        simpa using this
    · have := E_le r; omega
  rw [hcut]
  cases s <;> simp [signed]
/-- A whole number, as a number with a point. -/
theorem ofInt_whole (a : Int) (h : a.natAbs < 2 * B) : ∃ r, r < 2047 * B ∧ u r = a.natAbs * 2 ^ P74 ∧ FloatKind.nearest .f64 a = wd (decide (a < 0)) r := by
  obtain ⟨r, hr, hu⟩ := rung_of a.natAbs P74 h (by have := P74_eq; omega)
  refine ⟨r, hr, hu, ?_⟩
  have hv : Val a.natAbs 0 (u r) := .inl ⟨by omega, by rw [hu, show ((0 : Int) + 1074).toNat = P74 from rfl]⟩
  show double.write (.number (decide (a < 0)) a.natAbs 0) = _
  simp only [Format.write]
  rw [nearest_exact _ _ _ r hr hv, wd_word]
theorem u_pow (j : Nat) (hj : 1 ≤ j) : u (j * B) = 2 ^ (51 + j) := by
  have hB : B ≤ j * B := by have := Nat.mul_le_mul_right B hj; omega
  rw [u_big _ hB, Nat.mul_div_cancel _ B_pos, Nat.mul_mod_left, Nat.add_zero]
  have h : ∀ k, B * 2 ^ k = 2 ^ (52 + k) := fun k => by rw [Nat.pow_add, ← B_pow]
  rw [h, show 52 + (j - 1) = 51 + j by omega]
theorem u_pow' (j k : Nat) (hj : 1 ≤ j) (h : 51 + j = k) : u (j * B) = 2 ^ k := by rw [u_pow j hj, h]
theorem half_rung : u (1022 * B) = 2 ^ P73 := u_pow' 1022 P73 (by omega) rfl
/-- A whole number and a half. -/
theorem add_half (s : Bool) (r n : Nat) (hr : r < 2047 * B) (hu : u r = n * 2 ^ P74) (hn : n < 2251799813685248) (hs : s = true → n ≠ 0) : ∃ q, q < 2047 * B ∧ u q = (if s then 2 * n - 1 else 2 * n + 1) * 2 ^ P73 ∧ double.add (wd s r) (wd false (1022 * B)) = some (wd s q) := by
  have hB : B = 4503599627370496 := rfl
  obtain ⟨q, hq, huq⟩ := rung_of (if s then 2 * n - 1 else 2 * n + 1) P73 (by split <;> omega) (by have := P73_eq; omega)
  refine ⟨q, hq, huq, ?_⟩
  have hh : 1022 * B < 2047 * B := by unfold B; omega
  have hp := Nat.two_pow_pos P73
  have hu2 : u r = 2 * n * 2 ^ P73 := by rw [hu, show P74 = P73 + 1 from rfl, Nat.pow_succ, Nat.mul_comm (2 ^ P73) 2, ← Nat.mul_assoc, Nat.mul_comm n 2]
  have hsum : su s r + su false (1022 * B) = if s then -(((2 * n - 1) * 2 ^ P73 : Nat) : Int) else (((2 * n + 1) * 2 ^ P73 : Nat) : Int) := by
    cases s with
    | false =>
      simp only [su, hu2, half_rung, Bool.false_eq_true, if_false, Nat.add_mul, Nat.one_mul]
      generalize 2 * n * 2 ^ P73 = a
      generalize (2 : Nat) ^ P73 = b
      omega
    | true =>
      have h0 := hs rfl
      simp only [su, hu2, half_rung, if_true, Bool.false_eq_true, if_false, Nat.sub_mul, Nat.one_mul]
      have hle : 2 ^ P73 ≤ 2 * n * 2 ^ P73 := Nat.le_mul_of_pos_left _ (by omega)
      generalize 2 * n * 2 ^ P73 = a at hle ⊢
      generalize (2 : Nat) ^ P73 = b at hle ⊢
      omega
  have habs : (su s r + su false (1022 * B)).natAbs = u q := by
    rw [hsum, huq]
    cases s <;> simp only [Bool.false_eq_true, if_true, if_false, Int.natAbs_neg, Int.natAbs_natCast]
  rw [add_exact s false r (1022 * B) q hr hh hq habs, hsum]
  congr 2
  cases s with
  | false =>
    have hpos : 0 < (2 * n + 1) * 2 ^ P73 := Nat.mul_pos (by omega) hp
    simp only [Bool.false_eq_true, if_false]
    generalize (2 * n + 1) * 2 ^ P73 = a at hpos ⊢
    rw [if_neg (by omega)]
    simp
  | true =>
    have h0 := hs rfl
    have hpos : 0 < (2 * n - 1) * 2 ^ P73 := Nat.mul_pos (by omega) hp
    simp only [if_true]
    generalize (2 * n - 1) * 2 ^ P73 = a at hpos ⊢
    rw [if_neg (by omega)]
    simp; omega
end Go.Proofs.Ythaeipephelmcaa.D

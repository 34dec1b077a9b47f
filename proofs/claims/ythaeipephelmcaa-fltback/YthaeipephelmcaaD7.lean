/- Plain: the words of whole numbers, and of a half more. Nothing of the program. -/
import Derived.Test.YthaeipephelmcaaD4
import Derived.Test.YthaeipephelmcaaD6
namespace Go.Proofs.Ythaeipephelmcaa.D
set_option linter.unusedVariables false

theorem pow_cut {x n j K : Nat} (h : x * 2 ^ j = n * 2 ^ K) (hj : j ≤ K) : x = n * 2 ^ (K - j) := by
  have e : K = (K - j) + j := by omega
  rw [e, Nat.pow_add, ← Nat.mul_assoc] at h
  exact Nat.eq_of_mul_eq_mul_right (Nat.pow_pos (by omega)) h
theorem pow_cut' {x n j K : Nat} (h : x * 2 ^ j = n * 2 ^ K) (hj : K ≤ j) : n = x * 2 ^ (j - K) := pow_cut h.symm hj
theorem wd_parts (s : Bool) (r : Nat) (hr : r < 2047 * B) : ((wd s r : Nat) : Int) / 4503599627370496 % 2048 = ((r / B : Nat) : Int) ∧ ((wd s r : Nat) : Int) % 4503599627370496 = ((r % B : Nat) : Int) := by
  unfold wd B at *
  cases s <;> simp <;> omega
theorem wd_sign (s : Bool) (r : Nat) (hr : r < 2047 * B) : (9223372036854775808 ≤ ((wd s r : Nat) : Int)) ↔ s = true := by
  unfold wd B at *
  cases s <;> simp <;> omega
theorem wd_lt (s : Bool) (r : Nat) (hr : r < 2047 * B) : ((wd s r : Nat) : Int) < 18446744073709551616 := by
  unfold wd B at *
  cases s <;> simp <;> omega
theorem low_pow {x n K : Nat} (hK : 53 ≤ K) (h : x = n * 2 ^ K) (hx : x < 9007199254740992) : n = 0 := by
  rcases Nat.eq_zero_or_pos n with h0 | h0
  · exact h0
  · exfalso
    have h1 : 2 ^ 53 ≤ 2 ^ K := Nat.pow_le_pow_right (by omega) hK
    have h2 : 1 * 2 ^ K ≤ n * 2 ^ K := Nat.mul_le_mul_right _ h0
    omega
theorem u_zero_iff {r : Nat} (h : u r = 0) : r = 0 := by
  rcases Nat.eq_zero_or_pos r with h0 | h0
  · exact h0
  · exact absurd h (u_pos r (by omega))
/-- The word of a whole number is told as it is. -/
theorem whole_of (s : Bool) (r n : Nat) (hr : r < 2047 * B) (hn : n < B) (hu : u r = n * 2 ^ P74) : whole ((wd s r : Nat) : Int) = true ∧ wh ((wd s r : Nat) : Int) = if s = true then -(n : Int) else (n : Int) := by
  obtain ⟨hE, hF⟩ := wd_parts s r hr
  have hP := P74_eq
  by_cases h0 : r < B
  · rw [u_small r h0] at hu
    have hn0 : n = 0 := low_pow (by omega) hu (by unfold B at h0; omega)
    subst hn0
    have hr0 : r = 0 := by simpa using hu
    subst hr0
    have := whole_zero hE hF (by simp) (by simp)
    refine ⟨this.1, ?_⟩
    rw [this.2]; cases s <;> simp
  · have hb : B ≤ r := by omega
    rw [u_big r hb] at hu
    have hE1 : 1 ≤ r / B := by rw [Nat.le_div_iff_mul_le B_pos]; omega
    have hf : r % B < B := Nat.mod_lt _ B_pos
    by_cases hj : r / B - 1 ≤ P74
    · have hx := pow_cut hu hj
      have hsm : P74 - (r / B - 1) ≤ 52 := by
        by_cases c : P74 - (r / B - 1) ≤ 52
        · exact c
        · exfalso
          have := low_pow (by omega) hx (by unfold B at hf ⊢; omega)
          subst this
          unfold B at hx; omega
      have hne : P74 - (r / B - 1) ≠ 0 := by
        intro h
        rw [h] at hx; simp at hx; unfold B at *; omega
      have hk : (1075 - ((r / B : Nat) : Int)).toNat = P74 - (r / B - 1) := by omega
      have hw : wl (1075 - ((r / B : Nat) : Int)).toNat (4503599627370496 + ((r % B : Nat) : Int)) = some (n : Int) := by
        rw [hk, wl_is]
        have e : (4503599627370496 + ((r % B : Nat) : Int)) = (n : Int) * 2 ^ (P74 - (r / B - 1)) := by
          have : ((B + r % B : Nat) : Int) = ((n * 2 ^ (P74 - (r / B - 1)) : Nat) : Int) := by rw [← hx]
          rw [Int.natCast_mul, Int.natCast_pow] at this
          rw [show ((2 : Nat) : Int) = 2 from rfl] at this
          rw [← this]; unfold B; simp
        rw [e, if_pos (by simp), Int.mul_ediv_cancel _ (by
          have : (0 : Int) < 2 ^ (P74 - (r / B - 1)) := Int.pow_pos (by omega)
          omega)]
      have := whole_some hE hF (by omega) (by omega) hw
      refine ⟨this.1, ?_⟩
      rw [this.2]
      by_cases c : s = true
      · rw [if_pos ((wd_sign s r hr).2 c), if_pos c]
      · rw [if_neg (fun h => c ((wd_sign s r hr).1 h)), if_neg c]
    · exfalso
      have := pow_cut' hu (by omega)
      have h2 : 1 ≤ 2 ^ (r / B - 1 - P74) := Nat.pow_pos (by omega)
      have h3 : (B + r % B) * 1 ≤ (B + r % B) * 2 ^ (r / B - 1 - P74) := Nat.mul_le_mul_left _ h2
      omega
/-- A half more is none. -/
theorem whole_half (s : Bool) (r k : Nat) (hr : r < 2047 * B) (hk : k < B) (ho : k % 2 = 1) (hu : u r = k * 2 ^ P73) : whole ((wd s r : Nat) : Int) = false := by
  obtain ⟨hE, hF⟩ := wd_parts s r hr
  have hP := P73_eq
  by_cases h0 : r < B
  · exfalso
    rw [u_small r h0] at hu
    have : k = 0 := low_pow (by omega) hu (by unfold B at h0; omega)
    omega
  · have hb : B ≤ r := by omega
    rw [u_big r hb] at hu
    have hE1 : 1 ≤ r / B := by rw [Nat.le_div_iff_mul_le B_pos]; omega
    have hf : r % B < B := Nat.mod_lt _ B_pos
    by_cases hj : r / B - 1 ≤ P73
    · have hx := pow_cut hu hj
      by_cases hlow : r / B < 1023
      · exact (whole_out hE hF (by omega) (by omega)).1
      · refine (whole_none hE hF (by omega) (by omega) ?_).1
        have hk : (1075 - ((r / B : Nat) : Int)).toNat = (P73 - (r / B - 1)) + 1 := by omega
        rw [hk, wl_is, if_neg]
        have e : (4503599627370496 + ((r % B : Nat) : Int)) = 2 ^ (P73 - (r / B - 1)) * (k : Int) := by
          have : ((B + r % B : Nat) : Int) = ((k * 2 ^ (P73 - (r / B - 1)) : Nat) : Int) := by rw [← hx]
          rw [Int.natCast_mul, Int.natCast_pow] at this
          rw [show ((2 : Nat) : Int) = 2 from rfl, Int.mul_comm] at this
          rw [← this]; unfold B; simp
        have hp : (0 : Int) < 2 ^ (P73 - (r / B - 1)) := Int.pow_pos (by omega)
        rw [e, Int.pow_succ, Int.mul_emod_mul_of_pos _ _ hp]
        intro h
        rcases Int.mul_eq_zero.1 h with h | h <;> omega
    · exfalso
      have := pow_cut' hu (by omega)
      have h2 : 1 ≤ 2 ^ (r / B - 1 - P73) := Nat.pow_pos (by omega)
      have h3 : (B + r % B) * 1 ≤ (B + r % B) * 2 ^ (r / B - 1 - P73) := Nat.mul_le_mul_left _ h2
      omega
/-- Words' keys. -/
theorem ky_wd (s : Bool) (r : Nat) (hr : r < 2047 * B) : ky ((wd s r : Nat) : Int) = if s = true then 9223372036854775807 - (r : Int) else (r : Int) + 9223372036854775808 := by
  obtain ⟨hE, hF⟩ := wd_parts s r hr
  have hn : isN ((wd s r : Nat) : Int) = false := by
    cases h : isN ((wd s r : Nat) : Int) with
    | false => rfl
    | true =>
      rw [isN_iff, hE] at h
      have : r / B < 2047 := by rw [Nat.div_lt_iff_lt_mul B_pos]; exact hr
      omega
  unfold ky; rw [cl_num hn]
  by_cases c : s = true
  · rw [if_pos ((wd_sign s r hr).2 c), if_pos c]; unfold wd; rw [if_pos c]; omega
  · rw [if_neg (fun h => c ((wd_sign s r hr).1 h)), if_neg c]; unfold wd; rw [if_neg c]
theorem rung_less {r q n m : Nat} (hr : u r = n * 2 ^ P74) (hq : u q = m * 2 ^ P74) : r < q ↔ n < m := by
  rw [← u_lt_iff, hr, hq]
  exact Nat.mul_lt_mul_right (Nat.pow_pos (by omega))
/-- Whole numbers are in the order of their words. -/
theorem cp_wholes (a b : Int) (r q : Nat) (hr : r < 2047 * B) (hq : q < 2047 * B) (ha : u r = a.natAbs * 2 ^ P74) (hb : u q = b.natAbs * 2 ^ P74) :
    cp ((wd (decide (a < 0)) r : Nat) : Int) ((wd (decide (b < 0)) q : Nat) : Int) < 0 ↔ a < b := by
  have h1 := rung_less ha hb
  have h2 := rung_less hb ha
  have hc := cp_cases ((wd (decide (a < 0)) r : Nat) : Int) ((wd (decide (b < 0)) q : Nat) : Int)
  rw [ky_wd _ r hr, ky_wd _ q hq] at hc
  simp only [decide_eq_true_eq] at hc
  split at hc <;> split at hc <;> omega
end Go.Proofs.Ythaeipephelmcaa.D

/- Plain facts on float64s as words (the model's own: Ieee): what a number is in units of the least one; nothing of the program. -/
import Derived.WalkKit
import Ieee.Arith
namespace Go.Proofs.Ythaeipephelmcaa.D
set_option linter.unusedVariables false
open Ieee

/-- Rungs to a binade. -/
def B : Nat := 4503599627370496
theorem B_eq : double.binade = B := by decide
theorem inf_eq : double.infRung = 2047 * B := by decide
theorem sign_eq : double.signWeight = 9223372036854775808 := by decide
theorem least_eq : double.leastPlace = -1074 := by decide
theorem B_pow : B = 2 ^ 52 := by decide
/-- A rung's number, in units of the least number above 0. -/
def u (r : Nat) : Nat := if r < B then r else (B + r % B) * 2 ^ (r / B - 1)

theorem log2_mul_pow (m k : Nat) (h : m ≠ 0) : (m * 2 ^ k).log2 = m.log2 + k := by
  have hp : 0 < 2 ^ k := Nat.two_pow_pos k
  have hm : m * 2 ^ k ≠ 0 := Nat.mul_ne_zero h (by omega)
  rw [Nat.log2_eq_iff hm]
  have h1 := Nat.log2_self_le h
  have h2 : m < 2 ^ (m.log2 + 1) := Nat.lt_log2_self
  constructor
  · rw [Nat.pow_add]; exact Nat.mul_le_mul_right _ h1
  · rw [show m.log2 + k + 1 = (m.log2 + 1) + k by omega, Nat.pow_add]
    exact Nat.mul_lt_mul_of_pos_right h2 hp
theorem log2_B (f : Nat) (h : f < B) : (B + f).log2 = 52 := by
  rw [Nat.log2_eq_iff (by unfold B; omega)]
  unfold B at *
  constructor <;> omega

/-- m * 2^p is n units. -/
def Val (m : Nat) (p : Int) (n : Nat) : Prop := ((-1074 ≤ p) ∧ m * 2 ^ (p + 1074).toNat = n) ∨ (p < -1074 ∧ m = n * 2 ^ (-1074 - p).toNat)

theorem Val.log {m : Nat} {p : Int} {n : Nat} (h : Val m p n) (hm : m ≠ 0) : n ≠ 0 ∧ p + (m.log2 : Int) = -1074 + (n.log2 : Int) := by
  rcases h with ⟨h1, h2⟩ | ⟨h1, h2⟩
  · have hp : 0 < 2 ^ (p + 1074).toNat := Nat.two_pow_pos _
    have hn : n ≠ 0 := by rw [← h2]; exact Nat.mul_ne_zero hm (by omega)
    refine ⟨hn, ?_⟩
    rw [← h2, log2_mul_pow m _ hm]; omega
  · have hn : n ≠ 0 := by rintro rfl; apply hm; rw [h2]; simp
    refine ⟨hn, ?_⟩
    rw [h2, log2_mul_pow n _ hn]; omega

theorem cut_none (neg : Bool) (n : Nat) : Toward.even.cut neg n 0 = n := by
  simp [Toward.cut]; omega
theorem cut_exact (neg : Bool) (n k : Nat) (hn : n ≠ 0) : Toward.even.cut neg (n * 2 ^ k) k = n := by
  have hl := log2_mul_pow n k hn
  have hp : 0 < 2 ^ k := Nat.two_pow_pos k
  unfold Toward.cut
  have hmin : min k ((n * 2 ^ k).log2 + 2) = k := by rw [hl]; omega
  simp only [hmin, Nat.shiftLeft_eq, Nat.one_mul]
  rw [Nat.mul_div_cancel _ hp, Nat.mul_mod_left]
  have h1 : (2 ^ k == 0) = false := by simp
  simp [h1]

theorem u_zero : u 0 = 0 := by decide
theorem u_small (r : Nat) (h : r < B) : u r = r := by unfold u; rw [if_pos h]
theorem u_big (r : Nat) (h : B ≤ r) : u r = (B + r % B) * 2 ^ (r / B - 1) := by unfold u; rw [if_neg (by omega)]
theorem u_pos (r : Nat) (h : r ≠ 0) : u r ≠ 0 := by
  by_cases hr : r < B
  · rw [u_small r hr]; exact h
  · rw [u_big r (by omega)]
    exact Nat.mul_ne_zero (by unfold B; omega) (by have := Nat.two_pow_pos (r / B - 1); omega)

/-- A number that a rung is, is written as that. -/
theorem nearest_exact (neg : Bool) (m : Nat) (p : Int) (r : Nat) (hr : r < 2047 * B) (h : Val m p (u r)) : double.nearest neg m p = double.word neg r := by
  unfold Format.nearest
  by_cases hm : m = 0
  · subst hm
    have h0 : u r = 0 := by
      rcases h with ⟨_, h2⟩ | ⟨_, h2⟩
      · simpa using h2.symm
      · have hp : 0 < 2 ^ (-1074 - p).toNat := Nat.two_pow_pos _
        rcases Nat.mul_eq_zero.1 h2.symm with h3 | h3
        · exact h3
        · omega
    have : r = 0 := by
      by_cases hz : r = 0
      · exact hz
      · exact absurd h0 (u_pos r hz)
    subst this
    simp
  · rw [if_neg hm]
    obtain ⟨hn, hlog⟩ := h.log hm
    have hrz : r ≠ 0 := by rintro rfl; exact hn u_zero
    -- the last place that is kept
    have key : ∀ (e : Nat) (k : Nat), u r = k * 2 ^ e → k ≠ 0 → max (p + (m.log2 : Int) - 52) (-1074) = -1074 + (e : Int) → Toward.even.cut neg (m <<< (p - (-1074 + (e : Int))).toNat) ((-1074 + (e : Int)) - p).toNat = k := by
      intro e k hu hk _
      rw [Nat.shiftLeft_eq]
      rcases Int.lt_or_le p (-1074 + (e : Int)) with hp | hp
      · rw [show (p - (-1074 + (e : Int))).toNat = 0 by omega, Nat.pow_zero, Nat.mul_one]
        have hmk : m = k * 2 ^ ((-1074 + (e : Int)) - p).toNat := by
          rcases h with ⟨h1, h2⟩ | ⟨h1, h2⟩
          · rw [hu, show e = ((-1074 + (e : Int)) - p).toNat + (p + 1074).toNat by omega, Nat.pow_add, ← Nat.mul_assoc] at h2
            have hpos : 0 < 2 ^ (p + 1074).toNat := Nat.two_pow_pos _
            have := Nat.eq_of_mul_eq_mul_right hpos h2
            rw [this]
          · rw [h2, hu, Nat.mul_assoc, ← Nat.pow_add]
            congr 2
            omega
        rw [hmk]
        exact cut_exact neg k _ hk
      · rw [show ((-1074 + (e : Int)) - p).toNat = 0 by omega, cut_none]
        rcases h with ⟨h1, h2⟩ | ⟨h1, h2⟩
        · rw [hu, show (p + 1074).toNat = (p - (-1074 + (e : Int))).toNat + e by omega, Nat.pow_add, ← Nat.mul_assoc] at h2
          have hpos : 0 < 2 ^ e := Nat.two_pow_pos _
          exact Nat.eq_of_mul_eq_mul_right hpos h2
        · omega
    have hB : (2 : Nat) ^ 52 = B := B_pow.symm
    simp only [show double.fractionBits = 52 from rfl, least_eq, B_eq, inf_eq]
    by_cases hr2 : r < B
    · have hu := u_small r hr2
      have hlg : r.log2 < 52 := (Nat.log2_lt hrz).2 (by rw [hB]; exact hr2)
      rw [hu] at hlog
      have hmax : max (p + (m.log2 : Int) - ((52 : Nat) : Int)) (-1074) = -1074 + ((0 : Nat) : Int) := by omega
      rw [hmax, key 0 r (by rw [hu]; simp) hrz (by omega)]
      congr 1
      simp; omega
    · have hu := u_big r (by omega)
      have hf : r % B < B := Nat.mod_lt _ (by unfold B; omega)
      have hk : B + r % B ≠ 0 := by unfold B; omega
      have hlu : (u r).log2 = 52 + (r / B - 1) := by rw [hu, log2_mul_pow _ _ hk, log2_B _ hf]
      rw [hlu] at hlog
      have he : 1 ≤ r / B := Nat.div_pos (by omega) (by unfold B; omega)
      have hmax : max (p + (m.log2 : Int) - ((52 : Nat) : Int)) (-1074) = -1074 + ((r / B - 1 : Nat) : Int) := by omega
      rw [hmax, key (r / B - 1) (B + r % B) hu hk (by omega)]
      congr 1
      have hdm := Nat.div_add_mod r B
      have e1 : (-1074 + ((r / B - 1 : Nat) : Int) - -1074).toNat = r / B - 1 := by omega
      rw [e1]
      have e2 : (r / B - 1) * B + (B + r % B) = r := by
        have : (r / B - 1) * B + B = r / B * B := by
          rw [← Nat.succ_mul]; congr 1; omega
        rw [← Nat.add_assoc, this, Nat.mul_comm]; exact hdm
      rw [e2]; omega
end Go.Proofs.Ythaeipephelmcaa.D

/- Plain facts on float64s: how rungs rise, what is read of them, how two stand to each other; nothing of the program. -/
import Derived.Test.YthaeipephelmcaaD1
namespace Go.Proofs.Ythaeipephelmcaa.D
set_option linter.unusedVariables false
open Ieee

theorem u_lt {r s : Nat} (h : r < s) : u r < u s := by
  by_cases hs : s < B
  · rw [u_small r (by omega), u_small s hs]; exact h
  · rw [u_big s (by omega)]
    have hp := Nat.two_pow_pos (s / B - 1)
    by_cases hr : r < B
    · rw [u_small r hr]
      have : B + s % B ≤ (B + s % B) * 2 ^ (s / B - 1) := Nat.le_mul_of_pos_right _ hp
      omega
    · rw [u_big r (by omega)]
      have hf : r % B < B := Nat.mod_lt _ (by unfold B; omega)
      have hd1 := Nat.div_add_mod r B
      have hd2 := Nat.div_add_mod s B
      have he1 : 1 ≤ r / B := Nat.div_pos (by omega) (by unfold B; omega)
      have hle : r / B ≤ s / B := Nat.div_le_div_right (by omega)
      rcases Nat.lt_or_ge (r / B) (s / B) with hlt | hge
      · have h1 : (B + r % B) * 2 ^ (r / B - 1) < (2 * B) * 2 ^ (r / B - 1) := Nat.mul_lt_mul_of_pos_right (by omega) (Nat.two_pow_pos _)
        have h2 : (2 * B) * 2 ^ (r / B - 1) = B * 2 ^ (r / B) := by
          rw [Nat.mul_comm 2 B, Nat.mul_assoc, ← Nat.pow_succ']; congr 2; omega
        have h3 : B * 2 ^ (r / B) ≤ B * 2 ^ (s / B - 1) := Nat.mul_le_mul_left _ (Nat.pow_le_pow_right (by omega) (by omega))
        have h4 : B * 2 ^ (s / B - 1) ≤ (B + s % B) * 2 ^ (s / B - 1) := Nat.mul_le_mul_right _ (by omega)
        omega
      · have he : r / B = s / B := by omega
        rw [he] at hd1 ⊢
        exact Nat.mul_lt_mul_of_pos_right (by omega) hp
theorem u_inj {r s : Nat} (h : u r = u s) : r = s := by
  rcases Nat.lt_trichotomy r s with h1 | h1 | h1
  · have := u_lt h1; omega
  · exact h1
  · have := u_lt h1; omega
theorem u_lt_iff (r s : Nat) : u r < u s ↔ r < s := by
  constructor
  · intro h
    rcases Nat.lt_trichotomy r s with h1 | h1 | h1
    · exact h1
    · subst h1; omega
    · have := u_lt h1; omega
  · exact u_lt

/-- A rung's digits, and their place. -/
def M (r : Nat) : Nat := if r < B then r else B + r % B
def E (r : Nat) : Int := if r < B then -1074 else -1074 + ((r / B - 1 : Nat) : Int)
theorem val_rung (r : Nat) : Val (M r) (E r) (u r) := by
  unfold M E
  by_cases hr : r < B
  · rw [if_pos hr, if_pos hr, u_small r hr]
    exact .inl ⟨by omega, by simp⟩
  · rw [if_neg hr, if_neg hr, u_big r (by omega)]
    refine .inl ⟨by omega, ?_⟩
    rw [show (-1074 + ((r / B - 1 : Nat) : Int) + 1074).toNat = r / B - 1 by omega]
theorem E_le (r : Nat) : -1074 ≤ E r := by unfold E; split <;> omega
theorem read_pos (r : Nat) (h : r < 2047 * B) : double.read r = .number false (M r) (E r) := by
  have h63 : r < 9223372036854775808 := by unfold B at h; omega
  unfold Format.read
  simp only [B_eq, inf_eq, sign_eq, least_eq]
  rw [Nat.mod_eq_of_lt h63, Nat.div_eq_of_lt h63]
  unfold M E
  by_cases hr : r < B
  · simp [hr]
  · simp [hr, h]
theorem read_neg (r : Nat) (h : r < 2047 * B) : double.read (9223372036854775808 + r) = .number true (M r) (E r) := by
  have h63 : r < 9223372036854775808 := by unfold B at h; omega
  unfold Format.read
  simp only [B_eq, inf_eq, sign_eq, least_eq]
  rw [show (9223372036854775808 + r) % 9223372036854775808 = r by omega, show (9223372036854775808 + r) / 9223372036854775808 = 1 by omega]
  unfold M E
  by_cases hr : r < B
  · simp [hr]
  · simp [hr, h]
theorem read_inf (neg : Bool) : double.read (if neg then 9223372036854775808 + 2047 * B else 2047 * B) = .infinity neg := by
  cases neg <;> decide
theorem read_nan (r : Nat) (h : 2047 * B < r) (h2 : r < 9223372036854775808) (neg : Bool) : double.read (if neg then 9223372036854775808 + r else r) = .nan neg (r - 2047 * B) := by
  unfold Format.read
  simp only [B_eq, inf_eq, sign_eq, least_eq]
  cases neg
  · simp only [Bool.false_eq_true, if_false]
    rw [Nat.mod_eq_of_lt h2, Nat.div_eq_of_lt h2]
    have h3 : ¬ r < B := by omega
    have h4 : ¬ r < 2047 * B := by omega
    have h5 : ¬ r = 2047 * B := by omega
    simp [h3, h4, h5]
  · simp only [if_true]
    rw [show (9223372036854775808 + r) % 9223372036854775808 = r by omega, show (9223372036854775808 + r) / 9223372036854775808 = 1 by omega]
    have h3 : ¬ r < B := by omega
    have h4 : ¬ r < 2047 * B := by omega
    have h5 : ¬ r = 2047 * B := by omega
    simp [h3, h4, h5]

theorem cmp_lt {a b : Int} (h : a < b) : compare a b = .lt := by simp [compare, compareOfLessAndEq, h]
theorem cmp_eq (a : Int) : compare a a = .eq := by simp [compare, compareOfLessAndEq]
theorem cmp_gt {a b : Int} (h : b < a) : compare a b = .gt := by
  have h1 : ¬ a < b := by omega
  have h2 : ¬ a = b := by omega
  simp [compare, compareOfLessAndEq, h1, h2]
theorem compare_mul (a b : Int) (c : Nat) (hc : 0 < c) : compare (a * (c : Int)) (b * (c : Int)) = compare a b := by
  have hc' : (0 : Int) < (c : Int) := by omega
  rcases Int.lt_trichotomy a b with h | h | h
  · have h1 := Int.mul_lt_mul_of_pos_right h hc'
    rw [cmp_lt h, cmp_lt h1]
  · subst h; rw [cmp_eq, cmp_eq]
  · have h1 := Int.mul_lt_mul_of_pos_right h hc'
    rw [cmp_gt h, cmp_gt h1]

/-- A number with its sign, in units. -/
def su (neg : Bool) (r : Nat) : Int := if neg then -(u r : Int) else (u r : Int)
theorem signed_units (neg : Bool) (m : Nat) (p base : Int) (n : Nat) (hb : base ≤ p) (h1 : -1074 ≤ base) (h : Val m p n) : signed neg m (p - base).toNat * ((2 ^ (base + 1074).toNat : Nat) : Int) = if neg then -(n : Int) else (n : Int) := by
  have hv : m * 2 ^ (p - base).toNat * 2 ^ (base + 1074).toNat = n := by
    rcases h with ⟨h2, h3⟩ | ⟨h2, h3⟩
    · rw [Nat.mul_assoc, ← Nat.pow_add, ← h3]; congr 2; omega
    · omega
  have hv' : ((m * 2 ^ (p - base).toNat : Nat) : Int) * ((2 ^ (base + 1074).toNat : Nat) : Int) = (n : Int) := by rw [← Int.natCast_mul, hv]
  unfold signed
  rw [Nat.shiftLeft_eq]
  cases neg
  · simpa using hv'
  · simp only [if_true]
    rw [Int.neg_mul, hv']
theorem order_datum (s t : Bool) (r q : Nat) : Datum.order (.number s (M r) (E r)) (.number t (M q) (E q)) = some (compare (su s r) (su t q)) := by
  unfold Datum.order
  have hr := E_le r
  have hq := E_le q
  have e1 := signed_units s (M r) (E r) (min (E r) (E q)) (u r) (by omega) (by omega) (val_rung r)
  have e2 := signed_units t (M q) (E q) (min (E r) (E q)) (u q) (by omega) (by omega) (val_rung q)
  have := compare_mul (signed s (M r) (E r - min (E r) (E q)).toNat) (signed t (M q) (E q - min (E r) (E q)).toNat) (2 ^ (min (E r) (E q) + 1074).toNat) (Nat.two_pow_pos _)
  rw [e1, e2] at this
  simp only [su]
  rw [this]
/-- How two words of numbers stand to each other. -/
def wd (neg : Bool) (r : Nat) : Nat := if neg then 9223372036854775808 + r else r
theorem wd_word (neg : Bool) (r : Nat) : double.word neg r = wd neg r := by
  unfold Format.word wd; rw [sign_eq]
theorem read_wd (neg : Bool) (r : Nat) (h : r < 2047 * B) : double.read (wd neg r) = .number neg (M r) (E r) := by
  cases neg
  · exact read_pos r h
  · exact read_neg r h
theorem order_wd (s t : Bool) (r q : Nat) (hr : r < 2047 * B) (hq : q < 2047 * B) : double.order (wd s r) (wd t q) = some (compare (su s r) (su t q)) := by
  unfold Format.order; rw [read_wd s r hr, read_wd t q hq, order_datum]
end Go.Proofs.Ythaeipephelmcaa.D

/- Plain: how any two words stand to each other, infinities and NaNs too. Nothing of the program. -/
import Derived.Test.YthaeipephelmcaaD7
namespace Go.Proofs.Ythaeipephelmcaa.D
set_option linter.unusedVariables false
open Ieee

def sr (s : Bool) (r : Nat) : Int := if s = true then -(r : Int) else (r : Int)
theorem cmp_sr (s t : Bool) (r q : Nat) : compare (su s r) (su t q) = compare (sr s r) (sr t q) := by
  have h1 := u_lt_iff r q
  have h2 := u_lt_iff q r
  have h3 := u_lt_iff 0 r
  have h4 := u_lt_iff 0 q
  rw [u_zero] at h3 h4
  unfold su sr
  rcases Int.lt_trichotomy (if s = true then -(r : Int) else (r : Int)) (if t = true then -(q : Int) else (q : Int)) with h | h | h
  · rw [cmp_lt h, cmp_lt]
    cases s <;> cases t <;> simp at h ⊢ <;> omega
  · rw [h, cmp_eq]
    have : (if s = true then -(u r : Int) else (u r : Int)) = (if t = true then -(u q : Int) else (u q : Int)) := by
      cases s <;> cases t <;> simp at h ⊢ <;> omega
    rw [this, cmp_eq]
  · rw [cmp_gt h, cmp_gt]
    cases s <;> cases t <;> simp at h ⊢ <;> omega
theorem read_winf (s : Bool) : double.read (wd s (2047 * B)) = .infinity s := read_inf s
theorem order_all (s t : Bool) (r q : Nat) (hr : r ≤ 2047 * B) (hq : q ≤ 2047 * B) : double.order (wd s r) (wd t q) = some (compare (sr s r) (sr t q)) := by
  have hB : B = 4503599627370496 := rfl
  rcases Nat.lt_or_eq_of_le hr with h1 | h1
  · rcases Nat.lt_or_eq_of_le hq with h2 | h2
    · rw [order_wd s t r q h1 h2, cmp_sr]
    · subst h2
      unfold Format.order; rw [read_wd s r h1, read_winf]
      simp only [Datum.order]
      congr 1
      cases t
      · rw [cmp_lt (by unfold sr; cases s <;> simp <;> omega)]; rfl
      · rw [cmp_gt (by unfold sr; cases s <;> simp <;> omega)]; rfl
  · subst h1
    rcases Nat.lt_or_eq_of_le hq with h2 | h2
    · unfold Format.order; rw [read_wd t q h2, read_winf]
      simp only [Datum.order]
      congr 1
      cases s
      · rw [cmp_gt (by unfold sr; cases t <;> simp <;> omega)]; rfl
      · rw [cmp_lt (by unfold sr; cases t <;> simp <;> omega)]; rfl
    · subst h2
      unfold Format.order; rw [read_winf, read_winf]
      cases s <;> cases t <;> decide
/-- A NaN stands to nothing. -/
theorem order_nan (s : Bool) (r x : Nat) (h : 2047 * B < r) (h2 : r < 9223372036854775808) : double.order (wd s r) x = none := by
  unfold Format.order
  rw [show double.read (wd s r) = .nan s (r - 2047 * B) from read_nan r h h2 s]
  rfl
theorem word_of (x : Nat) (h : x < 18446744073709551616) : ∃ (s : Bool) (r : Nat), x = wd s r ∧ r < 9223372036854775808 := by
  by_cases c : x < 9223372036854775808
  · exact ⟨false, x, by simp [wd], c⟩
  · exact ⟨true, x - 9223372036854775808, by simp [wd]; omega, by omega⟩
theorem is_lt (s t : Bool) (r q : Nat) (hr : r ≤ 2047 * B) (hq : q ≤ 2047 * B) : (FloatKind.f64.format.order (wd s r) (wd t q) == some Ordering.lt) = decide (sr s r < sr t q) := by
  rw [show FloatKind.f64.format.order (wd s r) (wd t q) = _ from order_all s t r q hr hq]
  rcases Int.lt_trichotomy (sr s r) (sr t q) with h | h | h
  · rw [cmp_lt h]; simp [h]
  · rw [h, cmp_eq]; simp
  · rw [cmp_gt h]; simp; omega
theorem is_eq (s t : Bool) (r q : Nat) (hr : r ≤ 2047 * B) (hq : q ≤ 2047 * B) : (FloatKind.f64.format.order (wd s r) (wd t q) == some Ordering.eq) = decide (sr s r = sr t q) := by
  rw [show FloatKind.f64.format.order (wd s r) (wd t q) = _ from order_all s t r q hr hq]
  rcases Int.lt_trichotomy (sr s r) (sr t q) with h | h | h
  · rw [cmp_lt h]; simp; omega
  · rw [h, cmp_eq]; simp
  · rw [cmp_gt h]; simp; omega
theorem ky_all (s : Bool) (r : Nat) (hr : r ≤ 2047 * B) : ky ((wd s r : Nat) : Int) = if s = true then 9223372036854775807 - (r : Int) else (r : Int) + 9223372036854775808 := by
  rcases Nat.lt_or_eq_of_le hr with h | h
  · exact ky_wd s r h
  · subst h; cases s <;> decide
theorem cp_all (s t : Bool) (r q : Nat) (hr : r ≤ 2047 * B) (hq : q ≤ 2047 * B) (h : sr s r ≠ sr t q) :
    cp ((wd s r : Nat) : Int) ((wd t q : Nat) : Int) < 0 ↔ sr s r < sr t q := by
  have hc := cp_cases ((wd s r : Nat) : Int) ((wd t q : Nat) : Int)
  rw [ky_all s r hr, ky_all t q hq] at hc
  unfold sr at *
  cases s <;> cases t <;> simp at hc h ⊢ <;> omega
theorem cp_nans {a b : Int} (ha : isN a = true) (hb : isN b = true) : cp a b = 0 := by
  unfold cp ky; rw [cl_nan ha, cl_nan hb]; decide
theorem ky_nan {a : Int} (ha : isN a = true) : ky a = 18444492273895866368 := by
  unfold ky; rw [cl_nan ha]; decide
/-- A number that is one is ahead of a NaN. -/
theorem ky_less {a : Int} (h : In64 a) (ha : isN a = false) : ky a < 18444492273895866368 := by
  unfold In64 at h
  have h2 : ¬ (a / 4503599627370496 % 2048 = 2047 ∧ a % 4503599627370496 ≠ 0) := by
    rw [← isN_iff, ha]; simp
  unfold ky; rw [cl_num ha]
  split <;> omega
end Go.Proofs.Ythaeipephelmcaa.D

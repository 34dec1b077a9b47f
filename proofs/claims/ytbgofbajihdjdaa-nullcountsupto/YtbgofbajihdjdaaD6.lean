/- Plain: a float64's bits cleaned, its key, and back; which is ahead; which whole number it is. Nothing of the program. -/
import Derived.WalkKit
namespace Go.Proofs.Ytbgofbajihdjdaa.D
set_option linter.unusedVariables false

/-- A NaN's bits. -/
def isN (b : Int) : Bool := (b / 4503599627370496 % 2048 == 2047) && (b % 4503599627370496 != 0)
def cl (b : Int) : Int := if isN b then 9221120237041090560 else b
def ky (b : Int) : Int := if 9223372036854775808 ≤ cl b then 18446744073709551615 - cl b else cl b + 9223372036854775808
def bt (k : Int) : Int := cl (if 9223372036854775808 ≤ k then k - 9223372036854775808 else 18446744073709551615 - k)
def cp (a b : Int) : Int := if ky a < ky b then -1 else if ky b < ky a then 1 else 0
def In64 (b : Int) : Prop := 0 ≤ b ∧ b < 18446744073709551616

theorem isN_iff (b : Int) : isN b = true ↔ b / 4503599627370496 % 2048 = 2047 ∧ b % 4503599627370496 ≠ 0 := by
  simp [isN]
theorem isN_nan : isN 9221120237041090560 = true := by decide
theorem cl_nan {b : Int} (h : isN b = true) : cl b = 9221120237041090560 := by unfold cl; rw [if_pos h]
theorem cl_num {b : Int} (h : isN b = false) : cl b = b := by unfold cl; rw [if_neg (by simp [h])]
theorem cl_in {b : Int} (h : In64 b) : In64 (cl b) := by
  unfold cl; split
  · exact ⟨by omega, by omega⟩
  · exact h
theorem cl_cl (b : Int) : cl (cl b) = cl b := by
  cases h : isN b with
  | true => rw [cl_nan h, cl_nan isN_nan]
  | false => rw [cl_num h, cl_num h]
theorem ky_in {b : Int} (h : In64 b) : In64 (ky b) := by
  have h1 := cl_in h
  unfold In64 at h1
  unfold ky In64; split <;> omega
theorem bt_in {k : Int} (h : In64 k) : In64 (bt k) := by
  apply cl_in
  unfold In64 at h ⊢; split <;> omega
/-- There and back. -/
theorem bt_ky {b : Int} (h : In64 b) : bt (ky b) = cl b := by
  have h1 := cl_in h
  unfold In64 at h1
  unfold bt ky
  by_cases hc : 9223372036854775808 ≤ cl b
  · rw [if_pos hc, if_neg (by omega), show 18446744073709551615 - (18446744073709551615 - cl b) = cl b by omega, cl_cl]
  · rw [if_neg hc, if_pos (by omega), show cl b + 9223372036854775808 - 9223372036854775808 = cl b by omega, cl_cl]
theorem ky_inj {a b : Int} (ha : In64 a) (hb : In64 b) : ky a = ky b ↔ cl a = cl b := by
  constructor
  · intro h; rw [← bt_ky ha, h, bt_ky hb]
  · intro h; unfold ky; rw [h]
theorem cp_cases (a b : Int) : (cp a b = -1 ∧ ky a < ky b) ∨ (cp a b = 0 ∧ ky a = ky b) ∨ (cp a b = 1 ∧ ky b < ky a) := by
  unfold cp
  by_cases h1 : ky a < ky b
  · left; exact ⟨by rw [if_pos h1], h1⟩
  · by_cases h2 : ky b < ky a
    · right; right; exact ⟨by rw [if_neg h1, if_pos h2], h2⟩
    · right; left; exact ⟨by rw [if_neg h1, if_neg h2], by omega⟩

/-- The whole number: whether, and which. -/
def whole (b : Int) : Bool := let e := b / 4503599627370496 % 2048; let f := b % 4503599627370496
  if e = 0 ∧ f = 0 then true else if e < 1023 ∨ 1076 < e then false else if e = 1076 then decide (f = 0) else (4503599627370496 + f) % 2 ^ (1075 - e).toNat == 0
def mag (b : Int) : Int := let e := b / 4503599627370496 % 2048; let f := b % 4503599627370496
  if e = 0 then 0 else if e = 1076 then 9007199254740992 else (4503599627370496 + f) / 2 ^ (1075 - e).toNat
def wh (b : Int) : Int := if whole b then (if 9223372036854775808 ≤ b then -(mag b) else mag b) else 0

/-- Halved k times, while even. -/
def wl : Nat → Int → Option Int
  | 0, n => some n
  | k + 1, n => if n % 2 = 0 then wl k (n / 2) else none
theorem wl_is (k : Nat) : ∀ n : Int, wl k n = if n % 2 ^ k = 0 then some (n / 2 ^ k) else none := by
  induction k with
  | zero => intro n; simp [wl, Int.emod_one]
  | succ k ih =>
    intro n
    have hp : (2 : Int) ^ (k + 1) = 2 * 2 ^ k := by rw [Int.pow_succ]; omega
    unfold wl
    by_cases h : n % 2 = 0
    · rw [if_pos h, ih, hp]
      obtain ⟨m, rfl⟩ : ∃ m, n = 2 * m := ⟨n / 2, by omega⟩
      have e1 : 2 * m / 2 = m := by omega
      rw [e1, Int.mul_emod_mul_of_pos _ _ (by omega : (0 : Int) < 2), Int.mul_ediv_mul_of_pos _ _ (by omega : (0 : Int) < 2)]
      by_cases h2 : m % 2 ^ k = 0
      · rw [if_pos h2, if_pos (by omega)]
      · rw [if_neg h2, if_neg (by omega)]
    · rw [if_neg h, if_neg]
      intro h3
      have h4 : (2 : Int) ∣ n := by
        have h5 : (2 : Int) ^ (k + 1) ∣ n := Int.dvd_of_emod_eq_zero h3
        exact Int.dvd_trans ⟨2 ^ k, hp⟩ h5
      omega
theorem whole_zero {b E F : Int} (hE : b / 4503599627370496 % 2048 = E) (hF : b % 4503599627370496 = F) (h : E = 0) (g : F = 0) : whole b = true ∧ wh b = 0 := by
  have h1 : whole b = true := by simp only [whole, hE, hF]; rw [if_pos ⟨h, g⟩]
  refine ⟨h1, ?_⟩
  have h2 : mag b = 0 := by simp only [mag, hE, hF]; rw [if_pos h]
  unfold wh; rw [if_pos h1, h2]; simp
theorem wh_not {b : Int} (h : whole b = false) : wh b = 0 := by unfold wh; rw [if_neg (by simp [h])]
theorem whole_out {b E F : Int} (hE : b / 4503599627370496 % 2048 = E) (hF : b % 4503599627370496 = F) (h : ¬ (E = 0 ∧ F = 0)) (g : E < 1023 ∨ 1076 < E) : whole b = false ∧ wh b = 0 := by
  have h1 : whole b = false := by simp only [whole, hE, hF]; rw [if_neg h, if_pos g]
  exact ⟨h1, wh_not h1⟩
theorem whole_some {b E F m : Int} (hE : b / 4503599627370496 % 2048 = E) (hF : b % 4503599627370496 = F) (h : 1023 ≤ E) (g : E ≤ 1075) (hw : wl (1075 - E).toNat (4503599627370496 + F) = some m) :
    whole b = true ∧ wh b = if 9223372036854775808 ≤ b then -m else m := by
  rw [wl_is] at hw
  split at hw
  · rename_i hz
    injection hw with hw
    have h1 : whole b = true := by
      simp only [whole, hE, hF]; rw [if_neg (by omega), if_neg (by omega), if_neg (by omega), hz]; rfl
    have h2 : mag b = m := by simp only [mag, hE, hF]; rw [if_neg (by omega), if_neg (by omega), hw]
    refine ⟨h1, ?_⟩
    unfold wh; rw [if_pos h1, h2]
  · exact absurd hw (by simp)
theorem whole_none {b E F : Int} (hE : b / 4503599627370496 % 2048 = E) (hF : b % 4503599627370496 = F) (h : 1023 ≤ E) (g : E ≤ 1075) (hw : wl (1075 - E).toNat (4503599627370496 + F) = none) :
    whole b = false ∧ wh b = 0 := by
  rw [wl_is] at hw
  split at hw
  · exact absurd hw (by simp)
  · rename_i hz
    have h1 : whole b = false := by
      simp only [whole, hE, hF]; rw [if_neg (by omega), if_neg (by omega), if_neg (by omega)]
      simpa using hz
    exact ⟨h1, wh_not h1⟩
theorem whole_top {b E F : Int} (hE : b / 4503599627370496 % 2048 = E) (hF : b % 4503599627370496 = F) (h : E = 1076) (g : F = 0) : whole b = true ∧ wh b = if 9223372036854775808 ≤ b then -9007199254740992 else 9007199254740992 := by
  have h1 : whole b = true := by simp only [whole, hE, hF]; rw [if_neg (by omega), if_neg (by omega), if_pos h]; simp [g]
  have h2 : mag b = 9007199254740992 := by simp only [mag, hE]; rw [if_neg (by omega), if_pos h]
  refine ⟨h1, ?_⟩
  unfold wh; rw [if_pos h1, h2]
theorem whole_over {b E F : Int} (hE : b / 4503599627370496 % 2048 = E) (hF : b % 4503599627370496 = F) (h : E = 1076) (g : F ≠ 0) : whole b = false ∧ wh b = 0 := by
  have h1 : whole b = false := by simp only [whole, hE, hF]; rw [if_neg (by omega), if_neg (by omega), if_pos h]; simp [g]
  exact ⟨h1, wh_not h1⟩
end Go.Proofs.Ytbgofbajihdjdaa.D

/- Plain: a float64's bits cleaned, its key, and back; which is ahead; which whole number it is. Nothing of the program. -/
import Derived.WalkKit
import Derived.Lib.Bytealg
import Derived.Test.YtmhfpipeoojacaaGreatBdF
namespace Go.Proofs.YtmhfpipeoojacaaGreat.D
set_option linter.unusedVariables false

/-- A NaN's bits. -/
def isN (b : Int) : Bool := (b / 4503599627370496 % 2048 == 2047) && (b % 4503599627370496 != 0)
def cl (b : Int) : Int := if isN b then 9221120237041090560 else b
def ky (b : Int) : Int := if 9223372036854775808 ≤ cl b then 18446744073709551615 - cl b else cl b + 9223372036854775808
def bt (k : Int) : Int := cl (if 9223372036854775808 ≤ k then k - 9223372036854775808 else 18446744073709551615 - k)
def cp (a b : Int) : Int := if ky a < ky b then -1 else if ky b < ky a then 1 else 0
def In64 (b : Int) : Prop := 0 ≤ b ∧ b < 18446744073709551616

theorem isN_iff (b : Int) : isN b = true ↔ b / 4503599627370496 % 2048 = 2047 ∧ b % 4503599627370496 ≠ 0 := by
  simp [isN]
theorem isN_nan : isN 9221120237041090560 = true := by decide
theorem cl_nan {b : Int} (h : isN b = true) : cl b = 9221120237041090560 := by unfold cl; rw [if_pos h]
theorem cl_num {b : Int} (h : isN b = false) : cl b = b := by unfold cl; rw [if_neg (by simp [h])]
theorem cl_in {b : Int} (h : In64 b) : In64 (cl b) := by
  unfold cl; split
  · exact ⟨by omega, by omega⟩
  · exact h
theorem cl_cl (b : Int) : cl (cl b) = cl b := by
  cases h : isN b with
  | true => rw [cl_nan h, cl_nan isN_nan]
  | false => rw [cl_num h, cl_num h]
theorem ky_in {b : Int} (h : In64 b) : In64 (ky b) := by
  have h1 := cl_in h
  unfold In64 at h1
  unfold ky In64; split <;> omega
theorem bt_in {k : Int} (h : In64 k) : In64 (bt k) := by
  apply cl_in
  unfold In64 at h ⊢; split <;> omega
/-- There and back. -/
theorem bt_ky {b : Int} (h : In64 b) : bt (ky b) = cl b := by
  have h1 := cl_in h
  unfold In64 at h1
  unfold bt ky
  by_cases hc : 9223372036854775808 ≤ cl b
  · rw [if_pos hc, if_neg (by omega), show 18446744073709551615 - (18446744073709551615 - cl b) = cl b by omega, cl_cl]
  · rw [if_neg hc, if_pos (by omega), show cl b + 9223372036854775808 - 9223372036854775808 = cl b by omega, cl_cl]
theorem ky_inj {a b : Int} (ha : In64 a) (hb : In64 b) : ky a = ky b ↔ cl a = cl b := by
  constructor
  · intro h; rw [← bt_ky ha, h, bt_ky hb]
  · intro h; unfold ky; rw [h]
theorem cp_cases (a b : Int) : (cp a b = -1 ∧ ky a < ky b) ∨ (cp a b = 0 ∧ ky a = ky b) ∨ (cp a b = 1 ∧ ky b < ky a) := by
  unfold cp
  by_cases h1 : ky a < ky b
  · left; exact ⟨by rw [if_pos h1], h1⟩
  · by_cases h2 : ky b < ky a
    · right; right; exact ⟨by rw [if_neg h1, if_pos h2], h2⟩
    · right; left; exact ⟨by rw [if_neg h1, if_neg h2], by omega⟩

/-- The whole number: whether, and which. -/
def whole (b : Int) : Bool := let e := b / 4503599627370496 % 2048; let f := b % 4503599627370496
  if e = 0 ∧ f = 0 then true else if e < 1023 ∨ 1076 < e then false else if e = 1076 then decide (f = 0) else (4503599627370496 + f) % 2 ^ (1075 - e).toNat == 0
def mag (b : Int) : Int := let e := b / 4503599627370496 % 2048; let f := b % 4503599627370496
  if e = 0 then 0 else if e = 1076 then 9007199254740992 else (4503599627370496 + f) / 2 ^ (1075 - e).toNat
def wh (b : Int) : Int := if whole b then (if 9223372036854775808 ≤ b then -(mag b) else mag b) else 0

/-- Halved k times, while even. -/
def wl : Nat → Int → Option Int
  | 0, n => some n
  | k + 1, n => if n % 2 = 0 then wl k (n / 2) else none
theorem wl_is (k : Nat) : ∀ n : Int, wl k n = if n % 2 ^ k = 0 then some (n / 2 ^ k) else none := by
  induction k with
  | zero => intro n; simp [wl, Int.emod_one]
  | succ k ih =>
    intro n
    have hp : (2 : Int) ^ (k + 1) = 2 * 2 ^ k := by rw [Int.pow_succ]; omega
    unfold wl
    by_cases h : n % 2 = 0
    · rw [if_pos h, ih, hp]
      obtain ⟨m, rfl⟩ : ∃ m, n = 2 * m := ⟨n / 2, by omega⟩
      have e1 : 2 * m / 2 = m := by omega
      rw [e1, Int.mul_emod_mul_of_pos _ _ (by omega : (0 : Int) < 2), Int.mul_ediv_mul_of_pos _ _ (by omega : (0 : Int) < 2)]
      by_cases h2 : m % 2 ^ k = 0
      · rw [if_pos h2, if_pos (by omega)]
      · rw [if_neg h2, if_neg (by omega)]
    · rw [if_neg h, if_neg]
      intro h3
      have h4 : (2 : Int) ∣ n := by
        have h5 : (2 : Int) ^ (k + 1) ∣ n := Int.dvd_of_emod_eq_zero h3
        exact Int.dvd_trans ⟨2 ^ k, hp⟩ h5
      omega
theorem whole_zero {b E F : Int} (hE : b / 4503599627370496 % 2048 = E) (hF : b % 4503599627370496 = F) (h : E = 0) (g : F = 0) : whole b = true ∧ wh b = 0 := by
  have h1 : whole b = true := by simp only [whole, hE, hF]; rw [if_pos ⟨h, g⟩]
  refine ⟨h1, ?_⟩
  have h2 : mag b = 0 := by simp only [mag, hE, hF]; rw [if_pos h]
  unfold wh; rw [if_pos h1, h2]; simp
theorem wh_not {b : Int} (h : whole b = false) : wh b = 0 := by unfold wh; rw [if_neg (by simp [h])]
theorem whole_out {b E F : Int} (hE : b / 4503599627370496 % 2048 = E) (hF : b % 4503599627370496 = F) (h : ¬ (E = 0 ∧ F = 0)) (g : E < 1023 ∨ 1076 < E) : whole b = false ∧ wh b = 0 := by
  have h1 : whole b = false := by simp only [whole, hE, hF]; rw [if_neg h, if_pos g]
  exact ⟨h1, wh_not h1⟩
theorem whole_some {b E F m : Int} (hE : b / 4503599627370496 % 2048 = E) (hF : b % 4503599627370496 = F) (h : 1023 ≤ E) (g : E ≤ 1075) (hw : wl (1075 - E).toNat (4503599627370496 + F) = some m) :
    whole b = true ∧ wh b = if 9223372036854775808 ≤ b then -m else m := by
  rw [wl_is] at hw
  split at hw
  · rename_i hz
    injection hw with hw
    have h1 : whole b = true := by
      simp only [whole, hE, hF]; rw [if_neg (by omega), if_neg (by omega), if_neg (by omega), hz]; rfl
    have h2 : mag b = m := by simp only [mag, hE, hF]; rw [if_neg (by omega), if_neg (by omega), hw]
    refine ⟨h1, ?_⟩
    unfold wh; rw [if_pos h1, h2]
  · exact absurd hw (by simp)
theorem whole_none {b E F : Int} (hE : b / 4503599627370496 % 2048 = E) (hF : b % 4503599627370496 = F) (h : 1023 ≤ E) (g : E ≤ 1075) (hw : wl (1075 - E).toNat (4503599627370496 + F) = none) :
    whole b = false ∧ wh b = 0 := by
  rw [wl_is] at hw
  split at hw
  · exact absurd hw (by simp)
  · rename_i hz
    have h1 : whole b = false := by
      simp only [whole, hE, hF]; rw [if_neg (by omega), if_neg (by omega), if_neg (by omega)]
      simpa using hz
    exact ⟨h1, wh_not h1⟩
theorem whole_top {b E F : Int} (hE : b / 4503599627370496 % 2048 = E) (hF : b % 4503599627370496 = F) (h : E = 1076) (g : F = 0) : whole b = true ∧ wh b = if 9223372036854775808 ≤ b then -9007199254740992 else 9007199254740992 := by
  have h1 : whole b = true := by simp only [whole, hE, hF]; rw [if_neg (by omega), if_neg (by omega), if_pos h]; simp [g]
  have h2 : mag b = 9007199254740992 := by simp only [mag, hE]; rw [if_neg (by omega), if_pos h]
  refine ⟨h1, ?_⟩
  unfold wh; rw [if_pos h1, h2]
theorem whole_over {b E F : Int} (hE : b / 4503599627370496 % 2048 = E) (hF : b % 4503599627370496 = F) (h : E = 1076) (g : F ≠ 0) : whole b = false ∧ wh b = 0 := by
  have h1 : whole b = false := by simp only [whole, hE, hF]; rw [if_neg (by omega), if_neg (by omega), if_pos h]; simp [g]
  exact ⟨h1, wh_not h1⟩
end Go.Proofs.YtmhfpipeoojacaaGreat.D
/- Plain: values, which of two is ahead, cleaned, whether one may be; nothing of the program. -/
namespace Go.Proofs.YtmhfpipeoojacaaGreat.Z
set_option linter.unusedVariables false

/-- A value: its kind, its number, its text. -/
structure V where
  k : Int
  i : Int
  s : ByteArray
def V.v (x : V) : Value := .agg #[.int .i64 x.k, .int .i64 x.i, .string x.s]
def I64 (i : Int) : Prop := -9223372036854775808 ≤ i ∧ i < 9223372036854775808
def V.In (x : V) : Prop := I64 x.k ∧ I64 x.i
/-- Which of two numbers is ahead. -/
def ci (a b : Int) : Int := if a < b then -1 else if b < a then 1 else 0
/-- A number's bits, and back. -/
def u (i : Int) : Int := i % 18446744073709551616
def sg (b : Int) : Int := if 9223372036854775808 ≤ b then b - 18446744073709551616 else b
/-- Which of two texts is ahead. -/
def cs (s t : ByteArray) : Int := Lib.compareBytes s.data.toList t.data.toList
def cv (a b : V) : Int := if a.k = b.k then (if a.k = 1 then ci a.i b.i else if a.k = 2 then D.cp (u a.i) (u b.i) else if a.k = 3 then cs a.s b.s else 0) else ci a.k b.k
def cl (a : V) : V := if a.k = 2 then ⟨a.k, sg (D.cl (u a.i)), a.s⟩ else a
def may (a : V) : Bool := if a.k = 2 then decide (sg (D.cl (u a.i)) = a.i) && decide (a.s = ⟨#[]⟩) else if a.k = 1 then decide (a.s = ⟨#[]⟩) else if a.k = 3 then decide (a.i = 0) && decide (a.s.size ≤ 1024) else if a.k = 0 then decide (a.i = 0) && decide (a.s = ⟨#[]⟩) else false

theorem u_in (i : Int) : D.In64 (u i) := ⟨by unfold u; omega, by unfold u; omega⟩
theorem sg_u {i : Int} (h : I64 i) : sg (u i) = i := by
  unfold I64 at h; unfold sg u; split <;> omega
theorem u_sg {b : Int} (h : D.In64 b) : u (sg b) = b := by
  unfold D.In64 at h; unfold sg u; split <;> omega
theorem sg_in {b : Int} (h : D.In64 b) : I64 (sg b) := by
  unfold D.In64 at h; unfold sg I64; split <;> omega

theorem ci_cases (a b : Int) : (ci a b = -1 ∧ a < b) ∨ (ci a b = 0 ∧ a = b) ∨ (ci a b = 1 ∧ b < a) := by
  unfold ci
  by_cases h1 : a < b
  · left; exact ⟨by rw [if_pos h1], h1⟩
  · by_cases h2 : b < a
    · right; right; exact ⟨by rw [if_neg h1, if_pos h2], h2⟩
    · right; left; exact ⟨by rw [if_neg h1, if_neg h2], by omega⟩

/-- An order: what holds of three. -/
def Ord3 (xy yx yz xz : Int) : Prop := yx = -xy ∧ (0 < xy ∨ 0 < yz ∨ xz ≤ 0) ∧ (0 ≤ xy ∨ 0 ≤ yz ∨ xz < 0)
theorem ci_ord (a b c : Int) : Ord3 (ci a b) (ci b a) (ci b c) (ci a c) := by
  unfold Ord3
  rcases ci_cases a b with ⟨h1, g1⟩ | ⟨h1, g1⟩ | ⟨h1, g1⟩ <;> rcases ci_cases b a with ⟨h2, g2⟩ | ⟨h2, g2⟩ | ⟨h2, g2⟩ <;> rcases ci_cases b c with ⟨h3, g3⟩ | ⟨h3, g3⟩ | ⟨h3, g3⟩ <;> rcases ci_cases a c with ⟨h4, g4⟩ | ⟨h4, g4⟩ | ⟨h4, g4⟩ <;> omega
theorem cp_ci (a b : Int) : D.cp a b = ci (D.ky a) (D.ky b) := rfl

theorem u8_tri (a b : UInt8) (h1 : ¬ a < b) (h2 : ¬ b < a) : a = b := by
  rw [UInt8.lt_iff_toNat_lt] at h1 h2
  exact UInt8.toNat_inj.1 (by omega)
theorem cb_step (a b : UInt8) (x y : List UInt8) : Lib.compareBytes (a :: x) (b :: y) = if a.toNat < b.toNat then -1 else if b.toNat < a.toNat then 1 else Lib.compareBytes x y := by
  show (if a < b then _ else if b < a then _ else _) = _
  simp only [UInt8.lt_iff_toNat_lt]
theorem cb_cases (x : List UInt8) : ∀ y, Lib.compareBytes x y = -1 ∨ Lib.compareBytes x y = 0 ∨ Lib.compareBytes x y = 1 := by
  induction x with
  | nil => intro y; cases y with
    | nil => exact .inr (.inl rfl)
    | cons b y => exact .inl rfl
  | cons a x ih => intro y; cases y with
    | nil => exact .inr (.inr rfl)
    | cons b y =>
      rw [cb_step]
      split
      · exact .inl rfl
      · split
        · exact .inr (.inr rfl)
        · exact ih y
theorem cb_refl (x : List UInt8) : Lib.compareBytes x x = 0 := by
  induction x with
  | nil => rfl
  | cons a x ih => rw [cb_step, if_neg (by omega), if_neg (by omega), ih]
theorem cb_zero (x : List UInt8) : ∀ y, Lib.compareBytes x y = 0 → x = y := by
  induction x with
  | nil => intro y h; cases y with
    | nil => rfl
    | cons b y => exact absurd h (by show ¬ ((-1 : Int) = 0); omega)
  | cons a x ih => intro y h; cases y with
    | nil => exact absurd h (by show ¬ ((1 : Int) = 0); omega)
    | cons b y =>
      rw [cb_step] at h
      split at h
      · omega
      · split at h
        · omega
        · rename_i h1 h2
          rw [ih y h, UInt8.toNat_inj.1 (show a.toNat = b.toNat by omega)]
theorem cb_anti (x : List UInt8) : ∀ y, Lib.compareBytes y x = -Lib.compareBytes x y := by
  induction x with
  | nil => intro y; cases y <;> rfl
  | cons a x ih => intro y; cases y with
    | nil => rfl
    | cons b y =>
      rw [cb_step, cb_step]
      by_cases h1 : a.toNat < b.toNat
      · rw [if_neg (by omega), if_pos h1, if_pos h1]; rfl
      · by_cases h2 : b.toNat < a.toNat
        · rw [if_pos h2, if_neg h1, if_pos h2]
        · rw [if_neg h2, if_neg h1, if_neg h1, if_neg h2, ih y]
theorem cb_trans (x : List UInt8) : ∀ y z, (0 < Lib.compareBytes x y ∨ 0 < Lib.compareBytes y z ∨ Lib.compareBytes x z ≤ 0) ∧ (0 ≤ Lib.compareBytes x y ∨ 0 ≤ Lib.compareBytes y z ∨ Lib.compareBytes x z < 0) := by
  induction x with
  | nil => intro y z; cases y with
    | nil => cases z with
      | nil => decide
      | cons c z => exact ⟨.inr (.inr (by show (-1 : Int) ≤ 0; omega)), .inl (by show (0 : Int) ≤ 0; omega)⟩
    | cons b y => cases z with
      | nil => exact ⟨.inr (.inl (by show (0 : Int) < 1; omega)), .inr (.inl (by show (0 : Int) ≤ 1; omega))⟩
      | cons c z => exact ⟨.inr (.inr (by show (-1 : Int) ≤ 0; omega)), .inr (.inr (by show (-1 : Int) < 0; omega))⟩
  | cons a x ih => intro y z; cases y with
    | nil => exact ⟨.inl (by show (0 : Int) < 1; omega), .inl (by show (0 : Int) ≤ 1; omega)⟩
    | cons b y => cases z with
      | nil => exact ⟨.inr (.inl (by show (0 : Int) < 1; omega)), .inr (.inl (by show (0 : Int) ≤ 1; omega))⟩
      | cons c z =>
        have h := ih y z
        rw [cb_step, cb_step, cb_step]
        by_cases h1 : a.toNat < b.toNat <;> by_cases h2 : b.toNat < a.toNat <;> by_cases h3 : b.toNat < c.toNat <;> by_cases h4 : c.toNat < b.toNat <;> by_cases h5 : a.toNat < c.toNat <;> by_cases h6 : c.toNat < a.toNat <;> simp only [h1, h2, h3, h4, h5, h6, if_true, if_false] <;> first | exact h | omega
theorem cs_ord (a b c : ByteArray) : Ord3 (cs a b) (cs b a) (cs b c) (cs a c) := ⟨cb_anti _ _, (cb_trans _ _ _).1, (cb_trans _ _ _).2⟩
theorem ba_eq {a b : ByteArray} (h : a.data.toList = b.data.toList) : a = b := by
  obtain ⟨⟨x⟩⟩ := a; obtain ⟨⟨y⟩⟩ := b
  simp at h; rw [h]

theorem cv_refl (a : V) : cv a a = 0 := by
  have h1 : ci a.i a.i = 0 := by unfold ci; simp
  have h2 : D.cp (u a.i) (u a.i) = 0 := by unfold D.cp; simp
  have h3 : cs a.s a.s = 0 := cb_refl _
  unfold cv; rw [if_pos rfl, h1, h2, h3]; simp
theorem cv_ord (a b c : V) : Ord3 (cv a b) (cv b a) (cv b c) (cv a c) := by
  have hk := ci_ord a.k b.k c.k
  have hi := ci_ord a.i b.i c.i
  have hp := ci_ord (D.ky (u a.i)) (D.ky (u b.i)) (D.ky (u c.i))
  have hs := cs_ord a.s b.s c.s
  unfold cv
  by_cases h1 : a.k = b.k
  · by_cases h2 : b.k = c.k
    · rw [if_pos h1, if_pos h1.symm, if_pos h2, if_pos (h1.trans h2)]
      by_cases k1 : a.k = 1
      · have k1' : b.k = 1 := by omega
        simp only [if_pos k1, if_pos k1']; exact hi
      · have k1' : ¬ b.k = 1 := by omega
        by_cases k2 : a.k = 2
        · have k2' : b.k = 2 := by omega
          simp only [if_neg k1, if_neg k1', if_pos k2, if_pos k2']; exact hp
        · have k2' : ¬ b.k = 2 := by omega
          by_cases k3 : a.k = 3
          · have k3' : b.k = 3 := by omega
            simp only [if_neg k1, if_neg k1', if_neg k2, if_neg k2', if_pos k3, if_pos k3']; exact hs
          · have k3' : ¬ b.k = 3 := by omega
            simp only [if_neg k1, if_neg k1', if_neg k2, if_neg k2', if_neg k3, if_neg k3']; unfold Ord3; omega
    · have h3 : ¬ a.k = c.k := by omega
      rw [if_neg h2, if_neg h3]
      refine ⟨?_, ?_, ?_⟩
      · rw [if_pos h1, if_pos h1.symm]
        have h4 : b.k = a.k := h1.symm
        rw [h4]
        split
        · exact hi.1
        · split
          · exact hp.1
          · split
            · exact hs.1
            · rfl
      · rcases ci_cases b.k c.k with ⟨g1, g2⟩ | ⟨g1, g2⟩ | ⟨g1, g2⟩ <;> rcases ci_cases a.k c.k with ⟨g3, g4⟩ | ⟨g3, g4⟩ | ⟨g3, g4⟩ <;> omega
      · rcases ci_cases b.k c.k with ⟨g1, g2⟩ | ⟨g1, g2⟩ | ⟨g1, g2⟩ <;> rcases ci_cases a.k c.k with ⟨g3, g4⟩ | ⟨g3, g4⟩ | ⟨g3, g4⟩ <;> omega
  · rw [if_neg h1, if_neg (by omega : ¬ b.k = a.k)]
    refine ⟨hk.1, ?_, ?_⟩
    · by_cases h2 : b.k = c.k
      · rw [if_neg (by omega : ¬ a.k = c.k)]
        rcases ci_cases a.k b.k with ⟨g1, g2⟩ | ⟨g1, g2⟩ | ⟨g1, g2⟩ <;> rcases ci_cases a.k c.k with ⟨g3, g4⟩ | ⟨g3, g4⟩ | ⟨g3, g4⟩ <;> omega
      · rw [if_neg h2]
        by_cases h3 : a.k = c.k
        · rw [if_pos h3]
          rcases ci_cases a.k b.k with ⟨g1, g2⟩ | ⟨g1, g2⟩ | ⟨g1, g2⟩ <;> rcases ci_cases b.k c.k with ⟨g3, g4⟩ | ⟨g3, g4⟩ | ⟨g3, g4⟩ <;> omega
        · rw [if_neg h3]; exact hk.2.1
    · by_cases h2 : b.k = c.k
      · rw [if_neg (by omega : ¬ a.k = c.k)]
        rcases ci_cases a.k b.k with ⟨g1, g2⟩ | ⟨g1, g2⟩ | ⟨g1, g2⟩ <;> rcases ci_cases a.k c.k with ⟨g3, g4⟩ | ⟨g3, g4⟩ | ⟨g3, g4⟩ <;> omega
      · rw [if_neg h2]
        by_cases h3 : a.k = c.k
        · rw [if_pos h3]
          rcases ci_cases a.k b.k with ⟨g1, g2⟩ | ⟨g1, g2⟩ | ⟨g1, g2⟩ <;> rcases ci_cases b.k c.k with ⟨g3, g4⟩ | ⟨g3, g4⟩ | ⟨g3, g4⟩ <;> omega
        · rw [if_neg h3]; exact hk.2.2
theorem cv_range (a b : V) : cv a b = -1 ∨ cv a b = 0 ∨ cv a b = 1 := by
  have h1 := ci_cases a.k b.k
  have h2 := ci_cases a.i b.i
  have h3 := D.cp_cases (u a.i) (u b.i)
  have h4 := cb_cases a.s.data.toList b.s.data.toList
  unfold cv
  split
  · split
    · omega
    · split
      · omega
      · split
        · exact h4
        · omega
  · omega
theorem ky_clean {a b : Int} (ha : D.In64 a) (hb : D.In64 b) (h1 : D.cl a = a) (h2 : D.cl b = b) (h : D.ky a = D.ky b) : a = b := by
  rw [← h1, ← h2]; exact (D.ky_inj ha hb).1 h
/-- Of two that may be, and of which neither is ahead, both are the same. -/
theorem cv_may {a b : V} (ha : a.In) (hb : b.In) (ma : may a = true) (mb : may b = true) (h : cv a b = 0) : a = b := by
  obtain ⟨ak, ai, az⟩ := a
  obtain ⟨bk, bi, bs⟩ := b
  unfold cv at h
  simp only at h
  by_cases hk : ak = bk
  · subst hk
    rw [if_pos rfl] at h
    unfold may at ma mb
    simp only at ma mb
    by_cases k2 : ak = 2
    · rw [if_pos k2] at ma mb
      rw [if_neg (by omega), if_pos k2] at h
      simp only [Bool.and_eq_true, decide_eq_true_eq] at ma mb
      obtain ⟨m1, rfl⟩ := ma
      obtain ⟨m2, rfl⟩ := mb
      have hai := ha.2
      have hbi := hb.2
      simp only at hai hbi
      have hc := D.cp_cases (u ai) (u bi)
      have hky : D.ky (u ai) = D.ky (u bi) := by omega
      have e1 : D.cl (u ai) = u ai := by rw [← u_sg (D.cl_in (u_in ai)), m1]
      have e2 : D.cl (u bi) = u bi := by rw [← u_sg (D.cl_in (u_in bi)), m2]
      have e3 := ky_clean (u_in ai) (u_in bi) e1 e2 hky
      have e4 : ai = bi := by rw [← sg_u hai, ← sg_u hbi, e3]
      rw [e4]
    · rw [if_neg k2] at ma mb
      by_cases k1 : ak = 1
      · rw [if_pos k1] at ma mb h
        simp only [decide_eq_true_eq] at ma mb
        have hc := ci_cases ai bi
        rw [ma, mb, show ai = bi by omega]
      · rw [if_neg k1] at ma mb h
        rw [if_neg k2] at h
        by_cases k3 : ak = 3
        · rw [if_pos k3] at ma mb h
          simp only [Bool.and_eq_true, decide_eq_true_eq] at ma mb
          rw [ma.1, mb.1, ba_eq (cb_zero _ _ h)]
        · rw [if_neg k3] at ma mb h
          by_cases k0 : ak = 0
          · rw [if_pos k0] at ma mb
            simp only [Bool.and_eq_true, decide_eq_true_eq] at ma mb
            rw [ma.1, ma.2, mb.1, mb.2]
          · rw [if_neg k0] at ma; exact absurd ma (by simp)
  · rw [if_neg hk] at h
    have := ci_cases ak bk
    omega
end Go.Proofs.YtmhfpipeoojacaaGreat.Z

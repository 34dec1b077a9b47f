/- Plain: a float64's bits cleaned, its key, and back; which is ahead; which whole number it is. Nothing of the program. -/
import Derived.WalkKit
import Derived.Laws.BitsAllLaws
import Derived.Lib.Bytealg
import Derived.Test.YtkcpfgjkplailaaBdA
import Derived.Test.YtkcpfgjkplailaaBdD
namespace Go.Proofs.Ytkcpfgjkplailaa.D
set_option linter.unusedVariables false

/-- A NaN's bits. -/
def isN (b : Int) : Bool := (b / 4503599627370496 % 2048 == 2047) && (b % 4503599627370496 != 0)
def cl (b : Int) : Int := if isN b then 9221120237041090560 else b
def ky (b : Int) : Int := if 9223372036854775808 ≤ cl b then 18446744073709551615 - cl b else cl b + 9223372036854775808
def bt (k : Int) : Int := cl (if 9223372036854775808 ≤ k then k - 9223372036854775808 else 18446744073709551615 - k)
def cp (a b : Int) : Int := if ky a < ky b then -1 else if ky b < ky a then 1 else 0
def In64 (b : Int) : Prop := 0 ≤ b ∧ b < 18446744073709551616

theorem isN_iff (b : Int) : isN b = true ↔ b / 4503599627370496 % 2048 = 2047 ∧ b % 4503599627370496 ≠ 0 := by
  simp [isN]
theorem isN_nan : isN 9221120237041090560 = true := by decide
theorem cl_nan {b : Int} (h : isN b = true) : cl b = 9221120237041090560 := by unfold cl; rw [if_pos h]
theorem cl_num {b : Int} (h : isN b = false) : cl b = b := by unfold cl; rw [if_neg (by simp [h])]
theorem cl_in {b : Int} (h : In64 b) : In64 (cl b) := by
  unfold cl; split
  · exact ⟨by omega, by omega⟩
  · exact h
theorem cl_cl (b : Int) : cl (cl b) = cl b := by
  cases h : isN b with
  | true => rw [cl_nan h, cl_nan isN_nan]
  | false => rw [cl_num h, cl_num h]
theorem ky_in {b : Int} (h : In64 b) : In64 (ky b) := by
  have h1 := cl_in h
  unfold In64 at h1
  unfold ky In64; split <;> omega
theorem bt_in {k : Int} (h : In64 k) : In64 (bt k) := by
  apply cl_in
  unfold In64 at h ⊢; split <;> omega
/-- There and back. -/
theorem bt_ky {b : Int} (h : In64 b) : bt (ky b) = cl b := by
  have h1 := cl_in h
  unfold In64 at h1
  unfold bt ky
  by_cases hc : 9223372036854775808 ≤ cl b
  · rw [if_pos hc, if_neg (by omega), show 18446744073709551615 - (18446744073709551615 - cl b) = cl b by omega, cl_cl]
  · rw [if_neg hc, if_pos (by omega), show cl b + 9223372036854775808 - 9223372036854775808 = cl b by omega, cl_cl]
theorem ky_inj {a b : Int} (ha : In64 a) (hb : In64 b) : ky a = ky b ↔ cl a = cl b := by
  constructor
  · intro h; rw [← bt_ky ha, h, bt_ky hb]
  · intro h; unfold ky; rw [h]
theorem cp_cases (a b : Int) : (cp a b = -1 ∧ ky a < ky b) ∨ (cp a b = 0 ∧ ky a = ky b) ∨ (cp a b = 1 ∧ ky b < ky a) := by
  unfold cp
  by_cases h1 : ky a < ky b
  · left; exact ⟨by rw [if_pos h1], h1⟩
  · by_cases h2 : ky b < ky a
    · right; right; exact ⟨by rw [if_neg h1, if_pos h2], h2⟩
    · right; left; exact ⟨by rw [if_neg h1, if_neg h2], by omega⟩

/-- The whole number: whether, and which. -/
def whole (b : Int) : Bool := let e := b / 4503599627370496 % 2048; let f := b % 4503599627370496
  if e = 0 ∧ f = 0 then true else if e < 1023 ∨ 1076 < e then false else if e = 1076 then decide (f = 0) else (4503599627370496 + f) % 2 ^ (1075 - e).toNat == 0
def mag (b : Int) : Int := let e := b / 4503599627370496 % 2048; let f := b % 4503599627370496
  if e = 0 then 0 else if e = 1076 then 9007199254740992 else (4503599627370496 + f) / 2 ^ (1075 - e).toNat
def wh (b : Int) : Int := if whole b then (if 9223372036854775808 ≤ b then -(mag b) else mag b) else 0

/-- Halved k times, while even. -/
def wl : Nat → Int → Option Int
  | 0, n => some n
  | k + 1, n => if n % 2 = 0 then wl k (n / 2) else none
theorem wl_is (k : Nat) : ∀ n : Int, wl k n = if n % 2 ^ k = 0 then some (n / 2 ^ k) else none := by
  induction k with
  | zero => intro n; simp [wl, Int.emod_one]
  | succ k ih =>
    intro n
    have hp : (2 : Int) ^ (k + 1) = 2 * 2 ^ k := by rw [Int.pow_succ]; omega
    unfold wl
    by_cases h : n % 2 = 0
    · rw [if_pos h, ih, hp]
      obtain ⟨m, rfl⟩ : ∃ m, n = 2 * m := ⟨n / 2, by omega⟩
      have e1 : 2 * m / 2 = m := by omega
      rw [e1, Int.mul_emod_mul_of_pos _ _ (by omega : (0 : Int) < 2), Int.mul_ediv_mul_of_pos _ _ (by omega : (0 : Int) < 2)]
      by_cases h2 : m % 2 ^ k = 0
      · rw [if_pos h2, if_pos (by omega)]
      · rw [if_neg h2, if_neg (by omega)]
    · rw [if_neg h, if_neg]
      intro h3
      have h4 : (2 : Int) ∣ n := by
        have h5 : (2 : Int) ^ (k + 1) ∣ n := Int.dvd_of_emod_eq_zero h3
        exact Int.dvd_trans ⟨2 ^ k, hp⟩ h5
      omega
theorem whole_zero {b E F : Int} (hE : b / 4503599627370496 % 2048 = E) (hF : b % 4503599627370496 = F) (h : E = 0) (g : F = 0) : whole b = true ∧ wh b = 0 := by
  have h1 : whole b = true := by simp only [whole, hE, hF]; rw [if_pos ⟨h, g⟩]
  refine ⟨h1, ?_⟩
  have h2 : mag b = 0 := by simp only [mag, hE, hF]; rw [if_pos h]
  unfold wh; rw [if_pos h1, h2]; simp
theorem wh_not {b : Int} (h : whole b = false) : wh b = 0 := by unfold wh; rw [if_neg (by simp [h])]
theorem whole_out {b E F : Int} (hE : b / 4503599627370496 % 2048 = E) (hF : b % 4503599627370496 = F) (h : ¬ (E = 0 ∧ F = 0)) (g : E < 1023 ∨ 1076 < E) : whole b = false ∧ wh b = 0 := by
  have h1 : whole b = false := by simp only [whole, hE, hF]; rw [if_neg h, if_pos g]
  exact ⟨h1, wh_not h1⟩
theorem whole_some {b E F m : Int} (hE : b / 4503599627370496 % 2048 = E) (hF : b % 4503599627370496 = F) (h : 1023 ≤ E) (g : E ≤ 1075) (hw : wl (1075 - E).toNat (4503599627370496 + F) = some m) :
    whole b = true ∧ wh b = if 9223372036854775808 ≤ b then -m else m := by
  rw [wl_is] at hw
  split at hw
  · rename_i hz
    injection hw with hw
    have h1 : whole b = true := by
      simp only [whole, hE, hF]; rw [if_neg (by omega), if_neg (by omega), if_neg (by omega), hz]; rfl
    have h2 : mag b = m := by simp only [mag, hE, hF]; rw [if_neg (by omega), if_neg (by omega), hw]
    refine ⟨h1, ?_⟩
    unfold wh; rw [if_pos h1, h2]
  · exact absurd hw (by simp)
theorem whole_none {b E F : Int} (hE : b / 4503599627370496 % 2048 = E) (hF : b % 4503599627370496 = F) (h : 1023 ≤ E) (g : E ≤ 1075) (hw : wl (1075 - E).toNat (4503599627370496 + F) = none) :
    whole b = false ∧ wh b = 0 := by
  rw [wl_is] at hw
  split at hw
  · exact absurd hw (by simp)
  · rename_i hz
    have h1 : whole b = false := by
      simp only [whole, hE, hF]; rw [if_neg (by omega), if_neg (by omega), if_neg (by omega)]
      simpa using hz
    exact ⟨h1, wh_not h1⟩
theorem whole_top {b E F : Int} (hE : b / 4503599627370496 % 2048 = E) (hF : b % 4503599627370496 = F) (h : E = 1076) (g : F = 0) : whole b = true ∧ wh b = if 9223372036854775808 ≤ b then -9007199254740992 else 9007199254740992 := by
  have h1 : whole b = true := by simp only [whole, hE, hF]; rw [if_neg (by omega), if_neg (by omega), if_pos h]; simp [g]
  have h2 : mag b = 9007199254740992 := by simp only [mag, hE]; rw [if_neg (by omega), if_pos h]
  refine ⟨h1, ?_⟩
  unfold wh; rw [if_pos h1, h2]
theorem whole_over {b E F : Int} (hE : b / 4503599627370496 % 2048 = E) (hF : b % 4503599627370496 = F) (h : E = 1076) (g : F ≠ 0) : whole b = false ∧ wh b = 0 := by
  have h1 : whole b = false := by simp only [whole, hE, hF]; rw [if_neg (by omega), if_neg (by omega), if_pos h]; simp [g]
  exact ⟨h1, wh_not h1⟩
end Go.Proofs.Ytkcpfgjkplailaa.D
/- Plain: bit work on words of 64 bits in the walk's spelling: the highest bit alone, all others, set, all turned. Nothing of the program. -/
namespace Go.Proofs.Ytkcpfgjkplailaa.D
set_option linter.unusedVariables false

theorem and_top {b : Int} (h : In64 b) : bits .and .u64 b 9223372036854775808 = if 9223372036854775808 ≤ b then 9223372036854775808 else 0 := by
  obtain ⟨h0, h1⟩ := h
  rw [u64_and b 9223372036854775808 h0 h1 (by omega) (by omega)]
  obtain ⟨x, rfl⟩ := Int.eq_ofNat_of_zero_le h0
  have e : (x &&& 9223372036854775808 : Nat) = if 9223372036854775808 ≤ x then 9223372036854775808 else 0 := by
    apply Nat.eq_of_testBit_eq
    intro i
    have e63 : (9223372036854775808 : Nat) = 2 ^ 63 := by decide
    rw [Nat.testBit_and]
    by_cases hi : i = 63
    · subst hi
      have ht : x.testBit 63 = decide (9223372036854775808 ≤ x) := by
        rw [Nat.testBit_eq_decide_div_mod_eq]
        congr 1
        rw [show (2 : Nat) ^ 63 = 9223372036854775808 by decide]
        apply propext; omega
      rw [ht]
      by_cases hx : 9223372036854775808 ≤ x
      · rw [if_pos hx]; simp [hx]
      · rw [if_neg hx]; simp [hx]
    · have h63 : ¬ 63 = i := fun h => hi h.symm
      by_cases hx : 9223372036854775808 ≤ x
      · rw [if_pos hx, e63, Nat.testBit_two_pow]; simp [h63]
      · rw [if_neg hx, e63, Nat.testBit_two_pow]; simp [h63]
  show ((x &&& 9223372036854775808 : Nat) : Int) = _
  rw [e]
  split <;> split <;> omega
theorem andNot_top {b : Int} (h : In64 b) : bits .andNot .u64 b 9223372036854775808 = b % 9223372036854775808 := by
  obtain ⟨h0, h1⟩ := h
  rw [u64_andNot b 9223372036854775808 h0 h1 (by omega) (by omega)]
  obtain ⟨x, rfl⟩ := Int.eq_ofNat_of_zero_le h0
  show ((x &&& 9223372036854775807 : Nat) : Int) = _
  have e : x &&& 9223372036854775807 = x % 9223372036854775808 := Nat.and_two_pow_sub_one_eq_mod x 63
  rw [e]; omega
theorem or_top {b : Int} (h0 : 0 ≤ b) (h1 : b < 9223372036854775808) : bits .or .u64 b 9223372036854775808 = b + 9223372036854775808 := by
  rw [u64_or b 9223372036854775808 h0 (by omega) (by omega) (by omega)]
  obtain ⟨x, rfl⟩ := Int.eq_ofNat_of_zero_le h0
  show ((x ||| 9223372036854775808 : Nat) : Int) = _
  have e : 9223372036854775808 + x = 9223372036854775808 ||| x := Nat.two_pow_add_eq_or_of_lt (i := 63) (by omega) 1
  rw [Nat.or_comm, ← e]; omega
theorem turn_all {b : Int} (h : In64 b) : bits .xor .u64 IntKind.u64.max b = 18446744073709551615 - b := by
  obtain ⟨h0, h1⟩ := h
  rw [show IntKind.u64.max = 18446744073709551615 from rfl, u64_xor 18446744073709551615 b (by omega) (by omega) h0 h1]
  obtain ⟨x, rfl⟩ := Int.eq_ofNat_of_zero_le h0
  show ((18446744073709551615 ^^^ x : Nat) : Int) = _
  have e : 18446744073709551615 ^^^ x = 18446744073709551615 - x := by
    apply Nat.eq_of_testBit_eq
    intro i
    have e1 : 18446744073709551615 - x = 2 ^ 64 - (x + 1) := by omega
    have e2 : (18446744073709551615 : Nat) = 2 ^ 64 - 1 := by decide
    rw [e1, Nat.testBit_two_pow_sub_succ (by omega), Nat.testBit_xor, e2, Nat.testBit_two_pow_sub_one]
    by_cases hi : i < 64
    · simp [hi]
    · have hx : x.testBit i = false := Nat.testBit_lt_two_pow (Nat.lt_of_lt_of_le (show x < 2 ^ 64 by omega) (Nat.pow_le_pow_right (by omega) (by omega)))
      simp [hi, hx]
  rw [e]; omega
/-- Beyond infinity, whichever the sign. -/
theorem isN_over {b : Int} (h : In64 b) : decide (9218868437227405312 < b % 9223372036854775808) = isN b := by
  obtain ⟨h0, h1⟩ := h
  have := isN_iff b
  cases hb : isN b with
  | true => rw [hb] at this; have := this.1 rfl; simp; omega
  | false =>
    rw [hb] at this
    have h2 : ¬ (b / 4503599627370496 % 2048 = 2047 ∧ b % 4503599627370496 ≠ 0) := fun h => by simpa using this.2 h
    simp; omega
end Go.Proofs.Ytkcpfgjkplailaa.D
/- Plain: values, which of two is ahead, cleaned, whether one may be; nothing of the program. -/
namespace Go.Proofs.Ytkcpfgjkplailaa.Z
set_option linter.unusedVariables false

/-- A value: its kind, its number, its text. -/
structure V where
  k : Int
  i : Int
  s : ByteArray
def V.v (x : V) : Value := .agg #[.int .i64 x.k, .int .i64 x.i, .string x.s]
def I64 (i : Int) : Prop := -9223372036854775808 ≤ i ∧ i < 9223372036854775808
def V.In (x : V) : Prop := I64 x.k ∧ I64 x.i
/-- Which of two numbers is ahead. -/
def ci (a b : Int) : Int := if a < b then -1 else if b < a then 1 else 0
/-- A number's bits, and back. -/
def u (i : Int) : Int := i % 18446744073709551616
def sg (b : Int) : Int := if 9223372036854775808 ≤ b then b - 18446744073709551616 else b
/-- Which of two texts is ahead. -/
def cs (s t : ByteArray) : Int := Lib.compareBytes s.data.toList t.data.toList
def cv (a b : V) : Int := if a.k = b.k then (if a.k = 1 then ci a.i b.i else if a.k = 2 then D.cp (u a.i) (u b.i) else if a.k = 3 then cs a.s b.s else 0) else ci a.k b.k
def cl (a : V) : V := if a.k = 2 then ⟨a.k, sg (D.cl (u a.i)), a.s⟩ else a
def may (a : V) : Bool := if a.k = 2 then decide (sg (D.cl (u a.i)) = a.i) && decide (a.s = ⟨#[]⟩) else if a.k = 1 then decide (a.s = ⟨#[]⟩) else if a.k = 3 then decide (a.i = 0) && decide (a.s.size ≤ 1024) else if a.k = 0 then decide (a.i = 0) && decide (a.s = ⟨#[]⟩) else false

theorem u_in (i : Int) : D.In64 (u i) := ⟨by unfold u; omega, by unfold u; omega⟩
theorem sg_u {i : Int} (h : I64 i) : sg (u i) = i := by
  unfold I64 at h; unfold sg u; split <;> omega
theorem u_sg {b : Int} (h : D.In64 b) : u (sg b) = b := by
  unfold D.In64 at h; unfold sg u; split <;> omega
theorem sg_in {b : Int} (h : D.In64 b) : I64 (sg b) := by
  unfold D.In64 at h; unfold sg I64; split <;> omega

theorem ci_cases (a b : Int) : (ci a b = -1 ∧ a < b) ∨ (ci a b = 0 ∧ a = b) ∨ (ci a b = 1 ∧ b < a) := by
  unfold ci
  by_cases h1 : a < b
  · left; exact ⟨by rw [if_pos h1], h1⟩
  · by_cases h2 : b < a
    · right; right; exact ⟨by rw [if_neg h1, if_pos h2], h2⟩
    · right; left; exact ⟨by rw [if_neg h1, if_neg h2], by omega⟩

/-- An order: what holds of three. -/
def Ord3 (xy yx yz xz : Int) : Prop := yx = -xy ∧ (0 < xy ∨ 0 < yz ∨ xz ≤ 0) ∧ (0 ≤ xy ∨ 0 ≤ yz ∨ xz < 0)
theorem ci_ord (a b c : Int) : Ord3 (ci a b) (ci b a) (ci b c) (ci a c) := by
  unfold Ord3
  rcases ci_cases a b with ⟨h1, g1⟩ | ⟨h1, g1⟩ | ⟨h1, g1⟩ <;> rcases ci_cases b a with ⟨h2, g2⟩ | ⟨h2, g2⟩ | ⟨h2, g2⟩ <;> rcases ci_cases b c with ⟨h3, g3⟩ | ⟨h3, g3⟩ | ⟨h3, g3⟩ <;> rcases ci_cases a c with ⟨h4, g4⟩ | ⟨h4, g4⟩ | ⟨h4, g4⟩ <;> omega
theorem cp_ci (a b : Int) : D.cp a b = ci (D.ky a) (D.ky b) := rfl

theorem u8_tri (a b : UInt8) (h1 : ¬ a < b) (h2 : ¬ b < a) : a = b := by
  rw [UInt8.lt_iff_toNat_lt] at h1 h2
  exact UInt8.toNat_inj.1 (by omega)
theorem cb_step (a b : UInt8) (x y : List UInt8) : Lib.compareBytes (a :: x) (b :: y) = if a.toNat < b.toNat then -1 else if b.toNat < a.toNat then 1 else Lib.compareBytes x y := by
  show (if a < b then _ else if b < a then _ else _) = _
  simp only [UInt8.lt_iff_toNat_lt]
theorem cb_cases (x : List UInt8) : ∀ y, Lib.compareBytes x y = -1 ∨ Lib.compareBytes x y = 0 ∨ Lib.compareBytes x y = 1 := by
  induction x with
  | nil => intro y; cases y with
    | nil => exact .inr (.inl rfl)
    | cons b y => exact .inl rfl
  | cons a x ih => intro y; cases y with
    | nil => exact .inr (.inr rfl)
    | cons b y =>
      rw [cb_step]
      split
      · exact .inl rfl
      · split
        · exact .inr (.inr rfl)
        · exact ih y
theorem cb_refl (x : List UInt8) : Lib.compareBytes x x = 0 := by
  induction x with
  | nil => rfl
  | cons a x ih => rw [cb_step, if_neg (by omega), if_neg (by omega), ih]
theorem cb_zero (x : List UInt8) : ∀ y, Lib.compareBytes x y = 0 → x = y := by
  induction x with
  | nil => intro y h; cases y with
    | nil => rfl
    | cons b y => exact absurd h (by show ¬ ((-1 : Int) = 0); omega)
  | cons a x ih => intro y h; cases y with
    | nil => exact absurd h (by show ¬ ((1 : Int) = 0); omega)
    | cons b y =>
      rw [cb_step] at h
      split at h
      · omega
      · split at h
        · omega
        · rename_i h1 h2
          rw [ih y h, UInt8.toNat_inj.1 (show a.toNat = b.toNat by omega)]
theorem cb_anti (x : List UInt8) : ∀ y, Lib.compareBytes y x = -Lib.compareBytes x y := by
  induction x with
  | nil => intro y; cases y <;> rfl
  | cons a x ih => intro y; cases y with
    | nil => rfl
    | cons b y =>
      rw [cb_step, cb_step]
      by_cases h1 : a.toNat < b.toNat
      · rw [if_neg (by omega), if_pos h1, if_pos h1]; rfl
      · by_cases h2 : b.toNat < a.toNat
        · rw [if_pos h2, if_neg h1, if_pos h2]
        · rw [if_neg h2, if_neg h1, if_neg h1, if_neg h2, ih y]
theorem cb_trans (x : List UInt8) : ∀ y z, (0 < Lib.compareBytes x y ∨ 0 < Lib.compareBytes y z ∨ Lib.compareBytes x z ≤ 0) ∧ (0 ≤ Lib.compareBytes x y ∨ 0 ≤ Lib.compareBytes y z ∨ Lib.compareBytes x z < 0) := by
  induction x with
  | nil => intro y z; cases y with
    | nil => cases z with
      | nil => decide
      | cons c z => exact ⟨.inr (.inr (by show (-1 : Int) ≤ 0; omega)), .inl (by show (0 : Int) ≤ 0; omega)⟩
    | cons b y => cases z with
      | nil => exact ⟨.inr (.inl (by show (0 : Int) < 1; omega)), .inr (.inl (by show (0 : Int) ≤ 1; omega))⟩
      | cons c z => exact ⟨.inr (.inr (by show (-1 : Int) ≤ 0; omega)), .inr (.inr (by show (-1 : Int) < 0; omega))⟩
  | cons a x ih => intro y z; cases y with
    | nil => exact ⟨.inl (by show (0 : Int) < 1; omega), .inl (by show (0 : Int) ≤ 1; omega)⟩
    | cons b y => cases z with
      | nil => exact ⟨.inr (.inl (by show (0 : Int) < 1; omega)), .inr (.inl (by show (0 : Int) ≤ 1; omega))⟩
      | cons c z =>
        have h := ih y z
        rw [cb_step, cb_step, cb_step]
        by_cases h1 : a.toNat < b.toNat <;> by_cases h2 : b.toNat < a.toNat <;> by_cases h3 : b.toNat < c.toNat <;> by_cases h4 : c.toNat < b.toNat <;> by_cases h5 : a.toNat < c.toNat <;> by_cases h6 : c.toNat < a.toNat <;> simp only [h1, h2, h3, h4, h5, h6, if_true, if_false] <;> first | exact h | omega
theorem cs_ord (a b c : ByteArray) : Ord3 (cs a b) (cs b a) (cs b c) (cs a c) := ⟨cb_anti _ _, (cb_trans _ _ _).1, (cb_trans _ _ _).2⟩
theorem ba_eq {a b : ByteArray} (h : a.data.toList = b.data.toList) : a = b := by
  obtain ⟨⟨x⟩⟩ := a; obtain ⟨⟨y⟩⟩ := b
  simp at h; rw [h]

theorem cv_refl (a : V) : cv a a = 0 := by
  have h1 : ci a.i a.i = 0 := by unfold ci; simp
  have h2 : D.cp (u a.i) (u a.i) = 0 := by unfold D.cp; simp
  have h3 : cs a.s a.s = 0 := cb_refl _
  unfold cv; rw [if_pos rfl, h1, h2, h3]; simp
theorem cv_ord (a b c : V) : Ord3 (cv a b) (cv b a) (cv b c) (cv a c) := by
  have hk := ci_ord a.k b.k c.k
  have hi := ci_ord a.i b.i c.i
  have hp := ci_ord (D.ky (u a.i)) (D.ky (u b.i)) (D.ky (u c.i))
  have hs := cs_ord a.s b.s c.s
  unfold cv
  by_cases h1 : a.k = b.k
  · by_cases h2 : b.k = c.k
    · rw [if_pos h1, if_pos h1.symm, if_pos h2, if_pos (h1.trans h2)]
      by_cases k1 : a.k = 1
      · have k1' : b.k = 1 := by omega
        simp only [if_pos k1, if_pos k1']; exact hi
      · have k1' : ¬ b.k = 1 := by omega
        by_cases k2 : a.k = 2
        · have k2' : b.k = 2 := by omega
          simp only [if_neg k1, if_neg k1', if_pos k2, if_pos k2']; exact hp
        · have k2' : ¬ b.k = 2 := by omega
          by_cases k3 : a.k = 3
          · have k3' : b.k = 3 := by omega
            simp only [if_neg k1, if_neg k1', if_neg k2, if_neg k2', if_pos k3, if_pos k3']; exact hs
          · have k3' : ¬ b.k = 3 := by omega
            simp only [if_neg k1, if_neg k1', if_neg k2, if_neg k2', if_neg k3, if_neg k3']; unfold Ord3; omega
    · have h3 : ¬ a.k = c.k := by omega
      rw [if_neg h2, if_neg h3]
      refine ⟨?_, ?_, ?_⟩
      · rw [if_pos h1, if_pos h1.symm]
        have h4 : b.k = a.k := h1.symm
        rw [h4]
        split
        · exact hi.1
        · split
          · exact hp.1
          · split
            · exact hs.1
            · rfl
      · rcases ci_cases b.k c.k with ⟨g1, g2⟩ | ⟨g1, g2⟩ | ⟨g1, g2⟩ <;> rcases ci_cases a.k c.k with ⟨g3, g4⟩ | ⟨g3, g4⟩ | ⟨g3, g4⟩ <;> omega
      · rcases ci_cases b.k c.k with ⟨g1, g2⟩ | ⟨g1, g2⟩ | ⟨g1, g2⟩ <;> rcases ci_cases a.k c.k with ⟨g3, g4⟩ | ⟨g3, g4⟩ | ⟨g3, g4⟩ <;> omega
  · rw [if_neg h1, if_neg (by omega : ¬ b.k = a.k)]
    refine ⟨hk.1, ?_, ?_⟩
    · by_cases h2 : b.k = c.k
      · rw [if_neg (by omega : ¬ a.k = c.k)]
        rcases ci_cases a.k b.k with ⟨g1, g2⟩ | ⟨g1, g2⟩ | ⟨g1, g2⟩ <;> rcases ci_cases a.k c.k with ⟨g3, g4⟩ | ⟨g3, g4⟩ | ⟨g3, g4⟩ <;> omega
      · rw [if_neg h2]
        by_cases h3 : a.k = c.k
        · rw [if_pos h3]
          rcases ci_cases a.k b.k with ⟨g1, g2⟩ | ⟨g1, g2⟩ | ⟨g1, g2⟩ <;> rcases ci_cases b.k c.k with ⟨g3, g4⟩ | ⟨g3, g4⟩ | ⟨g3, g4⟩ <;> omega
        · rw [if_neg h3]; exact hk.2.1
    · by_cases h2 : b.k = c.k
      · rw [if_neg (by omega : ¬ a.k = c.k)]
        rcases ci_cases a.k b.k with ⟨g1, g2⟩ | ⟨g1, g2⟩ | ⟨g1, g2⟩ <;> rcases ci_cases a.k c.k with ⟨g3, g4⟩ | ⟨g3, g4⟩ | ⟨g3, g4⟩ <;> omega
      · rw [if_neg h2]
        by_cases h3 : a.k = c.k
        · rw [if_pos h3]
          rcases ci_cases a.k b.k with ⟨g1, g2⟩ | ⟨g1, g2⟩ | ⟨g1, g2⟩ <;> rcases ci_cases b.k c.k with ⟨g3, g4⟩ | ⟨g3, g4⟩ | ⟨g3, g4⟩ <;> omega
        · rw [if_neg h3]; exact hk.2.2
theorem cv_range (a b : V) : cv a b = -1 ∨ cv a b = 0 ∨ cv a b = 1 := by
  have h1 := ci_cases a.k b.k
  have h2 := ci_cases a.i b.i
  have h3 := D.cp_cases (u a.i) (u b.i)
  have h4 := cb_cases a.s.data.toList b.s.data.toList
  unfold cv
  split
  · split
    · omega
    · split
      · omega
      · split
        · exact h4
        · omega
  · omega
theorem ky_clean {a b : Int} (ha : D.In64 a) (hb : D.In64 b) (h1 : D.cl a = a) (h2 : D.cl b = b) (h : D.ky a = D.ky b) : a = b := by
  rw [← h1, ← h2]; exact (D.ky_inj ha hb).1 h
/-- Of two that may be, and of which neither is ahead, both are the same. -/
theorem cv_may {a b : V} (ha : a.In) (hb : b.In) (ma : may a = true) (mb : may b = true) (h : cv a b = 0) : a = b := by
  obtain ⟨ak, ai, az⟩ := a
  obtain ⟨bk, bi, bs⟩ := b
  unfold cv at h
  simp only at h
  by_cases hk : ak = bk
  · subst hk
    rw [if_pos rfl] at h
    unfold may at ma mb
    simp only at ma mb
    by_cases k2 : ak = 2
    · rw [if_pos k2] at ma mb
      rw [if_neg (by omega), if_pos k2] at h
      simp only [Bool.and_eq_true, decide_eq_true_eq] at ma mb
      obtain ⟨m1, rfl⟩ := ma
      obtain ⟨m2, rfl⟩ := mb
      have hai := ha.2
      have hbi := hb.2
      simp only at hai hbi
      have hc := D.cp_cases (u ai) (u bi)
      have hky : D.ky (u ai) = D.ky (u bi) := by omega
      have e1 : D.cl (u ai) = u ai := by rw [← u_sg (D.cl_in (u_in ai)), m1]
      have e2 : D.cl (u bi) = u bi := by rw [← u_sg (D.cl_in (u_in bi)), m2]
      have e3 := ky_clean (u_in ai) (u_in bi) e1 e2 hky
      have e4 : ai = bi := by rw [← sg_u hai, ← sg_u hbi, e3]
      rw [e4]
    · rw [if_neg k2] at ma mb
      by_cases k1 : ak = 1
      · rw [if_pos k1] at ma mb h
        simp only [decide_eq_true_eq] at ma mb
        have hc := ci_cases ai bi
        rw [ma, mb, show ai = bi by omega]
      · rw [if_neg k1] at ma mb h
        rw [if_neg k2] at h
        by_cases k3 : ak = 3
        · rw [if_pos k3] at ma mb h
          simp only [Bool.and_eq_true, decide_eq_true_eq] at ma mb
          rw [ma.1, mb.1, ba_eq (cb_zero _ _ h)]
        · rw [if_neg k3] at ma mb h
          by_cases k0 : ak = 0
          · rw [if_pos k0] at ma mb
            simp only [Bool.and_eq_true, decide_eq_true_eq] at ma mb
            rw [ma.1, ma.2, mb.1, mb.2]
          · rw [if_neg k0] at ma; exact absurd ma (by simp)
  · rw [if_neg hk] at h
    have := ci_cases ak bk
    omega
end Go.Proofs.Ytkcpfgjkplailaa.Z
/- The contracts of cmp.Compare, strings.Compare at the types that val asks them at; of val's Clean, Compare, May, Add. -/
namespace Go.Proofs.Ytkcpfgjkplailaa
set_option linter.unusedVariables false
open Go.RowKit

theorem nani_any (x : Int) (w : World) : Calls Try.prog 84 #[.int .i64 x] w fun e w' => e = .returned (.bool false) ∧ w' = w := by
  go_enter Try.func84, Try.ntmps84
  go_wp2
  go_ret
  exact ⟨by simp, rfl⟩
theorem nanl_any (x : Int) (w : World) : Calls Try.prog 85 #[.int .i64 x] w fun e w' => e = .returned (.bool false) ∧ w' = w := by
  go_enter Try.func85, Try.ntmps85
  go_wp2
  go_ret
  exact ⟨by simp, rfl⟩
theorem cmpi_any (x y : Int) (w : World) : Calls Try.prog 75 #[.int .i64 x, .int .i64 y] w fun e w' => e = .returned (.int .i64 (Z.ci x y)) ∧ w' = w := by
  have HC : Hid (Z.ci x y = if x < y then -1 else if y < x then 1 else 0) := by show _ = _; rfl
  go_enter Try.func75, Try.ntmps75
  go_wp2_with fail
  refine (nani_any x w).mono ?_
  rintro e w1 ⟨rfl, rfl⟩
  go_wp2_with fail
  refine (nani_any y w1).mono ?_
  rintro e w2 ⟨rfl, rfl⟩
  by_cases hl : x < y
  · go_wp2
    go_ret
    exact ⟨by rw [HC.out, if_pos hl]; rfl, rfl⟩
  · by_cases hg : y < x
    · go_wp2
      go_ret
      exact ⟨by rw [HC.out, if_neg (by omega), if_pos hg]; rfl, rfl⟩
    · go_wp2
      go_ret
      exact ⟨by rw [HC.out, if_neg (by omega), if_neg (by omega)]; rfl, rfl⟩
theorem cmpl_any (x y : Int) (w : World) : Calls Try.prog 76 #[.int .i64 x, .int .i64 y] w fun e w' => e = .returned (.int .i64 (Z.ci x y)) ∧ w' = w := by
  have HC : Hid (Z.ci x y = if x < y then -1 else if y < x then 1 else 0) := by show _ = _; rfl
  go_enter Try.func76, Try.ntmps76
  go_wp2_with fail
  refine (nanl_any x w).mono ?_
  rintro e w1 ⟨rfl, rfl⟩
  go_wp2_with fail
  refine (nanl_any y w1).mono ?_
  rintro e w2 ⟨rfl, rfl⟩
  by_cases hl : x < y
  · go_wp2
    go_ret
    exact ⟨by rw [HC.out, if_pos hl]; rfl, rfl⟩
  · by_cases hg : y < x
    · go_wp2
      go_ret
      exact ⟨by rw [HC.out, if_neg (by omega), if_pos hg]; rfl, rfl⟩
    · go_wp2
      go_ret
      exact ⟨by rw [HC.out, if_neg (by omega), if_neg (by omega)]; rfl, rfl⟩
end Go.Proofs.Ytkcpfgjkplailaa
/- The contracts of flt's isNaN, Clean, Key, Bits, Compare. -/
namespace Go.Proofs.Ytkcpfgjkplailaa
set_option linter.unusedVariables false
open Go.RowKit

def KeptClean : Prop := ∀ (b : Int) (w : World), 0 ≤ b → b < 18446744073709551616 → Calls Try.prog 80 #[.int .u64 b] w fun e w' => e = .returned (.int .u64 (D.cl b)) ∧ w' = w
def KeptKey : Prop := ∀ (b : Int) (w : World), 0 ≤ b → b < 18446744073709551616 → Calls Try.prog 86 #[.int .u64 b] w fun e w' => e = .returned (.int .u64 (D.ky b)) ∧ w' = w
def KeptCompare : Prop := ∀ (a b : Int) (w : World), 0 ≤ a → a < 18446744073709551616 → 0 ≤ b → b < 18446744073709551616 → Calls Try.prog 77 #[.int .u64 a, .int .u64 b] w fun e w' => e = .returned (.int .i64 (D.cp a b)) ∧ w' = w
theorem isnan_any (b : Int) (w : World) (h0 : 0 ≤ b) (h1 : b < 18446744073709551616) :
    Calls Try.prog 89 #[.int .u64 b] w fun e w' => e = .returned (.bool (D.isN b)) ∧ w' = w := by
  have ha := D.andNot_top ⟨h0, h1⟩
  have HN : Hid (decide (9218868437227405312 < b % 9223372036854775808) = D.isN b) := D.isN_over ⟨h0, h1⟩
  go_enter Try.func89, Try.ntmps89
  go_wp2
  go_ret
  exact ⟨by rw [← HN.out]; rfl, rfl⟩
theorem clean_any : KeptClean := by
  intro b w h0 h1
  go_enter Try.func80, Try.ntmps80
  go_wp2_with fail
  refine (isnan_any b w h0 h1).mono ?_
  rintro e w1 ⟨rfl, rfl⟩
  cases hb : D.isN b with
  | false =>
    have HC : Hid (D.cl b = b) := D.cl_num hb
    go_wp2
    go_ret
    exact ⟨by rw [HC.out]; rfl, rfl⟩
  | true =>
    have HC : Hid (D.cl b = 9221120237041090560) := D.cl_nan hb
    go_wp2
    go_ret
    exact ⟨by rw [HC.out]; rfl, rfl⟩
theorem key_any : KeptKey := by
  intro b w h0 h1
  have hc := D.cl_in (b := b) ⟨h0, h1⟩
  go_enter Try.func86, Try.ntmps86
  go_wp2_with fail
  refine (clean_any b w h0 h1).mono ?_
  rintro e w1 ⟨rfl, rfl⟩
  obtain ⟨c, hce⟩ : ∃ c, D.cl b = c := ⟨_, rfl⟩
  rw [hce] at hc ⊢
  have HK : Hid (D.ky b = if 9223372036854775808 ≤ c then 18446744073709551615 - c else c + 9223372036854775808) := by show _ = _; unfold D.ky; rw [hce]
  clear hce
  have ha := D.and_top hc
  have hx := D.turn_all hc
  by_cases hs : 9223372036854775808 ≤ c
  · rw [if_pos hs] at ha
    obtain ⟨hc0, hc1⟩ := hc
    go_wp2
    go_ret
    exact ⟨by rw [HK.out, if_pos hs]; rfl, rfl⟩
  · rw [if_neg hs] at ha
    have ho := D.or_top hc.1 (by omega : c < 9223372036854775808)
    obtain ⟨hc0, hc1⟩ := hc
    go_wp2
    go_ret
    exact ⟨by rw [HK.out, if_neg (by omega)]; rfl, rfl⟩
theorem compare_any : KeptCompare := by
  intro a b w a0 a1 b0 b1
  have hx := D.ky_in (b := a) ⟨a0, a1⟩
  have hy := D.ky_in (b := b) ⟨b0, b1⟩
  have HC : Hid (D.cp a b = if D.ky a < D.ky b then -1 else if D.ky b < D.ky a then 1 else 0) := by show _ = _; rfl
  go_enter Try.func77, Try.ntmps77
  go_wp2_with fail
  refine (key_any a w a0 a1).mono ?_
  rintro e w1 ⟨rfl, rfl⟩
  go_wp2_with fail
  refine (key_any b w1 b0 b1).mono ?_
  rintro e w2 ⟨rfl, rfl⟩
  obtain ⟨x, hxe⟩ : ∃ x, D.ky a = x := ⟨_, rfl⟩
  obtain ⟨y, hye⟩ : ∃ y, D.ky b = y := ⟨_, rfl⟩
  rw [hxe] at hx HC ⊢
  rw [hye] at hy HC ⊢
  clear hxe hye
  obtain ⟨x0, x1⟩ := hx
  obtain ⟨y0, y1⟩ := hy
  by_cases hl : x < y
  · go_wp2
    go_ret
    exact ⟨by rw [HC.out, if_pos hl]; rfl, rfl⟩
  · by_cases hg : y < x
    · go_wp2
      go_ret
      exact ⟨by rw [HC.out, if_neg (by omega), if_pos hg]; rfl, rfl⟩
    · go_wp2
      go_ret
      exact ⟨by rw [HC.out, if_neg (by omega), if_neg (by omega)]; rfl, rfl⟩
end Go.Proofs.Ytkcpfgjkplailaa

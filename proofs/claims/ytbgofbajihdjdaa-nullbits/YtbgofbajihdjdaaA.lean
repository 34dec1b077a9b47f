/- Plain facts on lists of bits, the bytes that they fill, and numbers; nothing of the program. -/
import Derived.WalkKit
import Derived.Laws.BitsAllLaws
import Derived.Laws.MathBits
namespace Go.Proofs.Ytbgofbajihdjdaa.A
set_option linter.unusedVariables false

theorem getD_left {α : Type} (a b : List α) (i : Nat) (d : α) (h : i < a.length) : (a ++ b).getD i d = a.getD i d := by
  simp [List.getD, List.getElem?_append_left h]
theorem getD_right {α : Type} (a b : List α) (i : Nat) (d : α) (h : a.length ≤ i) : (a ++ b).getD i d = b.getD (i - a.length) d := by
  simp [List.getD, List.getElem?_append_right h]

/-- The number that bits are, the lowest first. -/
def valOf : List Bool → Nat
  | [] => 0
  | b :: r => b.toNat + 2 * valOf r

/-- A number's first bits. -/
def bitsOf (n : Nat) : Nat → List Bool
  | 0 => []
  | w + 1 => (n % 2 == 1) :: bitsOf (n / 2) w

theorem bitsOf_length (n w : Nat) : (bitsOf n w).length = w := by
  induction w generalizing n with
  | zero => rfl
  | succ w ih => simp [bitsOf, ih]

theorem valOf_lt (l : List Bool) : valOf l < 2 ^ l.length := by
  induction l with
  | nil => simp [valOf]
  | cons b r ih =>
    have : b.toNat ≤ 1 := by cases b <;> simp
    simp only [valOf, List.length_cons, Nat.pow_succ]; omega

theorem valOf_append (a b : List Bool) : valOf (a ++ b) = valOf a + 2 ^ a.length * valOf b := by
  induction a with
  | nil => simp [valOf]
  | cons x r ih =>
    simp only [List.cons_append, valOf, ih, List.length_cons, Nat.pow_succ]
    rw [show 2 ^ r.length * 2 * valOf b = 2 * (2 ^ r.length * valOf b) by rw [Nat.mul_comm (2 ^ r.length) 2, Nat.mul_assoc]]
    omega

theorem valOf_bitsOf (n w : Nat) : valOf (bitsOf n w) = n % 2 ^ w := by
  induction w generalizing n with
  | zero => simp [bitsOf, valOf, Nat.mod_one]
  | succ w ih =>
    simp only [bitsOf, valOf, ih]
    have h := Nat.mod_mul (x := n) (a := 2) (b := 2 ^ w)
    rw [Nat.pow_succ, Nat.mul_comm (2 ^ w) 2, h]
    rcases Nat.mod_two_eq_zero_or_one n with h | h <;> simp [h]

theorem bitsOf_valOf (l : List Bool) : bitsOf (valOf l) l.length = l := by
  induction l with
  | nil => rfl
  | cons b r ih =>
    simp only [valOf, List.length_cons, bitsOf]
    have h1 : (b.toNat + 2 * valOf r) / 2 = valOf r := by cases b <;> simp <;> omega
    have h2 : ((b.toNat + 2 * valOf r) % 2 == 1) = b := by cases b <;> simp <;> omega
    rw [h1, h2, ih]

theorem bitsOf_mod (n w : Nat) : bitsOf (n % 2 ^ w) w = bitsOf n w := by
  rw [← valOf_bitsOf]
  have := bitsOf_valOf (bitsOf n w)
  rwa [bitsOf_length] at this

theorem bitsOf_add (n a b : Nat) : bitsOf n (a + b) = bitsOf n a ++ bitsOf (n / 2 ^ a) b := by
  induction a generalizing n with
  | zero => simp [bitsOf]
  | succ a ih =>
    rw [show a + 1 + b = (a + b) + 1 by omega]
    simp only [bitsOf, ih, List.cons_append]
    rw [Nat.div_div_eq_div_mul, Nat.pow_succ, Nat.mul_comm 2 (2 ^ a)]

theorem bitsOf_succ (n w : Nat) : bitsOf n (w + 1) = bitsOf n w ++ [n / 2 ^ w % 2 == 1] := by
  rw [bitsOf_add]; rfl

theorem bitsOf_take (n a b : Nat) (h : a ≤ b) : (bitsOf n b).take a = bitsOf n a := by
  obtain ⟨c, rfl⟩ := Nat.le.dest h
  rw [bitsOf_add, List.take_append_of_le_length (by simp [bitsOf_length]), List.take_of_length_le (by simp [bitsOf_length])]

theorem bitsOf_getD (n w i : Nat) (h : i < w) : (bitsOf n w).getD i false = (n / 2 ^ i % 2 == 1) := by
  have h1 := bitsOf_take n (i + 1) w h
  have h2 : (bitsOf n w).getD i false = ((bitsOf n w).take (i + 1)).getD i false := by
    simp [List.getD]
  rw [h2, h1, bitsOf_succ, getD_right _ _ _ _ (by simp [bitsOf_length])]
  simp [bitsOf_length]

/-- Bits as bytes, the last one filled with zeros. -/
def bytesOf (bs : List Bool) : List Nat := (List.range ((bs.length + 7) / 8)).map fun j => valOf ((bs.drop (8 * j)).take 8)

theorem bytesOf_length (bs : List Bool) : (bytesOf bs).length = (bs.length + 7) / 8 := by simp [bytesOf]

theorem bytesOf_getD (bs : List Bool) (j : Nat) (h : j < (bs.length + 7) / 8) : (bytesOf bs).getD j 0 = valOf ((bs.drop (8 * j)).take 8) := by
  simp [bytesOf, List.getD, h]

theorem bytesOf_lt (bs : List Bool) : ∀ x ∈ bytesOf bs, x < 256 := by
  intro x hx
  simp only [bytesOf, List.mem_map] at hx
  obtain ⟨j, _, rfl⟩ := hx
  have h1 := valOf_lt ((bs.drop (8 * j)).take 8)
  have h2 : ((bs.drop (8 * j)).take 8).length ≤ 8 := List.length_take_le _ _
  have h3 : 2 ^ ((bs.drop (8 * j)).take 8).length ≤ 2 ^ 8 := Nat.pow_le_pow_right (by omega) h2
  omega

theorem bytesOf_nil : bytesOf [] = [] := rfl

theorem getD_ext {l m : List Nat} (h : l.length = m.length) (h' : ∀ i, i < l.length → l.getD i 0 = m.getD i 0) : l = m := by
  apply List.ext_getElem h
  intro i h1 h2
  have := h' i h1
  simpa [List.getD, h1, h2] using this

/-- A bit more, where a byte begins. -/
theorem bytesOf_snoc_new (bs : List Bool) (b : Bool) (h : bs.length % 8 = 0) : bytesOf (bs ++ [b]) = bytesOf bs ++ [b.toNat] := by
  apply getD_ext
  · simp [bytesOf_length]; omega
  · intro i hi
    rw [bytesOf_length] at hi
    simp only [List.length_append, List.length_singleton] at hi
    rw [bytesOf_getD _ _ (by simpa using hi)]
    by_cases hl : i < (bs.length + 7) / 8
    · rw [getD_left _ _ _ _ (by rw [bytesOf_length]; exact hl), bytesOf_getD _ _ hl, List.drop_append_of_le_length (by omega), List.take_append_of_le_length (by simp; omega)]
    · have hi' : i = bs.length / 8 := by omega
      rw [getD_right _ _ _ _ (by rw [bytesOf_length]; omega), bytesOf_length]
      have e : 8 * i = bs.length := by omega
      rw [e, List.drop_append_of_le_length (by omega), List.drop_length]
      have e2 : i - (bs.length + 7) / 8 = 0 := by omega
      rw [e2]; simp [valOf]

/-- A bit more, within a byte. -/
theorem bytesOf_snoc_old (bs : List Bool) (b : Bool) (h : bs.length % 8 ≠ 0) :
    bytesOf (bs ++ [b]) = (bytesOf bs).set ((bs.length + 7) / 8 - 1) ((bytesOf bs).getD ((bs.length + 7) / 8 - 1) 0 + b.toNat * 2 ^ (bs.length % 8)) := by
  apply getD_ext
  · simp [bytesOf_length]; omega
  · intro i hi
    rw [bytesOf_length] at hi
    simp only [List.length_append, List.length_singleton] at hi
    rw [bytesOf_getD _ _ (by simpa using hi)]
    by_cases hl : i = (bs.length + 7) / 8 - 1
    · subst hl
      have hlt : (bs.length + 7) / 8 - 1 < (bs.length + 7) / 8 := by omega
      have e : ((bytesOf bs).set ((bs.length + 7) / 8 - 1) ((bytesOf bs).getD ((bs.length + 7) / 8 - 1) 0 + b.toNat * 2 ^ (bs.length % 8))).getD ((bs.length + 7) / 8 - 1) 0 = (bytesOf bs).getD ((bs.length + 7) / 8 - 1) 0 + b.toNat * 2 ^ (bs.length % 8) := by
        simp [List.getD, bytesOf_length, hlt]
      rw [e, bytesOf_getD _ _ hlt]
      have e8 : 8 * ((bs.length + 7) / 8 - 1) = bs.length - bs.length % 8 := by omega
      have hm : bs.length % 8 ≤ bs.length := Nat.mod_le _ _
      rw [List.drop_append_of_le_length (by omega), List.take_of_length_le (by simp; omega), List.take_of_length_le (by simp; omega), valOf_append]
      have e3 : (List.drop (8 * ((bs.length + 7) / 8 - 1)) bs).length = bs.length % 8 := by simp; omega
      rw [e3]; simp [valOf, Nat.mul_comm]
    · have hi2 : i < (bs.length + 7) / 8 := by omega
      have e : ((bytesOf bs).set ((bs.length + 7) / 8 - 1) ((bytesOf bs).getD ((bs.length + 7) / 8 - 1) 0 + b.toNat * 2 ^ (bs.length % 8))).getD i 0 = (bytesOf bs).getD i 0 := by
        simp only [List.getD, List.getElem?_set]
        rw [if_neg (by omega)]
      rw [e, bytesOf_getD _ _ hi2, List.drop_append_of_le_length (by omega), List.take_append_of_le_length (by simp; omega)]

theorem last_lt (bs : List Bool) (h : bs.length % 8 ≠ 0) : (bytesOf bs).getD ((bs.length + 7) / 8 - 1) 0 < 2 ^ (bs.length % 8) := by
  rw [bytesOf_getD _ _ (by omega)]
  have hm : bs.length % 8 ≤ bs.length := Nat.mod_le _ _
  have e3 : (List.drop (8 * ((bs.length + 7) / 8 - 1)) bs).length = bs.length % 8 := by simp; omega
  have := valOf_lt (List.take 8 (List.drop (8 * ((bs.length + 7) / 8 - 1)) bs))
  rw [List.take_of_length_le (by omega), e3] at this
  rw [List.take_of_length_le (by omega)]
  exact this

/-- Bytes as bits. -/
def bitsB (l : List Nat) : List Bool := l.flatMap fun x => bitsOf x 8

theorem bitsB_length (l : List Nat) : (bitsB l).length = 8 * l.length := by
  induction l with
  | nil => rfl
  | cons x r ih => simp [bitsB, List.flatMap_cons, bitsOf_length] at ih ⊢; omega

theorem bitsB_cons (x : Nat) (l : List Nat) : bitsB (x :: l) = bitsOf x 8 ++ bitsB l := by simp [bitsB]
theorem bitsB_append (a b : List Nat) : bitsB (a ++ b) = bitsB a ++ bitsB b := by simp [bitsB]

theorem bitsB_getD (l : List Nat) (k : Nat) (h : k < 8 * l.length) : (bitsB l).getD k false = (l.getD (k / 8) 0 / 2 ^ (k % 8) % 2 == 1) := by
  induction l generalizing k with
  | nil => simp at h
  | cons x r ih =>
    rw [bitsB_cons]
    by_cases hk : k < 8
    · rw [getD_left _ _ _ _ (by simp [bitsOf_length, hk]), bitsOf_getD _ _ _ hk, Nat.div_eq_of_lt hk, Nat.mod_eq_of_lt hk]; rfl
    · rw [getD_right _ _ _ _ (by simp [bitsOf_length]; omega), bitsOf_length, ih (k - 8) (by simp at h; omega)]
      have e1 : k / 8 = (k - 8) / 8 + 1 := by omega
      have e2 : k % 8 = (k - 8) % 8 := by omega
      rw [e1, e2]; rfl

/-- Bits, filled up to whole bytes. -/
def padded (bs : List Bool) : List Bool := bs ++ List.replicate (8 * ((bs.length + 7) / 8) - bs.length) false

theorem valOf_replicate (n : Nat) : valOf (List.replicate n false) = 0 := by
  induction n with
  | zero => rfl
  | succ n ih => simp [List.replicate_succ, valOf, ih]

theorem bytesOf_step (bs : List Bool) (h : 8 ≤ bs.length) : bytesOf bs = valOf (bs.take 8) :: bytesOf (bs.drop 8) := by
  have e : (bs.length + 7) / 8 = (bs.length - 8 + 7) / 8 + 1 := by omega
  simp only [bytesOf, e, List.range_succ_eq_map, List.map_cons, List.map_map, List.length_drop]
  refine (List.cons_eq_cons).2 ⟨by simp, ?_⟩
  apply List.map_congr_left
  intro j _
  simp only [Function.comp, List.drop_drop]
  rw [show 8 * (j + 1) = 8 + 8 * j by omega]

theorem bytesOf_short (bs : List Bool) (h : bs.length < 8) (h0 : bs ≠ []) : bytesOf bs = [valOf bs] := by
  have : 0 < bs.length := List.length_pos_iff.2 h0
  have e : (bs.length + 7) / 8 = 1 := by omega
  simp [bytesOf, e, List.take_of_length_le (show bs.length ≤ 8 by omega)]

theorem bitsB_bytesOf (bs : List Bool) : bitsB (bytesOf bs) = padded bs := by
  generalize hn : bs.length = n
  induction n using Nat.strongRecOn generalizing bs with
  | ind n ih =>
    by_cases h8 : 8 ≤ bs.length
    · rw [bytesOf_step _ h8, bitsB_cons, ih (n - 8) (by omega) (bs.drop 8) (by simp; omega)]
      have e : bitsOf (valOf (bs.take 8)) 8 = bs.take 8 := by
        have := bitsOf_valOf (bs.take 8)
        rwa [show (bs.take 8).length = 8 by simp; omega] at this
      rw [e]
      simp only [padded, List.length_drop]
      rw [← List.append_assoc, List.take_append_drop]
      congr 2; omega
    · by_cases h0 : bs = []
      · subst h0; rfl
      · rw [bytesOf_short _ (by omega) h0, bitsB_cons]
        have hp : 0 < bs.length := List.length_pos_iff.2 h0
        have e1 : (bs.length + 7) / 8 = 1 := by omega
        simp only [padded, e1]
        have e : bitsOf (valOf (bs ++ List.replicate (8 * 1 - bs.length) false)) 8 = bs ++ List.replicate (8 * 1 - bs.length) false := by
          have := bitsOf_valOf (bs ++ List.replicate (8 * 1 - bs.length) false)
          rwa [show (bs ++ List.replicate (8 * 1 - bs.length) false).length = 8 by simp; omega] at this
        rw [valOf_append, valOf_replicate, Nat.mul_zero, Nat.add_zero] at e
        rw [e]; simp [bitsB]

theorem bytesOf_bitsB (l : List Nat) (h : ∀ x ∈ l, x < 256) : bytesOf (bitsB l) = l := by
  induction l with
  | nil => rfl
  | cons x r ih =>
    rw [bytesOf_step _ (by rw [bitsB_length]; simp; omega), bitsB_cons, List.drop_append_of_le_length (by simp [bitsOf_length]), List.drop_of_length_le (by simp [bitsOf_length]), List.nil_append, ih (fun y hy => h y (by simp [hy])), List.take_append_of_le_length (by simp [bitsOf_length]), List.take_of_length_le (by simp [bitsOf_length]), valOf_bitsOf]
    have := h x (by simp)
    rw [Nat.mod_eq_of_lt (by omega)]

end Go.Proofs.Ytbgofbajihdjdaa.A

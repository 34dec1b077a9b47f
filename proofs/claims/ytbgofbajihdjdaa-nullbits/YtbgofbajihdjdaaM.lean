/- Plain facts on widths; Width under one name; the reference's Same. -/
import Derived.Test.YtbgofbajihdjdaaC5
namespace Go.Proofs.Ytbgofbajihdjdaa
set_option linter.unusedVariables false
open Go.RowKit
theorem Try.infoU64 : (Try.prog.info? 56).map (fun i => (i.zero, i.size, i.bytes)) = some (some (.int .u64 0), 1, 8) := by kernel_rfl

theorem bitLen_or (a b : Nat) : bitLen (a ||| b) = max (bitLen a) (bitLen b) := by
  have key : ∀ a b : Nat, bitLen a ≤ bitLen b → bitLen (a ||| b) = bitLen b := by
    intro a b h
    by_cases hb : b = 0
    · subst hb
      have ha : a = 0 := by
        by_cases h0 : a = 0
        · exact h0
        · simp [bitLen, h0] at h
      subst ha; rfl
    · have h1 := (bitLen_spec a).1
      have h2 := bitLen_spec b
      have h3 : a < 2 ^ bitLen b := Nat.lt_of_lt_of_le h1 (Nat.pow_le_pow_right (by omega) h)
      have h4 : a ||| b < 2 ^ bitLen b := Nat.or_lt_two_pow h3 h2.1
      have h5 : b ≤ a ||| b := Nat.right_le_or
      have hne : a ||| b ≠ 0 := by omega
      have hp : 0 < bitLen b := by unfold bitLen; rw [if_neg hb]; omega
      have h6 := h2.2 hb
      have e : (a ||| b).log2 = bitLen b - 1 := (Nat.log2_eq_iff hne).2 ⟨by omega, by rw [show bitLen b - 1 + 1 = bitLen b by omega]; exact h4⟩
      unfold bitLen at e hp ⊢
      rw [if_neg hne, e]
      omega
  rcases Nat.le_total (bitLen a) (bitLen b) with h | h
  · rw [key a b h]; omega
  · rw [Nat.or_comm, key b a h]; omega

theorem bitLen_half (a : Nat) : bitLen (a / 2) = bitLen a - 1 := by
  by_cases h : a / 2 = 0
  · have : a = 0 ∨ a = 1 := by omega
    rcases this with rfl | rfl <;> simp [bitLen]
    decide
  · have := bitLen_shift a 1 (by simpa using h)
    simp at this
    omega

theorem or_half (a b : Nat) : (a ||| b) / 2 = a / 2 ||| b / 2 := by
  have := Nat.shiftRight_or_distrib (a := a) (b := b) (i := 1)
  simpa [Nat.shiftRight_eq_div_pow] using this

theorem foldl_or (l : List Int) (a : Nat) : l.foldl (fun a x => a ||| x.toNat) a = a ||| orAll l := by
  induction l generalizing a with
  | nil => simp [orAll]
  | cons x r ih =>
    simp only [List.foldl_cons, orAll]
    rw [ih, ih, Nat.zero_or, Nat.or_assoc]

theorem orAll_cons (x : Int) (l : List Int) : orAll (x :: l) = x.toNat ||| orAll l := by
  simp only [orAll, List.foldl_cons, Nat.zero_or]
  rw [foldl_or]; rfl

theorem orAll_half (l : List Int) (h : In64 l) : orAll (l.map (· / 2)) = orAll l / 2 := by
  induction l with
  | nil => rfl
  | cons x r ih =>
    have hx := h x (by simp)
    rw [List.map_cons, orAll_cons, orAll_cons, or_half, ih (fun y hy => h y (by simp [hy]))]
    have : (x / 2).toNat = x.toNat / 2 := by omega
    rw [this]

theorem In64.half {l : List Int} (h : In64 l) : In64 (l.map (· / 2)) := by
  intro x hx
  obtain ⟨y, hy, rfl⟩ := List.mem_map.1 hx
  have := h y hy
  show 0 ≤ y / 2 ∧ y / 2 < _
  omega
theorem In64.snoc {l : List Int} (h : In64 l) {x : Int} (h0 : 0 ≤ x) (h1 : x < 18446744073709551616) : In64 (l ++ [x]) := by
  intro y hy
  rcases List.mem_append.1 hy with h' | h'
  · exact h y h'
  · simp only [List.mem_singleton] at h'; subst h'; exact ⟨h0, h1⟩

/-- The width that a list's numbers need, as one number. -/
def wid (l : List Int) : Nat := bitLen (orAll l)
theorem wid_snoc (l : List Int) (x : Int) : wid (l ++ [x]) = max (wid l) (wid [x]) := by
  unfold wid
  rw [orAll_snoc, bitLen_or]
  simp [orAll]
theorem wid_half (l : List Int) (h : In64 l) : wid (l.map (· / 2)) = wid l - 1 := by
  unfold wid
  rw [orAll_half l h, bitLen_half]
theorem bitLen_le (a : Nat) (h : a < 18446744073709551616) : bitLen a ≤ 64 := by
  unfold bitLen
  split
  · omega
  · rename_i h0
    have := (Nat.log2_lt h0).2 (show a < 2 ^ 64 from h)
    omega
theorem wid_le (l : List Int) (h : In64 l) : wid l ≤ 64 := bitLen_le _ (orAll_lt l fun x hx => (h x hx).2)

theorem bitLen_le_iff (a k : Nat) : bitLen a ≤ k ↔ a < 2 ^ k := by
  have h := bitLen_spec a
  constructor
  · intro hk; exact Nat.lt_of_lt_of_le h.1 (Nat.pow_le_pow_right (by omega) hk)
  · intro hk
    by_cases h0 : a = 0
    · subst h0; simp [bitLen]
    · have h2 := h.2 h0
      rcases Nat.lt_or_ge k (bitLen a) with hlt | hge
      · have : 2 ^ k ≤ 2 ^ (bitLen a - 1) := Nat.pow_le_pow_right (by omega) (by omega)
        omega
      · exact hge

theorem fit_wid (l : List Int) (k : Nat) (hin : In64 l) : Fit l k ↔ wid l ≤ k := by
  induction l with
  | nil => simp [Fit, wid, orAll, bitLen]
  | cons x r ih =>
    have hx := hin x (by simp)
    have ih' := ih (fun y hy => hin y (by simp [hy]))
    unfold wid at ih' ⊢
    rw [orAll_cons, bitLen_or]
    have h1 : Fit (x :: r) k ↔ x < (2 : Int) ^ k ∧ Fit r k := by simp [Fit]
    have h2 := bitLen_le_iff x.toNat k
    rw [h1, ih', ← pow_int]
    omega

end Go.Proofs.Ytbgofbajihdjdaa

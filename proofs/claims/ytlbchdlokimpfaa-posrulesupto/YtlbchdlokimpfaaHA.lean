/- Sets of positions, plain: which of the numbers are in. Nothing of the program. -/
import Derived.WalkKit
namespace Go.Proofs.Ytlbchdlokimpfaa
set_option linter.unusedVariables false
set_option maxRecDepth 10000
/-- The numbers below k that are in, rising; all of them. -/
def Z.ps (bs : List Bool) : Nat → List Nat
  | 0 => []
  | k + 1 => if bs.getD k false = true then Z.ps bs k ++ [k] else Z.ps bs k
def Z.ls (bs : List Bool) : List Nat := Z.ps bs bs.length
theorem ps_yes {bs : List Bool} {k : Nat} (h : bs.getD k false = true) : Z.ps bs (k + 1) = Z.ps bs k ++ [k] := by rw [Z.ps, if_pos h]
theorem ps_no {bs : List Bool} {k : Nat} (h : bs.getD k false = false) : Z.ps bs (k + 1) = Z.ps bs k := by rw [Z.ps, if_neg (by rw [h]; decide)]
theorem ps_mem (bs : List Bool) : ∀ (k x : Nat), x ∈ Z.ps bs k ↔ x < k ∧ bs.getD x false = true
  | 0, x => by simp [Z.ps]
  | k + 1, x => by
    have ih := ps_mem bs k x
    cases hb : bs.getD k false with
    | true =>
      rw [ps_yes hb, List.mem_append, ih, List.mem_singleton]
      constructor
      · rintro (⟨h1, h2⟩ | rfl)
        · exact ⟨by omega, h2⟩
        · exact ⟨by omega, hb⟩
      · rintro ⟨h1, h2⟩
        by_cases hx : x = k
        · exact .inr hx
        · exact .inl ⟨by omega, h2⟩
    | false =>
      rw [ps_no hb, ih]
      constructor
      · rintro ⟨h1, h2⟩; exact ⟨by omega, h2⟩
      · rintro ⟨h1, h2⟩
        by_cases hx : x = k
        · subst hx; rw [hb] at h2; cases h2
        · exact ⟨by omega, h2⟩
theorem ps_lt {bs : List Bool} {k x : Nat} (h : x ∈ Z.ps bs k) : x < k := ((ps_mem bs k x).1 h).1
theorem ps_rise (bs : List Bool) : ∀ k, (Z.ps bs k).Pairwise fun a b => a < b
  | 0 => List.Pairwise.nil
  | k + 1 => by
    have ih := ps_rise bs k
    cases hb : bs.getD k false with
    | true =>
      rw [ps_yes hb, List.pairwise_append]
      exact ⟨ih, List.pairwise_singleton _ _, fun a ha b hb2 => by simp at hb2; subst hb2; exact ps_lt ha⟩
    | false => rw [ps_no hb]; exact ih
theorem ps_len (bs : List Bool) : ∀ k, (Z.ps bs k).length ≤ k
  | 0 => by simp [Z.ps]
  | k + 1 => by
    have ih := ps_len bs k
    cases hb : bs.getD k false with
    | true => rw [ps_yes hb, List.length_append]; simp; exact ih
    | false => rw [ps_no hb]; omega
theorem ps_same {a b : List Bool} : ∀ {k : Nat}, (∀ j, j < k → a.getD j false = b.getD j false) → Z.ps a k = Z.ps b k
  | 0, _ => rfl
  | k + 1, h => by
    rw [Z.ps, Z.ps, h k (by omega), ps_same fun j hj => h j (by omega)]
theorem ps_out {bs : List Bool} {k : Nat} (h : bs.length ≤ k) : Z.ps bs k = Z.ls bs := by
  obtain ⟨d, rfl⟩ : ∃ d, k = bs.length + d := ⟨k - bs.length, by omega⟩
  clear h
  induction d with
  | zero => rfl
  | succ d ih =>
    rw [← Nat.add_assoc, ps_no, ih]
    simp [List.getD]
/-- Who stands at a place has that many below. -/
theorem ps_at (bs : List Bool) : ∀ {k j x : Nat}, (Z.ps bs k)[j]? = some x → (Z.ps bs x).length = j ∧ x < k ∧ bs.getD x false = true
  | 0, j, x, h => by simp [Z.ps] at h
  | k + 1, j, x, h => by
    cases hb : bs.getD k false with
    | true =>
      rw [ps_yes hb] at h
      by_cases hj : j < (Z.ps bs k).length
      · rw [List.getElem?_append_left hj] at h
        obtain ⟨h1, h2, h3⟩ := ps_at bs h
        exact ⟨h1, by omega, h3⟩
      · rw [List.getElem?_append_right (by omega)] at h
        have h0 : j - (Z.ps bs k).length = 0 := by
          have := (List.getElem?_eq_some_iff.1 h).1
          simp at this
          omega
        rw [h0] at h
        simp at h
        subst h
        exact ⟨by omega, by omega, hb⟩
    | false =>
      rw [ps_no hb] at h
      obtain ⟨h1, h2, h3⟩ := ps_at bs h
      exact ⟨h1, by omega, h3⟩
theorem ps_next {bs : List Bool} {k j x y : Nat} (h1 : (Z.ps bs k)[j]? = some x) (h2 : (Z.ps bs k)[j + 1]? = some y) : x < y := by
  have := ps_rise bs k
  rw [List.pairwise_iff_getElem] at this
  obtain ⟨a1, a2⟩ := List.getElem?_eq_some_iff.1 h1
  obtain ⟨b1, b2⟩ := List.getElem?_eq_some_iff.1 h2
  have := this j (j + 1) a1 b1 (by omega)
  rwa [a2, b2] at this
/-- In both, in either, not in one; all, none. -/
def Z.an (a b : List Bool) : List Bool := List.zipWith (fun x y => x && y) a b
def Z.orr (a b : List Bool) : List Bool := List.zipWith (fun x y => x || y) a b
def Z.nt (a : List Bool) : List Bool := a.map fun x => !x
theorem an_length {a b : List Bool} (h : a.length = b.length) : (Z.an a b).length = a.length := by simp [Z.an, h]
theorem orr_length {a b : List Bool} (h : a.length = b.length) : (Z.orr a b).length = a.length := by simp [Z.orr, h]
theorem nt_length (a : List Bool) : (Z.nt a).length = a.length := by simp [Z.nt]
theorem an_at {a b : List Bool} (h : a.length = b.length) (j : Nat) : (Z.an a b).getD j false = (a.getD j false && b.getD j false) := by
  unfold Z.an
  simp only [List.getD_eq_getElem?_getD, List.getElem?_zipWith]
  by_cases hj : j < a.length
  · rw [List.getElem?_eq_getElem hj, List.getElem?_eq_getElem (by omega)]; rfl
  · rw [List.getElem?_eq_none (by omega), List.getElem?_eq_none (by omega)]; rfl
theorem orr_at {a b : List Bool} (h : a.length = b.length) (j : Nat) : (Z.orr a b).getD j false = (a.getD j false || b.getD j false) := by
  unfold Z.orr
  simp only [List.getD_eq_getElem?_getD, List.getElem?_zipWith]
  by_cases hj : j < a.length
  · rw [List.getElem?_eq_getElem hj, List.getElem?_eq_getElem (by omega)]; rfl
  · rw [List.getElem?_eq_none (by omega), List.getElem?_eq_none (by omega)]; rfl
theorem nt_at {a : List Bool} {j : Nat} (hj : j < a.length) : (Z.nt a).getD j false = !a.getD j false := by
  unfold Z.nt
  simp only [List.getD_eq_getElem?_getD, List.getElem?_map]
  rw [List.getElem?_eq_getElem hj]; rfl
theorem nt_nt (a : List Bool) : Z.nt (Z.nt a) = a := by
  unfold Z.nt
  rw [List.map_map]
  conv => rhs; rw [← List.map_id a]
  apply List.map_congr_left
  intro x _
  cases x <;> rfl
theorem nt_an : ∀ {a b : List Bool}, Z.nt (Z.an a b) = Z.orr (Z.nt a) (Z.nt b)
  | [], b => by cases b <;> rfl
  | x :: a, [] => rfl
  | x :: a, y :: b => by
    have ih := nt_an (a := a) (b := b)
    show (!(x && y)) :: Z.nt (Z.an a b) = ((!x) || (!y)) :: Z.orr (Z.nt a) (Z.nt b)
    rw [ih]
    cases x <;> cases y <;> rfl
theorem orr_nt : ∀ a : List Bool, Z.orr a (Z.nt a) = List.replicate a.length true
  | [] => rfl
  | x :: a => by
    have ih := orr_nt a
    show (x || !x) :: Z.orr a (Z.nt a) = _
    rw [ih, List.length_cons, List.replicate_succ]
    cases x <;> rfl
theorem an_nt : ∀ a : List Bool, Z.an a (Z.nt a) = List.replicate a.length false
  | [] => rfl
  | x :: a => by
    have ih := an_nt a
    show (x && !x) :: Z.an a (Z.nt a) = _
    rw [ih, List.length_cons, List.replicate_succ]
    cases x <;> rfl
theorem an_swap {a b : List Bool} : Z.an a b = Z.an b a := by
  unfold Z.an
  rw [List.zipWith_comm]
  congr 1
  funext x y
  cases x <;> cases y <;> rfl
theorem rep_at {n j : Nat} {b : Bool} (h : j < n) : (List.replicate n b).getD j false = b := by simp [List.getD, h]
theorem ls_all (n : Nat) : ∀ k, k ≤ n → Z.ps (List.replicate n true) k = List.range k
  | 0, _ => rfl
  | k + 1, h => by rw [ps_yes (rep_at (by omega)), ls_all n k (by omega), List.range_succ]
theorem ls_none (n : Nat) : ∀ k, Z.ps (List.replicate n false) k = []
  | 0 => rfl
  | k + 1 => by
    rw [ps_no, ls_none n k]
    by_cases h : k < n
    · exact rep_at h
    · simp [List.getD, h]
theorem cnt_both {a b : List Bool} (h : a.length = b.length) : ∀ k, (Z.ps (Z.an a b) k).length + (Z.ps (Z.orr a b) k).length = (Z.ps a k).length + (Z.ps b k).length
  | 0 => rfl
  | k + 1 => by
    have ih := cnt_both h k
    have h1 := an_at h k
    have h2 := orr_at h k
    cases ha : a.getD k false <;> cases hb : b.getD k false <;> rw [ha, hb] at h1 h2
    · rw [ps_no h1, ps_no h2, ps_no ha, ps_no hb]; exact ih
    · rw [ps_no h1, ps_yes h2, ps_no ha, ps_yes hb, List.length_append, List.length_append]; simp; omega
    · rw [ps_no h1, ps_yes h2, ps_yes ha, ps_no hb, List.length_append, List.length_append]; simp; omega
    · rw [ps_yes h1, ps_yes h2, ps_yes ha, ps_yes hb, List.length_append, List.length_append, List.length_append, List.length_append]; simp; omega
theorem cnt_not {a : List Bool} : ∀ {k : Nat}, k ≤ a.length → (Z.ps (Z.nt a) k).length + (Z.ps a k).length = k
  | 0, _ => rfl
  | k + 1, h => by
    have ih := cnt_not (a := a) (k := k) (by omega)
    have h1 := nt_at (a := a) (j := k) (by omega)
    cases ha : a.getD k false <;> rw [ha] at h1
    · rw [ps_yes h1, ps_no ha, List.length_append]; simp; omega
    · rw [ps_no h1, ps_yes ha, List.length_append]; simp; omega
/-- The set of numbers of a list: of n, in it just those. -/
def Z.fo (n : Nat) (l : List Int) : List Bool := (List.range n).map fun (i : Nat) => l.any fun x => x == (i : Int)
theorem fo_length (n : Nat) (l : List Int) : (Z.fo n l).length = n := by simp [Z.fo]
theorem fo_none (n : Nat) : Z.fo n [] = List.replicate n false := by
  unfold Z.fo
  simp only [List.any_nil]
  rw [List.map_const', List.length_range]
theorem fo_at {n j : Nat} {l : List Int} (h : j < n) : (Z.fo n l).getD j false = l.any fun x => x == (j : Int) := by
  unfold Z.fo
  simp [List.getD, h]
theorem fo_snoc {n j : Nat} {l : List Int} (h : j < n) : (Z.fo n l).set j true = Z.fo n (l ++ [(j : Int)]) := by
  apply List.ext_getElem
  · rw [List.length_set, fo_length, fo_length]
  · intro i h1 h2
    rw [fo_length] at h2
    rw [List.getElem_set]
    simp only [Z.fo, List.getElem_map, List.getElem_range, List.any_append, List.any_cons, List.any_nil, Bool.or_false]
    by_cases hij : j = i
    · subst hij; simp
    · rw [if_neg hij]
      have : ((j : Int) == (i : Int)) = false := by simp; omega
      rw [this, Bool.or_false]
/-- What is wrong with numbers as a set of n, in a way. -/
def Z.mayR (rep : Int) : Bool := rep == 1 || rep == 2 || rep == 3
def Z.poE (n : Int) (l : List Int) (rep : Int) : Int := if Z.mayR rep = false ∨ n < 0 ∨ 4096 < n then 1 else if (l.any fun x => decide (x < 0) || decide (n ≤ x)) = true then 2 else 0
def Z.poS (n : Int) (l : List Int) (rep : Int) : List Bool := if Z.poE n l rep = 0 then Z.fo n.toNat l else []
def Z.poR (n : Int) (l : List Int) (rep : Int) : Int := if Z.poE n l rep = 0 then rep else 0
theorem poE_arg {n rep : Int} {l : List Int} (h : Z.mayR rep = false ∨ n < 0 ∨ 4096 < n) : Z.poE n l rep = 1 := by unfold Z.poE; rw [if_pos h]
theorem poE_range {n rep : Int} {l : List Int} (h : ¬ (Z.mayR rep = false ∨ n < 0 ∨ 4096 < n)) {x : Int} (hx : x ∈ l) (hb : x < 0 ∨ n ≤ x) : Z.poE n l rep = 2 := by
  unfold Z.poE
  rw [if_neg h, if_pos]
  rw [List.any_eq_true]
  exact ⟨x, hx, by simpa using hb⟩
theorem poE_ok {n rep : Int} {l : List Int} (h : ¬ (Z.mayR rep = false ∨ n < 0 ∨ 4096 < n)) (hx : ∀ x ∈ l, 0 ≤ x ∧ x < n) : Z.poE n l rep = 0 := by
  unfold Z.poE
  rw [if_neg h, if_neg]
  rw [List.any_eq_true]
  rintro ⟨x, h1, h2⟩
  have := hx x h1
  simp at h2
  omega
theorem poE_zero {n rep : Int} {l : List Int} (h : Z.poE n l rep = 0) : Z.mayR rep = true ∧ 0 ≤ n ∧ n ≤ 4096 ∧ ∀ x ∈ l, 0 ≤ x ∧ x < n := by
  unfold Z.poE at h
  split at h
  · cases h
  · rename_i h1
    split at h
    · cases h
    · rename_i h2
      have hr : Z.mayR rep = true := by
        cases hq : Z.mayR rep with
        | true => rfl
        | false => exact absurd (.inl hq) h1
      refine ⟨hr, by omega, by omega, fun x hx => ?_⟩
      have h3 : ¬ (x < 0 ∨ n ≤ x) := fun hb => h2 (List.any_eq_true.2 ⟨x, hx, by simpa using hb⟩)
      omega
end Go.Proofs.Ytlbchdlokimpfaa

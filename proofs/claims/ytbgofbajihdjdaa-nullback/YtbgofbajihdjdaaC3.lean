/- The contracts of math/bits.Len64 and of Width. -/
import Derived.Test.YtbgofbajihdjdaaC2
import Derived.Laws.MathBits
namespace Go.Proofs.Ytbgofbajihdjdaa
set_option linter.unusedVariables false
open Go.RowKit

theorem wrap64_small (n : Int) (h0 : 0 ≤ n) (h1 : n < 1000000) : wrap64 n = n := IntWalk.wrap64_in n ⟨by omega, by omega⟩

theorem len_fin (x : Int) (c : Nat) (C y : Int) (hC : C = (c : Int)) (hy : y.toNat = x.toNat / 2 ^ c) (hp : c = 0 ∨ 1 ≤ y) (h8 : y < 256) (hc : c ≤ 56) :
    wrap64 (C + wrap64 ((bitLen y.toNat : Nat) : Int)) = ((bitLen x.toNat : Nat) : Int) := by
  have hl := bitLen_le8 y.toNat (by omega)
  rw [wrap64_small (bitLen y.toNat : Nat) (by omega) (by omega), wrap64_small _ (by omega) (by omega)]
  rcases hp with rfl | hp
  · simp at hy; rw [hy]; omega
  · have := bitLen_shift x.toNat c (by omega)
    rw [← hy] at this
    omega

/-- All numbers' bits joined. -/
def orAll (l : List Int) : Nat := l.foldl (fun a x => a ||| x.toNat) 0
theorem orAll_snoc (l : List Int) (x : Int) : orAll (l ++ [x]) = orAll l ||| x.toNat := by simp [orAll]
theorem orAll_lt (l : List Int) (h : ∀ x ∈ l, x < 18446744073709551616) : orAll l < 18446744073709551616 := by
  have gen : ∀ (l : List Int) (a : Nat), a < 2 ^ 64 → (∀ x ∈ l, x < 18446744073709551616) → l.foldl (fun a x => a ||| x.toNat) a < 2 ^ 64 := by
    intro l
    induction l with
    | nil => intro a ha _; exact ha
    | cons y r ih =>
      intro a ha hh
      have hy := hh y (by simp)
      exact ih _ (Nat.or_lt_two_pow ha (by omega)) (fun x hx => hh x (by simp [hx]))
  have := gen l 0 (by omega) h
  unfold orAll; omega

theorem take_snocD (l : List Int) (k : Nat) (h : k < l.length) : l.take (k + 1) = l.take k ++ [l.getD k 0] := by
  rw [List.take_succ_eq_append_getElem h]; simp [List.getD, h]

/-- What each number of a kind is. -/
def In64 (l : List Int) : Prop := ∀ x ∈ l, 0 ≤ x ∧ x < 18446744073709551616
theorem In64.getD {l : List Int} (h : In64 l) (k : Nat) : 0 ≤ l.getD k 0 ∧ l.getD k 0 < 18446744073709551616 := by
  by_cases hk : k < l.length
  · have : l.getD k 0 = l[k] := by simp [List.getD, hk]
    rw [this]; exact h _ (List.getElem_mem hk)
  · have : l.getD k 0 = 0 := by simp [List.getD, Nat.le_of_not_lt hk]
    rw [this]; decide

theorem or_all (a : Nat) (x : Int) (ha : a < 18446744073709551616) (h0 : 0 ≤ x) (h1 : x < 18446744073709551616) : bits .or .u64 (a : Int) x = ((a ||| x.toNat : Nat) : Int) := by
  have := u64_or a x (by omega) (by omega) h0 h1
  simpa using this

end Go.Proofs.Ytbgofbajihdjdaa

/- The contracts of the document's answer for bits: Width, Pack. -/
import Derived.Test.YtbgofbajihdjdaaF1
namespace Go.Proofs.Ytbgofbajihdjdaa
set_option linter.unusedVariables false
open Go.RowKit

theorem fits_iff (x : Int) (k : Nat) (h0 : 0 ≤ x) : (sh x.toNat k == 0) = decide (x < (2 : Int) ^ k) := by
  have hp : 0 < 2 ^ k := Nat.two_pow_pos k
  rw [Bool.eq_iff_iff, beq_iff_eq, decide_eq_true_iff, ← pow_int]
  unfold sh
  constructor
  · intro h
    rcases Nat.div_eq_zero_iff.1 h with h1 | h1 <;> omega
  · intro h
    exact Nat.div_eq_of_lt (by omega)

/-- Whether all of the first numbers are below a power. -/
def allFit (l : List Int) (k j : Nat) : Bool := (l.take j).all fun x => decide (x < (2 : Int) ^ k)
theorem allFit_succ (l : List Int) (k j : Nat) (h : j < l.length) : allFit l k (j + 1) = (allFit l k j && decide (l.getD j 0 < (2 : Int) ^ k)) := by
  unfold allFit; rw [take_snocD l j h]; simp
theorem allFit_all (l : List Int) (k : Nat) : allFit l k l.length = true ↔ Fit l k := by
  unfold allFit Fit; simp

end Go.Proofs.Ytbgofbajihdjdaa

/- The contract of the document's answer for bits: Pack. -/
import Derived.Test.YtbgofbajihdjdaaF2
namespace Go.Proofs.Ytbgofbajihdjdaa
set_option linter.unusedVariables false
open Go.RowKit

/-- The bits of the first numbers, and some of the next one. -/
def bt (l : List Int) (k j q : Nat) : List Bool := bitsAll (l.take j) k ++ A.bitsOf (l.getD j 0).toNat q
theorem bt_zero (l : List Int) (k j : Nat) : bt l k j 0 = bitsAll (l.take j) k := by simp [bt, A.bitsOf]
theorem bt_next (l : List Int) (k j : Nat) (h : j < l.length) : bt l k (j + 1) 0 = bt l k j k := by
  rw [bt_zero, take_snocD l j h, bitsAll_snoc]; rfl
theorem bt_succ (l : List Int) (k j q : Nat) : bt l k j (q + 1) = bt l k j q ++ [sh (l.getD j 0).toNat q % 2 == 1] := by
  unfold bt; rw [sh_bit, List.append_assoc]
theorem bt_le (l : List Int) (k j q : Nat) (hk : k ≤ 64) (hq : q ≤ k) : (bt l k j q).length ≤ l.length * 64 + 64 := by
  unfold bt
  have := bitsAll_le l k j hk
  rw [List.length_append, A.bitsOf_length]; omega

end Go.Proofs.Ytbgofbajihdjdaa

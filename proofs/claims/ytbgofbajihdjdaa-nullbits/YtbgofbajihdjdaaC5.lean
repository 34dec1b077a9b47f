/- The text of bytes; the statements' own head: 'shown'. -/
import Derived.Test.YtbgofbajihdjdaaC4
import Derived.Laws.BytesArg
namespace Go.Proofs.Ytbgofbajihdjdaa
set_option linter.unusedVariables false
open Go.RowKit

theorem Sl.three (w : World) (t : TypeId) (a b c : Int) : Sl (w.alloc (.cells #[.int .u64 a, .int .u64 b, .int .u64 c] t)) .u64 (some ⟨w.heap.size, 0, none⟩) 3 3 [a, b, c] := by
  refine ⟨rfl, Nat.le_refl _, by decide, by simp, .inr ⟨_, _, rfl, by simp, ?_⟩⟩
  intro i hi
  match i, hi with
  | 0, _ => simp
  | 1, _ => simp
  | 2, _ => simp

theorem bytes_517 : A.bytesOf (bitsAll [5, 1, 7] 3) = [205, 1] := by decide
theorem width_517 : bitLen (orAll [5, 1, 7]) = 3 := by decide
theorem str_517 : strOfNums (ints [205, 1]) = ⟨#[205, 1]⟩ := by decide
theorem fit_517 : Fit [5, 1, 7] 3 := by
  intro x hx
  simp at hx
  rcases hx with rfl | rfl | rfl <;> decide
theorem in_517 : In64 [5, 1, 7] := by
  intro x hx
  simp at hx
  rcases hx with rfl | rfl | rfl <;> decide

end Go.Proofs.Ytbgofbajihdjdaa

/- The walk of the statement: the bytes of two columns one behind the other are those of both. -/
import Derived.Test.YtfggfmcbinhigaaBdQC
import Derived.Test.YtfggfmcbinhigaaBdV
namespace Go.Proofs.Ytfggfmcbinhigaa
set_option linter.unusedVariables false
open Go.RowKit

theorem chk_join {l m : List Z.V} {kind : Int} (hl : l.length ≤ 1000) (hm : m.length ≤ 1000) : Z.chk (l ++ m) kind = 0 ↔ Z.chk l kind = 0 ∧ Z.chk m kind = 0 := by
  constructor
  · intro h
    obtain ⟨h1, h2, h3, h4⟩ := chk_zero h
    exact ⟨chk_of h1 (by omega) (fun x hx => h3 x (List.mem_append_left _ hx)) (fun x hx => h4 x (List.mem_append_left _ hx)), chk_of h1 (by omega) (fun x hx => h3 x (List.mem_append_right _ hx)) (fun x hx => h4 x (List.mem_append_right _ hx))⟩
  · rintro ⟨h, k⟩
    obtain ⟨h1, h2, h3, h4⟩ := chk_zero h
    obtain ⟨k1, k2, k3, k4⟩ := chk_zero k
    refine chk_of h1 (by rw [List.length_append]; omega) (fun x hx => ?_) (fun x hx => ?_)
    · rcases List.mem_append.1 hx with hx | hx
      · exact h3 x hx
      · exact k3 x hx
    · rcases List.mem_append.1 hx with hx | hx
      · exact h4 x hx
      · exact k4 x hx
theorem str_append (a b : List Nat) : strOfNums (ints (a ++ b)) = strOfNums (ints a) ++ strOfNums (ints b) := by
  apply ByteArray.ext
  apply Array.ext'
  rw [strOfNums_data, ByteArray.data_append, Array.toList_append, strOfNums_data, strOfNums_data]
  simp [ints]
theorem own_bareV' (w : World) : OwnV (w.alloc (.cells #[] 47)) w.heap.size (.slice (some ⟨w.heap.size, 0, none⟩) 0 0) [] := World.ownsRow_lit w #[] 0 (Nat.le_refl _) (by decide) rfl

end Go.Proofs.Ytfggfmcbinhigaa

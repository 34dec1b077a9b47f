/- The walk of the statement: values' bytes, whether they may be a column's, and bytes as so many values, are the document's. -/
import Derived.Test.YtfggfmcbinhigaaBdQC
import Derived.Test.YtfggfmcbinhigaaBdR
import Derived.Test.YtfggfmcbinhigaaBdV
namespace Go.Proofs.Ytfggfmcbinhigaa
set_option linter.unusedVariables false
open Go.RowKit

theorem cL_len (b : List Nat) (n kind : Int) : (Z.cL b n kind).length ≤ 4096 := by
  unfold Z.cL
  split
  · rename_i h
    have hn : ¬ (n < 0 ∨ 4096 < n) := by
      intro hn
      unfold Z.cE at h
      split at h
      · exact absurd h (by decide)
      · exact absurd h (by decide)
    rw [pL_length]
    omega
  · simp

end Go.Proofs.Ytfggfmcbinhigaa

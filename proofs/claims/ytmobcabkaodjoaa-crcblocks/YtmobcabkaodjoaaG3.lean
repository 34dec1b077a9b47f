/- The contracts of the reference's Ints, Text, ToInts. -/
import Derived.Test.YtmobcabkaodjoaaE10
import Derived.Test.YtmobcabkaodjoaaG2
namespace Go.Proofs.Ytmobcabkaodjoaa
set_option linter.unusedVariables false
open Go.RowKit

/-- A slice's part. -/
theorem Sl.part {w : World} {k : IntKind} {ao : Option Addr} {len cap : Nat} {l : List Int} (h : Sl w k ao len cap l) (i j : Nat) (hij : i ≤ j) (hj : j ≤ len) : Sl w k (if cap = i then ao else ao.map (·.add (i * 1))) (j - i) (cap - i) ((l.take j).drop i) := by
  obtain ⟨h1, h2, h3, h4, h5⟩ := h
  refine ⟨by rw [List.length_drop, List.length_take, h1, Nat.min_eq_left hj], by omega, by omega, fun e => ?_, ?_⟩
  · by_cases hc : cap = i
    · omega
    · rw [if_neg hc] at e
      cases ao with
      | none => have := h4 rfl; omega
      | some x => simp at e
  · by_cases h0 : j - i = 0
    · exact .inl h0
    · rcases h5 with h5 | ⟨b, off, rfl, hlt, h5⟩
      · omega
      · rw [if_neg (by omega)]
        refine .inr ⟨b, off + i, by simp [Addr.add], hlt, fun t ht => ?_⟩
        rw [Nat.add_assoc, h5 (i + t) (by omega)]
        have : i + t < j := by omega
        simp [List.getD, this]

end Go.Proofs.Ytmobcabkaodjoaa

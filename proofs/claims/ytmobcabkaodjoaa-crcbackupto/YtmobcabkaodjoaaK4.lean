/- Plain facts on blocks that are cut, and asked for fewer bytes; nothing of the program. -/
import Derived.Test.YtmobcabkaodjoaaK2
namespace Go.Proofs.Ytmobcabkaodjoaa.K
set_option linter.unusedVariables false

theorem o_cut (l : List Nat) (hl : l.length < 9223372036854775808) (k : Nat) (hk : k < (block l).length) : oE (l.length : Int) ((block l).take k) = 3 := by
  by_cases h1 : k < (E.leb l.length).length
  · have e : (block l).take k = (E.leb l.length).take k := by
      unfold block; rw [List.take_append_of_le_length (by omega)]
    rw [e]
    have := E.g_cut l.length (by omega) k h1
    rw [oE_bad (by rw [this]; decide), this]
  · have e : (block l).take k = E.leb l.length ++ (l ++ le4 (crc l)).take (k - (E.leb l.length).length) := by
      unfold block
      rw [List.take_append, List.take_of_length_le (by omega)]
    obtain ⟨g1, g2, g3⟩ := E.g_put l.length (by omega) ((l ++ le4 (crc l)).take (k - (E.leb l.length).length))
    rw [← e] at g1 g2 g3
    have hb := block_length l
    refine oE_short g1 (by omega) (by rw [g3]; exact Int.le_refl _) ?_
    rw [g2, g3, List.length_take]
    omega
theorem o_less (l : List Nat) (hl : l.length < 9223372036854775808) : oE ((l.length : Int) - 1) (block l) = 2 := by
  have e : block l = E.leb l.length ++ (l ++ le4 (crc l)) := rfl
  obtain ⟨g1, g2, g3⟩ := E.g_put l.length (by omega) (l ++ le4 (crc l))
  rw [← e] at g1 g2 g3
  exact oE_range g1 (.inr (by rw [g3]; omega))
end Go.Proofs.Ytmobcabkaodjoaa.K

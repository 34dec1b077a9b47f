/- The contracts of the reference's Ints, Text, ToInts. -/
import Derived.Test.YtahpbenobhodnaaE10
import Derived.Test.YtahpbenobhodnaaG2
namespace Go.Proofs.Ytahpbenobhodnaa
set_option linter.unusedVariables false
open Go.RowKit

/-- A slice's part. -/
theorem Sl.part {w : World} {k : IntKind} {ao : Option Addr} {len cap : Nat} {l : List Int} (h : Sl w k ao len cap l) (i j : Nat) (hij : i ≤ j) (hj : j ≤ len) : Sl w k (if cap = i then ao else ao.map (·.add (i * 1))) (j - i) (cap - i) ((l.take j).drop i) := by
  obtain ⟨h1, h2, h3, h4, h5⟩ := h
  refine ⟨by rw [List.length_drop, List.length_take, h1, Nat.min_eq_left hj], by omega, by omega, fun e => ?_, ?_⟩
  · by_cases hc : cap = i
    · omega
    · rw [if_neg hc] at e
      cases ao with
      | none => have := h4 rfl; omega
      | some x => simp at e
  · by_cases h0 : j - i = 0
    · exact .inl h0
    · rcases h5 with h5 | ⟨b, off, rfl, hlt, h5⟩
      · omega
      · rw [if_neg (by omega)]
        refine .inr ⟨b, off + i, by simp [Addr.add], hlt, fun t ht => ?_⟩
        rw [Nat.add_assoc, h5 (i + t) (by omega)]
        have : i + t < j := by omega
        simp [List.getD, this]

/-- The reference's Text. -/
theorem rtext_any (s : ByteArray) (w : World) (hs : s.size + 10 ≤ 140737488355328) :
    Calls Try.prog 28 #[.string s] w fun e w' => ∃ v, e = .returned v ∧ w'.ownsRow w.heap.size 5 1 v (E.leb s.size ++ sb s).length (B8 (E.leb s.size ++ sb s)) ∧ Below w.heap.size w w' := by
  obtain ⟨i0, hi, hz0, hz1, hz2⟩ := info_parts Try.infoU8
  have hl := E.leb_ten s.size (by omega)
  go_enter Try.func28, Try.ntmps28
  go_wp2_with fail
  refine (rput_any _ w (by omega) (by omega)).mono ?_
  rintro e w1 ⟨v1, rfl, ho1, hb1⟩
  rw [Int.toNat_natCast] at ho1
  go_wp2_with (at_builtin; refine Lib.wpList_append_own_string w1 rfl _ _ 24 9 rfl w.heap.size 5 i0 Try.underlying24 Try.underlying9 hi hz0 hz1 hz2 _ _ _ rfl ho1 s rfl ?c1 ?c2 ?c3 ?_)
  case c1 => unfold maxLen; omega
  case c2 => omega
  case c3 => exact hb1.size
  intro v2 w2 ho2 hg2 _
  go_wp2
  go_ret
  refine ⟨v2, rfl, ?_, hb1.trans ?_⟩
  · rw [B8_append, List.length_append, sb_length, ← strCells_sb]; exact ho2
  · exact (((Kept.refl (fun k => w.heap.size ≤ k) w1).grown hg2 (fun k hk => .inl (owns_lt ho1 hk).1))).below hb1.size (fun k hk => hk)
end Go.Proofs.Ytahpbenobhodnaa

/- The contracts of the reference's Ints, Text, ToInts. -/
import Derived.Test.YtnkpghoijdcohaaE10
import Derived.Test.YtnkpghoijdcohaaG2
namespace Go.Proofs.Ytnkpghoijdcohaa
set_option linter.unusedVariables false
open Go.RowKit

/-- A slice's part. -/
theorem Sl.part {w : World} {k : IntKind} {ao : Option Addr} {len cap : Nat} {l : List Int} (h : Sl w k ao len cap l) (i j : Nat) (hij : i ≤ j) (hj : j ≤ len) : Sl w k (if cap = i then ao else ao.map (·.add (i * 1))) (j - i) (cap - i) ((l.take j).drop i) := by
  obtain ⟨h1, h2, h3, h4, h5⟩ := h
  refine ⟨by rw [List.length_drop, List.length_take, h1, Nat.min_eq_left hj], by omega, by omega, fun e => ?_, ?_⟩
  · by_cases hc : cap = i
    · omega
    · rw [if_neg hc] at e
      cases ao with
      | none => have := h4 rfl; omega
      | some x => simp at e
  · by_cases h0 : j - i = 0
    · exact .inl h0
    · rcases h5 with h5 | ⟨b, off, rfl, hlt, h5⟩
      · omega
      · rw [if_neg (by omega)]
        refine .inr ⟨b, off + i, by simp [Addr.add], hlt, fun t ht => ?_⟩
        rw [Nat.add_assoc, h5 (i + t) (by omega)]
        have : i + t < j := by omega
        simp [List.getD, this]

set_option maxHeartbeats 400000 in
theorem rints_zero (ao : Option Addr) (cap : Nat) (w : World) :
    Calls Try.prog 24 #[.slice ao 0 cap] w fun e w' => e = .returned (.slice none 0 0) ∧ w' = w := by
  go_enter Try.func24, Try.ntmps24
  go_wp2_with fail
  go_loopw [3, 4] (fun b i wr => b = .slice none 0 0 ∧ i = .int .i64 0 ∧ wr = w) (fun _ _ _ => 0)
  case atStart => exact ⟨rfl, rfl, rfl⟩
  case round =>
    obtain ⟨rfl, rfl, rfl⟩ := hrel
    go_wp2
    go_ret
    exact ⟨rfl, rfl⟩

set_option maxHeartbeats 400000 in
theorem rints_some (b off len cap : Nat) (l : List Int) (w : World) (hl : l.length = len) (hm : len ≤ 8796093022208) (hb : b < w.heap.size) (hc : ∀ i, i < len → w.cell? ⟨b, off + i, none⟩ = some (.int .i64 (l.getD i 0))) (hin : E.In l) :
    Calls Try.prog 24 #[.slice (some ⟨b, off, none⟩) len cap] w fun e w' => ∃ v, e = .returned v ∧ w'.ownsRow w.heap.size 5 1 v (E.lebs l).length (B8 (E.lebs l)) ∧ Below w.heap.size w w' := by
  obtain ⟨i0, hi, hi0, hi1, hi2⟩ := info_parts Try.infoU8
  have HI := hide hin
  have HL := hide hl
  clear hin hl
  go_enter Try.func24, Try.ntmps24
  go_wp2_with fail
  go_loopw [3, 4] (fun v i wr => ∃ j : Nat, j ≤ len ∧ i = .int .i64 j ∧ wr.ownsRow w.heap.size 5 1 v (E.lebs (l.take j)).length (B8 (E.lebs (l.take j))) ∧ Below w.heap.size w wr) (fun _ i _ => len - (intOf i).toNat)
  case atStart => exact ⟨0, Nat.zero_le _, rfl, World.ownsRow_nil _ _ _ _, Below.refl _ _⟩
  case round =>
    obtain ⟨j, hj, rfl, hown, hbel⟩ := hrel
    have hsz := hbel.size
    by_cases hlt : j < len
    · have hck : wr.cell? ⟨b, off + j, none⟩ = some (.int .i64 (l.getD j 0)) := by rw [hbel.cell (p := ⟨b, off + j, none⟩) hb]; exact hc j hlt
      obtain ⟨h0, h1⟩ := In_getD HI.out j
      have HT := hide (take_snocI l j (by have := HL.out; omega))
      have hll := lebs_take_le l HI.out j
      rw [HL.out] at hll
      have hz0 := E.zig_lt _ h0 h1
      have hz10 := E.leb_ten _ hz0
      obtain ⟨x, hx⟩ : ∃ x, l.getD j 0 = x := ⟨_, rfl⟩
      rw [hx] at hck h0 h1 HT hz0 hz10
      have HO := hide hown
      have HB := hide hbel
      clear hc hown hbel hx
      go_wp2_with (go_at_call 16; refine (rzig_any _ _ h0 h1).mono ?_; rintro e w' ⟨rfl, rfl⟩)
      refine (rput_any _ _ (by omega) (by omega)).mono ?_
      rintro e w2 ⟨v2, rfl, ho2, hb2⟩
      rw [Int.toNat_natCast] at ho2
      obtain ⟨a2, c2, hv2, hs2, _⟩ := Sl.of_bytes ho2
      have hown2 := owns_of_block (w' := w2) HO.out (fun g hg => hb2.block g (owns_lt HO.out hg).2)
      have hs2' := hb2.size
      have HS2 := hide hs2
      have HB2 := hide (HB.out.trans (hb2.mono hsz))
      obtain ⟨k2, hk2⟩ : ∃ k, (E.leb (E.zig x)).length = k := ⟨_, rfl⟩
      rw [hk2] at hv2 HS2 hz10
      have HK2 := hide hk2
      clear ho2 hb2 hs2 hz0 hk2
      subst hv2
      go_wp2_with (at_builtin; refine wpList_append_to rfl (.tmp 11) (.tmp 17) 23 rfl w.heap.size 5 i0 (.int .u8 0) 1 1 Try.underlying23 hi hi0 hi1 hi2 rfl (by decide) _ _ _ rfl hown2 a2 k2 c2 ((ints (E.leb (E.zig x))).map (Value.int .u8)) rfl ?c0 (by simpa using HS2.out.1) HS2.out.news (ints_oneCell _ _) (by unfold maxLen; omega) (by omega) (by omega) ?_)
      case c0 => intro e; have := HS2.out.2.2.2.1 e; have := HS2.out.2.1; omega
      intro v3 w3 ho3 has3
      have HB3 := hide (HB2.out.trans (has3.below HB2.out.size (fun k hk => (owns_lt hown2 hk).1)))
      have HO3 := hide ho3
      clear ho3 has3
      go_wp2
      go_roundw
      case rel => exact ⟨j + 1, hlt, by go_num, by rw [HT.out, E.lebs_snoc, List.length_append, B8_append, B8_ints (E.leb _), HK2.out]; exact HO3.out, HB3.out⟩
      case measure => simp [intOf]; omega
    · have hjl : j = len := by omega
      subst hjl
      rw [List.take_of_length_le (by have := HL.out; omega)] at hown
      clear hc
      go_wp2
      go_ret
      exact ⟨_, rfl, hown, hbel⟩

/-- The reference's Ints. -/
theorem rints_any (ao : Option Addr) (len cap : Nat) (l : List Int) (w : World) (h : Sl w .i64 ao len cap l) (hm : len ≤ 8796093022208) (hin : E.In l) :
    Calls Try.prog 24 #[.slice ao len cap] w fun e w' => ∃ v, e = .returned v ∧ w'.ownsRow w.heap.size 5 1 v (E.lebs l).length (B8 (E.lebs l)) ∧ Below w.heap.size w w' := by
  obtain ⟨h1, h2, h3, h4, h5⟩ := h
  by_cases h0 : len = 0
  · subst h0
    obtain rfl : l = [] := List.eq_nil_of_length_eq_zero h1
    refine (rints_zero ao cap w).mono ?_
    rintro e w' ⟨rfl, rfl⟩
    exact ⟨_, rfl, World.ownsRow_nil _ _ _ _, Below.refl _ _⟩
  · rcases h5 with h5 | ⟨b, off, rfl, hlt, h5⟩
    · omega
    · exact rints_some b off len cap l w h1 hm hlt h5 hin

/-- The reference's Text. -/
theorem rtext_any (s : ByteArray) (w : World) (hs : s.size + 10 ≤ 140737488355328) :
    Calls Try.prog 26 #[.string s] w fun e w' => ∃ v, e = .returned v ∧ w'.ownsRow w.heap.size 5 1 v (E.leb s.size ++ sb s).length (B8 (E.leb s.size ++ sb s)) ∧ Below w.heap.size w w' := by
  obtain ⟨i0, hi, hz0, hz1, hz2⟩ := info_parts Try.infoU8
  have hl := E.leb_ten s.size (by omega)
  go_enter Try.func26, Try.ntmps26
  go_wp2_with fail
  refine (rput_any _ w (by omega) (by omega)).mono ?_
  rintro e w1 ⟨v1, rfl, ho1, hb1⟩
  rw [Int.toNat_natCast] at ho1
  go_wp2_with (at_builtin; refine Lib.wpList_append_own_string w1 rfl _ _ 23 9 rfl w.heap.size 5 i0 Try.underlying23 Try.underlying9 hi hz0 hz1 hz2 _ _ _ rfl ho1 s rfl ?c1 ?c2 ?c3 ?_)
  case c1 => unfold maxLen; omega
  case c2 => omega
  case c3 => exact hb1.size
  intro v2 w2 ho2 hg2 _
  go_wp2
  go_ret
  refine ⟨v2, rfl, ?_, hb1.trans ?_⟩
  · rw [B8_append, List.length_append, sb_length, ← strCells_sb]; exact ho2
  · exact (((Kept.refl (fun k => w.heap.size ≤ k) w1).grown hg2 (fun k hk => .inl (owns_lt ho1 hk).1))).below hb1.size (fun k hk => hk)
end Go.Proofs.Ytnkpghoijdcohaa

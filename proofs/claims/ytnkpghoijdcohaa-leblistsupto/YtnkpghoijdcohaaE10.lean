/- The contracts of Ints, Text; the reference's Same; the statements' own head: 'shown'. -/
import Derived.Test.YtnkpghoijdcohaaE8
import Derived.Test.YtnkpghoijdcohaaE9
import Derived.Lib.SlBytesConst
namespace Go.Proofs.Ytnkpghoijdcohaa
set_option linter.unusedVariables false
open Go.RowKit

theorem take_snocI (l : List Int) (k : Nat) (h : k < l.length) : l.take (k + 1) = l.take k ++ [l.getD k 0] := by
  rw [List.take_succ_eq_append_getElem h]; simp [List.getD, h]
theorem In_getD {l : List Int} (h : E.In l) (j : Nat) : -9223372036854775808 ≤ l.getD j 0 ∧ l.getD j 0 < 9223372036854775808 := by
  by_cases hj : j < l.length
  · have : l.getD j 0 = l[j] := by simp [List.getD, hj]
    rw [this]; exact h _ (List.getElem_mem hj)
  · simp [List.getD, hj]
theorem In_take {l : List Int} (h : E.In l) (j : Nat) : E.In (l.take j) := fun x hx => h x (List.mem_of_mem_take hx)
theorem lebs_take_le (l : List Int) (h : E.In l) (j : Nat) : (E.lebs (l.take j)).length ≤ 10 * l.length := by
  have h1 := E.lebs_le (l.take j) (In_take h j)
  have h2 : (l.take j).length ≤ l.length := by simp; omega
  omega

set_option maxHeartbeats 400000 in
theorem ints_zero (ao : Option Addr) (cap : Nat) (w : World) :
    Calls Try.prog 23 #[.slice ao 0 cap] w fun e w' => e = .returned (.slice none 0 0) ∧ w' = w := by
  go_enter Try.func23, Try.ntmps23
  go_wp2_with fail
  go_loopw [3, 8] (fun b i wr => b = .slice none 0 0 ∧ i = .int .i64 0 ∧ wr = w) (fun _ _ _ => 0)
  case atStart => exact ⟨rfl, rfl, rfl⟩
  case round =>
    obtain ⟨rfl, rfl, rfl⟩ := hrel
    go_wp2
    go_ret
    exact ⟨rfl, rfl⟩

set_option maxHeartbeats 400000 in
theorem ints_some (b off len cap : Nat) (l : List Int) (w : World) (hl : l.length = len) (hm : len ≤ 8796093022208) (hb : b < w.heap.size) (hc : ∀ i, i < len → w.cell? ⟨b, off + i, none⟩ = some (.int .i64 (l.getD i 0))) (hin : E.In l) :
    Calls Try.prog 23 #[.slice (some ⟨b, off, none⟩) len cap] w fun e w' => ∃ v, e = .returned v ∧ w'.ownsRow w.heap.size 5 1 v (E.lebs l).length (B8 (E.lebs l)) ∧ Below w.heap.size w w' := by
  have HI := hide hin
  have HL := hide hl
  clear hin hl
  go_enter Try.func23, Try.ntmps23
  go_wp2_with fail
  go_loopw [3, 8] (fun v i wr => ∃ j : Nat, j ≤ len ∧ i = .int .i64 j ∧ wr.ownsRow w.heap.size 5 1 v (E.lebs (l.take j)).length (B8 (E.lebs (l.take j))) ∧ Below w.heap.size w wr) (fun _ i _ => len - (intOf i).toNat)
  case atStart => exact ⟨0, Nat.zero_le _, rfl, World.ownsRow_nil _ _ _ _, Below.refl _ _⟩
  case round =>
    obtain ⟨j, hj, rfl, hown, hbel⟩ := hrel
    have hsz := hbel.size
    by_cases hlt : j < len
    · have hck : wr.cell? ⟨b, off + j, none⟩ = some (.int .i64 (l.getD j 0)) := by rw [hbel.cell (p := ⟨b, off + j, none⟩) hb]; exact hc j hlt
      obtain ⟨h0, h1⟩ := In_getD HI.out j
      have HT := hide (take_snocI l j (by have := HL.out; omega))
      have hll := lebs_take_le l HI.out j
      rw [HL.out] at hll
      have hz0 := E.zig_lt _ h0 h1
      obtain ⟨x, hx⟩ : ∃ x, l.getD j 0 = x := ⟨_, rfl⟩
      rw [hx] at hck h0 h1 HT hz0
      have HO := hide hown
      have HB := hide hbel
      clear hc hown hbel hx
      go_wp2_with (go_at_call 15; refine (zig_any _ _ h0 h1).mono ?_; rintro e w' ⟨rfl, rfl⟩)
      refine (put_in w.heap.size _ _ _ _ HO.out (by omega) hsz (by omega) (by omega)).mono ?_
      rintro e w2 ⟨v2, rfl, ho2, has2⟩
      rw [Int.toNat_natCast] at ho2
      have HO2 := hide ho2
      have HB2 := hide (HB.out.trans (has2.below hsz (fun k hk => (owns_lt HO.out hk).1)))
      clear ho2 has2 hz0
      go_wp2
      go_roundw
      case rel => exact ⟨j + 1, hlt, by go_num, by rw [HT.out, E.lebs_snoc]; exact HO2.out, HB2.out⟩
      case measure => simp [intOf]; omega
    · have hjl : j = len := by omega
      subst hjl
      rw [List.take_of_length_le (by have := HL.out; omega)] at hown
      clear hc
      go_wp2
      go_ret
      exact ⟨_, rfl, hown, hbel⟩

/-- Ints. -/
theorem ints_any (ao : Option Addr) (len cap : Nat) (l : List Int) (w : World) (h : Sl w .i64 ao len cap l) (hm : len ≤ 8796093022208) (hin : E.In l) :
    Calls Try.prog 23 #[.slice ao len cap] w fun e w' => ∃ v, e = .returned v ∧ w'.ownsRow w.heap.size 5 1 v (E.lebs l).length (B8 (E.lebs l)) ∧ Below w.heap.size w w' := by
  obtain ⟨h1, h2, h3, h4, h5⟩ := h
  by_cases h0 : len = 0
  · subst h0
    obtain rfl : l = [] := List.eq_nil_of_length_eq_zero h1
    refine (ints_zero ao cap w).mono ?_
    rintro e w' ⟨rfl, rfl⟩
    exact ⟨_, rfl, World.ownsRow_nil _ _ _ _, Below.refl _ _⟩
  · rcases h5 with h5 | ⟨b, off, rfl, hlt, h5⟩
    · omega
    · exact ints_some b off len cap l w h1 hm hlt h5 hin

/-- A text's bytes. -/
def sb (s : ByteArray) : List Nat := s.data.toList.map UInt8.toNat
theorem sb_length (s : ByteArray) : (sb s).length = s.size := by simp [sb]
theorem sb_lt (s : ByteArray) : ∀ x ∈ sb s, x < 256 := by
  intro x hx
  obtain ⟨y, _, rfl⟩ := List.mem_map.1 hx
  exact y.toNat_lt
theorem strCells_sb (s : ByteArray) : Lib.strCells s = B8 (sb s) := by
  simp [Lib.strCells, B8, sb]

/-- Text. -/
theorem text_any (s : ByteArray) (w : World) (hs : s.size + 10 ≤ 140737488355328) :
    Calls Try.prog 25 #[.string s] w fun e w' => ∃ v, e = .returned v ∧ w'.ownsRow w.heap.size 5 1 v (E.leb s.size ++ sb s).length (B8 (E.leb s.size ++ sb s)) ∧ Below w.heap.size w w' := by
  obtain ⟨i0, hi, hz0, hz1, hz2⟩ := info_parts Try.infoU8
  have hl := E.leb_ten s.size (by omega)
  go_enter Try.func25, Try.ntmps25
  go_wp2_with fail
  refine (put_any _ w (by omega) (by omega)).mono ?_
  rintro e w1 ⟨v1, rfl, ho1, hb1⟩
  rw [Int.toNat_natCast] at ho1
  go_wp2_with (at_builtin; refine Lib.wpList_append_own_string w1 rfl _ _ 23 9 rfl w.heap.size 5 i0 Try.underlying23 Try.underlying9 hi hz0 hz1 hz2 _ _ _ rfl ho1 s rfl ?c1 ?c2 ?c3 ?_)
  case c1 => unfold maxLen; omega
  case c2 => omega
  case c3 => exact hb1.size
  intro v2 w2 ho2 hg2 _
  go_wp2
  go_ret
  refine ⟨v2, rfl, ?_, hb1.trans ?_⟩
  · rw [B8_append, List.length_append, sb_length, ← strCells_sb]; exact ho2
  · exact (((Kept.refl (fun k => w.heap.size ≤ k) w1).grown hg2 (fun k hk => .inl (owns_lt ho1 hk).1))).below hb1.size (fun k hk => hk)
set_option maxHeartbeats 400000 in
theorem same_none (ao bo : Option Addr) (ca cb : Nat) (w : World) :
    Calls Try.prog 27 #[.slice ao 0 ca, .slice bo 0 cb] w fun e w' => e = .returned (.bool true) ∧ Kept (fun _ => False) w w' := by
  go_enter Try.func27, Try.ntmps27
  go_wp2_with fail
  go_loopw [5] (fun i wr => i = .int .i64 0 ∧ wr = w) (fun _ _ => 0)
  case atStart => exact ⟨rfl, rfl⟩
  case round =>
    obtain ⟨rfl, rfl⟩ := hrel
    go_wp2
    go_ret
    exact ⟨rfl, Kept.refl _ _⟩

set_option maxHeartbeats 400000 in
theorem same_some (b1 o1 b2 o2 len ca cb : Nat) (l : List Int) (w : World) (hm : len ≤ 140737488355328) (h1 : b1 < w.heap.size) (h2 : b2 < w.heap.size) (hc1 : ∀ i, i < len → w.cell? ⟨b1, o1 + i, none⟩ = some (.int .i64 (l.getD i 0))) (hc2 : ∀ i, i < len → w.cell? ⟨b2, o2 + i, none⟩ = some (.int .i64 (l.getD i 0))) :
    Calls Try.prog 27 #[.slice (some ⟨b1, o1, none⟩) len ca, .slice (some ⟨b2, o2, none⟩) len cb] w fun e w' => e = .returned (.bool true) ∧ Kept (fun _ => False) w w' := by
  have hb : ((len : Int) != (len : Int)) = false := by simp
  go_enter Try.func27, Try.ntmps27
  go_wp2_with fail
  go_loopw [5] (fun i wr => ∃ k : Nat, k ≤ len ∧ i = .int .i64 k ∧ Kept (fun _ => False) w wr) (fun i _ => len - (intOf i).toNat)
  case atStart => exact ⟨0, Nat.zero_le _, rfl, Kept.refl _ _⟩
  case round =>
    obtain ⟨k, hk, rfl, hkr⟩ := hrel
    by_cases hlt : k < len
    · have e1 : wr.cell? ⟨b1, o1 + k, none⟩ = some (.int .i64 (l.getD k 0)) := by rw [hkr.cell (p := ⟨b1, o1 + k, none⟩) h1 (by simp)]; exact hc1 k hlt
      have e2 : wr.cell? ⟨b2, o2 + k, none⟩ = some (.int .i64 (l.getD k 0)) := by rw [hkr.cell (p := ⟨b2, o2 + k, none⟩) h2 (by simp)]; exact hc2 k hlt
      obtain ⟨x, hxe⟩ : ∃ x, l.getD k 0 = x := ⟨_, rfl⟩
      rw [hxe] at e1 e2
      have hx : (x != x) = false := by simp
      clear hc1 hc2 hxe
      go_wp2
      go_region
      all_goals go_wp2
      all_goals
        go_roundw
        case rel => exact ⟨k + 1, by omega, by go_num, hkr.drew⟩
        case measure => simp [intOf]; omega
    · clear hc1 hc2
      go_wp2
      go_ret
      exact ⟨rfl, hkr⟩

/-- The reference's Same, of two lists that are the same. -/
theorem same_yes (ao bo : Option Addr) (len ca cb : Nat) (l : List Int) (w : World) (h1 : Sl w .i64 ao len ca l) (h2 : Sl w .i64 bo len cb l) (hm : len ≤ 140737488355328) :
    Calls Try.prog 27 #[.slice ao len ca, .slice bo len cb] w fun e w' => e = .returned (.bool true) ∧ Kept (fun _ => False) w w' := by
  by_cases h0 : len = 0
  · subst h0; exact same_none ao bo ca cb w
  · rcases h1.2.2.2.2 with h | ⟨b1, o1, rfl, hb1, hc1⟩
    · omega
    · rcases h2.2.2.2.2 with h | ⟨b2, o2, rfl, hb2, hc2⟩
      · omega
      · exact same_some b1 o1 b2 o2 len ca cb l w hm hb1 hb2 hc1 hc2

theorem Sl.four (w : World) (t : TypeId) (fr : Nat × Nat) (a b c d : Int) : Sl (w.alloc (.cells #[.int .u8 a, .int .u8 b, .int .u8 c, .int .u8 d] t fr)) .u8 (some ⟨w.heap.size, 0, none⟩) 4 4 [a, b, c, d] := by
  have hb := heap_alloc_new w (.cells #[.int .u8 a, .int .u8 b, .int .u8 c, .int .u8 d] t fr)
  refine ⟨rfl, Nat.le_refl _, by decide, by simp, .inr ⟨_, _, rfl, by simp, ?_⟩⟩
  intro i hi
  generalize w.alloc (.cells #[.int .u8 a, .int .u8 b, .int .u8 c, .int .u8 d] t fr) = w' at hb
  match i, hi with
  | 0, _ => simp [World.cell?, hb]
  | 1, _ => simp [World.cell?, hb]
  | 2, _ => simp [World.cell?, hb]
  | 3, _ => simp [World.cell?, hb]
theorem leb_300 : E.leb 300 = [172, 2] := by rw [E.leb_big _ (by omega), E.leb_small _ (by omega)]
theorem str_300 : strOfNums (ints [172, 2]) = ⟨#[172, 2]⟩ := by decide
theorem xE_abc : E.xE 9 [2, 97, 98, 99] = 0 := by decide
theorem yS_abc : strOfNums (ints (E.yS 9 [2, 97, 98, 99])) = ⟨#[97, 98]⟩ := by decide
theorem yR_abc : E.yR 9 [2, 97, 98, 99] = [99] := by decide
theorem str_99 : strOfNums (ints [99]) = ⟨#[99]⟩ := by decide
theorem zig_1 : E.zig (-1) = 1 := by decide

set_option maxHeartbeats 400000 in
/-- The examples of the document, as the statements ask them. -/
theorem shown_any (w : World) : Calls Try.prog 10 #[] w fun e w' => e = .returned (.bool true) ∧ Below w.heap.size w w' := by
  have kc := fun (w : World) (C : Array Value) (n c : Nat) => Lib.run_convert_bytes_const (P := Try.prog) w 23 5 C n c Try.underlying23 Try.underlying5
  go_enter Try.func10, Try.ntmps10
  go_wp2_with fail
  refine (totext_any _ _ _ [2, 97, 98, 99] 9 _ (Sl.four w _ _ _ _ _ _) (by decide) (by omega) (by omega) (by omega)).mono ?_
  rintro e w1 ⟨v1, v2, rfl, ⟨rfl, a2, c2, rfl, hs2⟩, hb1⟩
  rw [yR_abc] at hs2
  rw [xE_abc, yS_abc, yR_abc]
  have HB1 := hide (((Below.refl w.heap.size w).alloc (Nat.le_refl _) _).trans (hb1.mono (by simp)))
  have HS2 := hide hs2
  clear hb1 hs2
  go_wp2_with fail
  refine (put_any 300 _ (by omega) (by omega)).mono ?_
  rintro e w2 ⟨v3, rfl, ho3, hb3⟩
  rw [show (300 : Int).toNat = 300 from rfl, leb_300] at ho3
  obtain ⟨ao, cap, hv, hsl, _⟩ := Sl.of_bytes ho3
  have hcv1 : (convert 23 9 (.slice ao 2 cap)).run Try.prog w2 = .ok (.string ⟨#[172, 2]⟩) w2 := by
    have h := str_of hsl
    rw [str_300] at h
    exact h
  have hcv2 : (convert 23 9 (.slice a2 1 c2)).run Try.prog w2 = .ok (.string ⟨#[99]⟩) w2 := by
    have h := str_of (HS2.out.below hb3)
    rw [str_99] at h
    exact h
  have HB3 := hide (HB1.out.trans (hb3.mono HB1.out.size))
  clear hb3 ho3 hsl
  subst hv
  have hz1 : ((E.zig (-1) : Nat) : Int) = 1 := by rw [zig_1]; rfl
  go_wp2_with (go_at_call 15; refine (zig_any _ _ (by omega) (by omega)).mono ?_; rintro e w' ⟨rfl, rfl⟩)
  go_ret
  exact ⟨rfl, HB3.out⟩
end Go.Proofs.Ytnkpghoijdcohaa

/- The walk of the statement on widths. -/
import Derived.Test.YtjhcfbofjnmeiaaM
import Derived.Test.YtjhcfbofjnmeiaaR
namespace Go.Proofs.Ytjhcfbofjnmeiaa
set_option linter.unusedVariables false
open Go.RowKit
/-- The first halves, as cells. -/
def halves (l : List Int) (k : Nat) : List Value := ((l.map (· / 2)).take k).map (Value.int .u64)

set_option maxHeartbeats 1000000 in
theorem bitsWidths_walk (w : World) (a : Option Addr) (len cap : Nat) (l : List Int) (c : Came .u64 w a len cap l) (hr : cap * 8 ≤ 140737488351232) (n : Int) (w1 : (Lit.int .u64 n).wf = true) :
    Calls Try.prog 9 #[.slice a len cap, .int .u64 n] w fun e w' => e = .returned (.bool true) ∧ Below w.heap.size w w' := by
  obtain ⟨hsl, hwf⟩ := c
  have hin : In64 l := fun x hx => wf_u64 (hwf x hx)
  obtain ⟨hn0, hn1⟩ := wf_u64 w1
  obtain ⟨i0, hi, hz0, hz1, hz2⟩ := info_parts Try.infoU64
  have hlc := hsl.2.1
  have HSL := hide hsl
  have HIN := hide hin
  clear hwf w1 hsl hin
  go_enter Try.func9, Try.ntmps9
  go_wp2_with fail
  refine (shown_any w).mono ?_
  rintro e w2 ⟨rfl, hb⟩
  have hs := hb.size
  go_wp2_with (at_builtin; refine wpList_append_to rfl (.tmp 10) (.tmp 11) 48 rfl w.heap.size 32 i0 (.int .u64 0) 1 8 Try.underlying48 hi hz0 hz1 hz2 rfl (by decide) _ 0 [] rfl (World.ownsRow_lit w2 #[] 0 hs (by decide) rfl) a len cap (l.map (Value.int .u64)) rfl ?c0 ?c6 ?c1 ?c2 ?c3 ?c4 ?c5 ?_)
  case c0 => intro h; have := HSL.out.2.2.2.1 h; omega
  case c6 => simpa using HSL.out.1
  case c1 => exact (HSL.out.below (hb.alloc hs _)).news
  case c2 => exact ints_oneCell _ _
  case c3 => unfold maxLen; omega
  case c4 => omega
  case c5 => simp; omega
  intro v1 w3 ho1 has1
  have hb3 : Below w.heap.size w w3 := (hb.alloc hs _).trans (has1.below (by simp; omega) (by simp [Value.ownBlock]; omega))
  have hs3 := hb3.size
  clear has1 hb hs
  go_wp2_with (at_builtin; refine wpList_append_to rfl (.tmp 12) (.tmp 14) 48 rfl w.heap.size 32 i0 (.int .u64 0) 1 8 Try.underlying48 hi hz0 hz1 hz2 rfl (by decide) _ _ _ rfl (ho1.alloc _) (some ⟨w3.heap.size, 0, none⟩) 1 1 [.int .u64 n] rfl (by simp) rfl (Sl.news1 _ _) (one_oneCell _ _) (by unfold maxLen; omega) (by omega) (by simp; omega) ?_)
  intro v2 w4 ho2 has2
  have hb4 : Below w.heap.size w w4 := (hb3.alloc hs3 _).trans (has2.below (by simp; omega) (fun k hk => (owns_lt ho1 hk).1))
  have hs4 := hb4.size
  have hll := HSL.out.1
  obtain ⟨ao2, cap2, hv2, hsl2, _⟩ := Sl.of_owns (l := l ++ [n]) (k := .u64) (by simpa [hll] using ho2)
  have hl2 : (l ++ [n]).length = len + 1 := by simp [hll]
  rw [hl2] at hv2 hsl2
  have HS2 := hide hsl2
  clear has2 hb3 hs3 ho1 ho2 hsl2 hll hl2
  subst hv2
  go_wp2_with fail
  refine (width_w _ _ _ _ _ HS2.out (by omega) (HIN.out.snoc hn0 hn1)).mono ?_
  rintro e w5 ⟨rfl, rfl⟩
  go_wp2_with fail
  go_loopw [7, 8] (fun v i wr => ∃ k : Nat, k ≤ len ∧ i = .int .i64 k ∧ wr.ownsRow w.heap.size 32 1 v k (halves l k) ∧ Below w.heap.size w wr) (fun _ i _ => len - (intOf i).toNat)
  case atStart => exact ⟨0, Nat.zero_le _, rfl, World.ownsRow_nil _ _ _ _, hb4⟩
  case round =>
    obtain ⟨k, hk, rfl, hown, hbr⟩ := hrel
    have hsr := hbr.size
    by_cases hlt : k < len
    · obtain ⟨b, off, hao, hblt, hc⟩ : ∃ b off, a = some ⟨b, off, none⟩ ∧ b < w.heap.size ∧ ∀ i, i < len → w.cell? ⟨b, off + i, none⟩ = some (.int .u64 (l.getD i 0)) := by
        rcases HSL.out.2.2.2.2 with h | h
        · omega
        · exact h
      have hck : wr.cell? ⟨b, off + k, none⟩ = some (.int .u64 (l.getD k 0)) := by rw [hbr.cell (p := ⟨b, off + k, none⟩) hblt]; exact hc k hlt
      obtain ⟨h0, h1⟩ := HIN.out.getD k
      have HT : Hid (halves l (k + 1) = halves l k ++ [.int .u64 (l.getD k 0 / 2)]) := by
        have h := HSL.out.1
        show halves l (k + 1) = halves l k ++ [.int .u64 (l.getD k 0 / 2)]
        unfold halves
        rw [take_snocD _ k (by simp; omega)]
        simp [List.getD, show k < l.length by omega]
      obtain ⟨x, hxe⟩ : ∃ x, l.getD k 0 = x := ⟨_, rfl⟩
      rw [hxe] at hck h0 h1 HT
      clear hc hxe
      subst hao
      go_wp2_with (at_builtin; refine wpList_append_to rfl (.tmp 23) (.tmp 29) 48 rfl w.heap.size 32 i0 (.int .u64 0) 1 8 Try.underlying48 hi hz0 hz1 hz2 rfl (by decide) _ _ _ rfl (hown.alloc _) (some ⟨wr.heap.size, 0, none⟩) 1 1 [.int .u64 (x / 2)] rfl (by simp) rfl (Sl.news1 _ _) (one_oneCell _ _) (by unfold maxLen; omega) (by omega) (by simp; omega) ?_)
      intro v' w' hown' has'
      have hbn : Below w.heap.size w w' := (hbr.alloc hsr _).trans (has'.below (by simp; omega) (fun k hk => (owns_lt hown hk).1))
      clear has'
      go_wp2
      go_roundw
      case rel => exact ⟨k + 1, by omega, by go_num, by rw [HT.out]; exact hown', hbn⟩
      case measure => simp [intOf]; omega
    · have hkl : k = len := by omega
      subst hkl
      have hlh : (l.map (· / 2)).length = k := by rw [List.length_map]; exact HSL.out.1
      obtain ⟨ao3, cap3, hv3, hsl3, _⟩ := Sl.of_owns (l := l.map (· / 2)) (k := .u64) (by
        have h := hown
        unfold halves at h
        rw [List.take_of_length_le (by omega)] at h
        rw [hlh]; exact h)
      rw [hlh] at hv3 hsl3
      have HS3 := hide hsl3
      have hslr := HSL.out.below hbr
      have HSR := hide hslr
      have HHF := hide (wid_half l HIN.out)
      have HSN := hide (wid_snoc l n)
      have hwl := wid_le _ (HIN.out.snoc hn0 hn1)
      have hwl0 := wid_le _ HIN.out
      clear hlh hsl3 hown hslr
      subst hv3
      have HBB := hide (hbr.alloc hsr (.cells #[.int .u64 n] 32))
      have hbb := (Below.refl wr.heap.size wr).alloc (Nat.le_refl _) (.cells #[.int .u64 n] 32)
      have HSA := hide (HSR.out.below hbb)
      have HSB := hide (HS3.out.below hbb)
      have HS1 := hide (Sl.one wr 32 .u64 n)
      clear hbb hbr hb4
      have hC : wid (l ++ [n]) = max (wid l) (wid [n]) := HSN.out
      have hD : wid (l.map (· / 2)) = wid l - 1 := HHF.out
      rcases (show (wid l < wid [n] ∧ wid (l ++ [n]) = wid [n]) ∨ (wid [n] ≤ wid l ∧ wid (l ++ [n]) = wid l) by omega) with ⟨m1, m2⟩ | ⟨m1, m2⟩
      all_goals
        rcases (show (wid l = 0 ∧ wid (l.map (· / 2)) = 0) ∨ (1 ≤ wid l ∧ wid (l.map (· / 2)) = wid l - 1) by omega) with ⟨m3, m4⟩ | ⟨m3, m4⟩
        all_goals
          have M2 := hide m2
          have M4 := hide m4
          clear hC hD
          go_wp2_with fail
          refine (width_w _ _ _ _ _ HSR.out (by omega) HIN.out).mono ?_
          rintro e w6 ⟨rfl, rfl⟩
          go_wp2_with fail
          refine (width_w _ _ _ _ _ HS1.out (by omega) (fun x hx => by simp only [List.mem_singleton] at hx; subst hx; exact ⟨hn0, hn1⟩)).mono ?_
          rintro e w7 ⟨rfl, rfl⟩
          go_wp2_with fail
          refine (width_w _ _ _ _ _ HSB.out (by omega) HIN.out.half).mono ?_
          rintro e w8 ⟨rfl, rfl⟩
          go_wp2_with fail
          refine (width_w _ _ _ _ _ HSA.out (by omega) HIN.out).mono ?_
          rintro e w9 ⟨rfl, rfl⟩
          go_wp2
          go_ret
          refine ⟨?_, HBB.out⟩
          first
            | rfl
            | exact congrArg (fun b => Ending.returned (Value.bool b)) (decide_eq_true (by omega))
end Go.Proofs.Ytjhcfbofjnmeiaa

/- A set of some numbers, a set of all. -/
import Derived.Test.YtlbchdlokimpfaaBK
import Derived.Test.YtlbchdlokimpfaaT0
namespace Go.Proofs.Ytlbchdlokimpfaa
set_option linter.unusedVariables false
set_option maxRecDepth 10000
open Go.RowKit

theorem allc_asks (n : Nat) (hn : n ≤ 4096) (w : World) : Asks (.func (.func 36) #[] #[]) w (fun k => (List.replicate n true).getD k false) n := by
  refine ⟨_, _, _, rfl, enters_of Try.func36 (by kernel_rfl) rfl, fun W hW k hk => ?_⟩
  have e : (List.replicate n true).getD k false = true := rep_at hk
  show Calls Try.prog 36 #[.int .i64 (k : Int)] W fun e W' => e = .returned (.bool ((List.replicate n true).getD k false)) ∧ Below W.heap.size W W'
  rw [e]
  go_enter Try.func36, Try.ntmps36
  go_wp2
  go_ret
  exact ⟨rfl, Below.refl _ _⟩
set_option maxHeartbeats 1000000 in
theorem all_any (n r : Nat) (hn : n ≤ 4096) (h1 : 1 ≤ r) (h3 : r ≤ 3) (w : World) :
    Calls Try.prog 14 #[.int .i64 (n : Int), .int .i64 (r : Int)] w fun e w' => ∃ s, e = .returned (.tuple #[s, .int .i64 0]) ∧ SetAns r (List.replicate n true) w s w' := by
  have hlen : (List.replicate n true).length = n := List.length_replicate
  go_enter Try.func14, Try.ntmps14
  go_wp2_with fail
  refine (maybe_any n r hn h1 h3 _).mono ?_
  rintro e w0 ⟨rfl, rfl⟩
  have HB0 := hide (below_one w (.cells #[.int .i64 0, .nilIface] 28))
  have HA := hide (AtS.new w (.int .i64 0) .nilIface)
  have hth := those_tells (cs := List.replicate n true) (v := .func (.func 36) #[] #[]) (w := w.alloc (.cells #[.int .i64 0, .nilIface] 28)) (by rw [hlen]; exact hn) (by rw [hlen]; exact allc_asks n hn _)
  rw [hlen] at hth
  have HTH := hide hth
  have HLEN := hide hlen
  clear hth hlen
  go_wp2_with fail
  refine HTH.out.mono ?_
  rintro e w1 ⟨v', rfl, hb1, hg⟩
  have hL := laid_any v' w1 (List.replicate n true) (by rw [HLEN.out]; exact hn) r h1 h3 hg
  rw [HLEN.out] at hL
  obtain ⟨g8, lb8, n8, rfl, -⟩ := id hg
  have HL := hide hL
  have HA1 := hide (HA.out.below hb1)
  have HB1 := hide (HB0.out.trans (hb1.mono HB0.out.size))
  have HSZ := hide (show w.heap.size < w1.heap.size by have := hb1.size; simp at this; omega)
  clear hL hg hb1 HTH
  go_wp2_with fail
  refine HL.out.mono ?_
  rintro e w5 ⟨s, rfl, hs⟩
  have h7 := HA1.out.below hs.2.2
  have hs9 : SetAns r (List.replicate n true) w1 s w5 := ⟨hs.1, by rw [HLEN.out]; exact hs.2.1, hs.2.2⟩
  obtain ⟨T, ao, len, cap, rfl, hs2⟩ := SetAns.stored (B := w.heap.size) HB1.out (Nat.le_refl _) HSZ.out hs9
  rw [HLEN.out] at hs2 ⊢
  obtain ⟨c0, c1⟩ := h7.cells
  obtain ⟨f0, f1⟩ := h7.thawed
  have H7 := hide h7
  have HS2 := hide hs2
  clear hs hs9 hs2 h7
  go_wp2_with fail
  exact bodyPost_ret (results_set1 Try.results14 _ _ w.heap.size rfl (H7.out.set _ _)) rfl ⟨_, rfl, HS2.out⟩
theorem ofc_asks {w : World} {B : Nat} {ao : Option Addr} {len cap : Nat} {bs : List Bool} (hl : len ≤ 4096) (hB : Boxed w B 32 (.slice ao len cap)) (h : Sb w ao len cap bs) : Asks (.func (.func 34) #[] #[.pointer (some ⟨B, 0, none⟩)]) w (fun k => bs.getD k false) len := by
  refine ⟨_, _, _, rfl, enters_of Try.func34 (by kernel_rfl) rfl, fun W hW k hk => ?_⟩
  have hc : W.cell? ⟨B, 0, none⟩ = some (.slice ao len cap) := by rw [hW.cell (p := ⟨B, 0, none⟩) hB.lt]; exact hB.cell
  rcases (h.below hW).2.2.2.2 with h5 | ⟨b, off, rfl, hlt, h5⟩
  · omega
  · have hc2 := h5 k hk
    have hkl : (k : Int) < (len : Int) := by omega
    obtain ⟨x, hx⟩ : ∃ x, bs.getD k false = x := ⟨_, rfl⟩
    rw [hx] at hc2
    show Calls Try.prog 34 #[.int .i64 (k : Int), .pointer (some ⟨B, 0, none⟩)] W fun e W' => e = .returned (.bool (bs.getD k false)) ∧ Below W.heap.size W W'
    rw [hx]
    clear h5 hx hW h hB hk
    go_enter Try.func34, Try.ntmps34
    go_wp2
    go_ret
    exact ⟨rfl, Below.refl _ _⟩
set_option maxHeartbeats 2000000 in
theorem of_any (n r : Nat) (hn : n ≤ 4096) (h1 : 1 ≤ r) (h3 : r ≤ 3) (ao : Option Addr) (len cap : Nat) (l : List Int) (w : World) (h : Sl w .i64 ao len cap l) (hl : ∀ x ∈ l, 0 ≤ x ∧ x < (n : Int)) (hlen : len ≤ 1099511627776) :
    Calls Try.prog 12 #[.int .i64 (n : Int), .slice ao len cap, .int .i64 (r : Int)] w fun e w' => ∃ s, e = .returned (.tuple #[s, .int .i64 0]) ∧ SetAns r (Z.fo n l) w s w' := by
  obtain ⟨i0, hi0, hz0, hz1, hz2⟩ := info_parts Try.infoBool
  have hfl : (Z.fo n l).length = n := fo_length n l
  have H := hide h
  have HX := hide hl
  have HFL := hide hfl
  clear h hl hfl
  go_enter Try.func12, Try.ntmps12
  go_wp2_with fail
  refine (maybe_any n r hn h1 h3 _).mono ?_
  rintro e w0 ⟨rfl, rfl⟩
  have hb0 := below_one w (.cells #[.int .i64 0, .nilIface] 28)
  have hA := AtS.new w (.int .i64 0) .nilIface
  obtain ⟨wa, hwa⟩ : ∃ wa, w.alloc (.cells #[.int .i64 0, .nilIface] 28) = wa := ⟨_, rfl⟩
  rw [hwa] at hb0 hA ⊢
  have HSA : Hid (wa.heap.size = w.heap.size + 1) := by rw [← hwa]; exact World.size_alloc _ _
  clear hwa
  go_wp2_with (at_make; refine wpList_make_full _ rfl _ _ 32 rfl wa.heap.size 4 i0 (.bool false) 1 Try.underlying32 hi0 hz0 hz1 _ _ _ _ n rfl rfl rfl rfl (by rw [hz2]; omega) (by unfold maxLen; omega) (Nat.le_refl _) ?_)
  intro w1 ho hg
  have hb1 : Below wa.heap.size wa w1 := (Below.refl _ wa).grown hg (Nat.le_refl _) (by simp)
  have ho1 : w1.ownsRow wa.heap.size 4 1 (.slice (some ⟨wa.heap.size, 0, none⟩) n n) n (Vb (Z.fo n (l.take 0))) := by
    rw [List.take_zero, fo_none]
    rw [toList_madeCells_one] at ho
    simp only [Vb, List.map_replicate]
    exact ho
  have hlt1 : wa.heap.size < w1.heap.size := (owns_lt ho rfl).2
  clear ho hg
  go_wp2_with fail
  have bN := Boxed.new w1 32 (.slice (some ⟨wa.heap.size, 0, none⟩) n n)
  have hb2 := below_one w1 (.cells #[.slice (some ⟨wa.heap.size, 0, none⟩) n n] 32)
  obtain ⟨w2, hw2⟩ : ∃ w2, w1.alloc (.cells #[.slice (some ⟨wa.heap.size, 0, none⟩) n n] 32) = w2 := ⟨_, rfl⟩
  rw [hw2] at bN hb2 ⊢
  clear hw2
  obtain ⟨B, hB⟩ : ∃ B, w1.heap.size = B := ⟨_, rfl⟩
  rw [hB] at bN hlt1 ⊢
  have HO := hide (owns_below ho1 hb2)
  have HBW := hide (bthen hb1 hb2)
  have HBX := hide bN
  have HB0 := hide hb0
  have HA := hide hA
  clear ho1 hb1 hb2 bN hb0 hA hB
  go_wp2_with fail
  go_loopw [10, 20] (fun x i wr => ∃ k : Nat, k ≤ len ∧ i = .int .i64 k ∧ Hid (wr.ownsRow wa.heap.size 4 1 (.slice (some ⟨wa.heap.size, 0, none⟩) n n) n (Vb (Z.fo n (l.take k)))) ∧ Hid (Boxed wr B 32 (.slice (some ⟨wa.heap.size, 0, none⟩) n n)) ∧ Hid (Below wa.heap.size wa wr)) (fun x i _ => len - (intOf i).toNat)
  case atStart => exact ⟨0, Nat.zero_le _, rfl, HO, HBX, HBW⟩
  case round =>
    obtain ⟨k, hk, rfl, ho, hbx, hbw⟩ := hrel
    clear HO HBX HBW
    by_cases hlt : k < len
    · have hkl : k < l.length := by rw [H.out.1]; exact hlt
      rcases H.out.2.2.2.2 with h5 | ⟨b, off, rfl, hlb, h5⟩
      · omega
      have hbb : Below w.heap.size w wr := HB0.out.trans (hbw.out.mono HB0.out.size)
      have d1 : wr.cell? ⟨b, off + k, none⟩ = some (.int .i64 (l.getD k 0)) := by rw [hbb.cell (p := ⟨b, off + k, none⟩) hlb]; exact h5 k hlt
      obtain ⟨hx0, hx1⟩ := HX.out (l.getD k 0) (by rw [List.getD_eq_getElem?_getD, List.getElem?_eq_getElem hkl]; exact List.getElem_mem hkl)
      obtain ⟨x, hx⟩ : ∃ x : Nat, l.getD k 0 = (x : Int) := ⟨(l.getD k 0).toNat, by omega⟩
      rw [hx] at d1 hx0 hx1
      have hxn : x < n := by omega
      have HTK : Hid (Z.fo n (l.take (k + 1)) = (Z.fo n (l.take k)).set x true) := by
        rw [take_snocI hkl, hx, ← fo_snoc hxn]; rfl
      have hc4 := ho.out.cellAt x (by omega)
      have hat4 : (Vb (Z.fo n (l.take k)))[x]? = some (.bool ((Z.fo n (l.take k)).getD x false)) := by simp [Vb, List.getD, fo_length, hxn]
      rw [hat4] at hc4
      have hf4 := ho.out.frozenAt x
      have hst := ho.out.stored x (.bool true)
      have hcb := hbx.out.cell
      have HST := hide hst.1
      have HBX2 := hide (hbx.out.kept hst.2 (hbx.out.not_row (by decide) ho.out))
      have HBW2 := hide (hbw.out.setCell (p := ⟨wa.heap.size, x, none⟩) (Nat.le_refl _) (.bool true))
      clear h5 hbb hat4 hst ho hbx hbw hx
      go_wp2
      go_roundw
      case rel =>
        refine ⟨k + 1, hlt, by go_num, hide ?_, HBX2, HBW2⟩
        rw [HTK.out]
        have := HST.out
        rwa [show Vb ((Z.fo n (l.take k)).set x true) = (Vb (Z.fo n (l.take k))).set x (.bool true) by simp [Vb, List.map_set]]
      case measure => simp [intOf]; omega
    · obtain rfl : k = len := by omega
      have hsb : Sb wr (some ⟨wa.heap.size, 0, none⟩) n n (Z.fo n l) := by
        have := ho.out
        rw [List.take_of_length_le (by rw [H.out.1]; exact Nat.le_refl _)] at this
        exact Sb.of_slice (fo_length n l) this
      have hak := ofc_asks hn hbx.out hsb
      have hth := those_tells (cs := Z.fo n l) (w := wr) (by rw [HFL.out]; exact hn) (by rw [HFL.out]; exact hak)
      rw [HFL.out] at hth
      have HTH := hide hth
      have HBB := hide (HB0.out.trans (hbw.out.mono HB0.out.size))
      have HA1 := hide (HA.out.below hbw.out)
      have HSZ0 := hide (show w.heap.size < wr.heap.size by have := hbw.out.size; have := HSA.out; omega)
      clear hsb hak hth ho hbx hbw
      go_wp2_with fail
      refine HTH.out.mono ?_
      rintro e w4 ⟨v', rfl, hb4, hg⟩
      have hL := laid_any v' w4 (Z.fo n l) (by rw [HFL.out]; exact hn) r h1 h3 hg
      rw [HFL.out] at hL
      obtain ⟨g8, lb8, n8, rfl, -⟩ := id hg
      have HL := hide hL
      have HA2 := hide (HA1.out.below hb4)
      have HB4 := hide (HBB.out.trans (hb4.mono HBB.out.size))
      have HSZ := hide (show w.heap.size < w4.heap.size by have := hb4.size; have := HSZ0.out; omega)
      clear hL hg hb4 HTH
      go_wp2_with fail
      refine HL.out.mono ?_
      rintro e w5 ⟨s, rfl, hs⟩
      have h7 := HA2.out.below hs.2.2
      have hs9 : SetAns r (Z.fo n l) w4 s w5 := ⟨hs.1, by rw [HFL.out]; exact hs.2.1, hs.2.2⟩
      obtain ⟨T, ao, len, cap, rfl, hs2⟩ := SetAns.stored (B := w.heap.size) HB4.out (Nat.le_refl _) HSZ.out hs9
      rw [HFL.out] at hs2 ⊢
      obtain ⟨c0, c1⟩ := h7.cells
      obtain ⟨f0, f1⟩ := h7.thawed
      have H7 := hide h7
      have HS2 := hide hs2
      clear hs hs9 hs2 h7
      go_wp2_with fail
      exact bodyPost_ret (results_set1 Try.results12 _ _ w.heap.size rfl (H7.out.set _ _)) rfl ⟨_, rfl, HS2.out⟩
end Go.Proofs.Ytlbchdlokimpfaa

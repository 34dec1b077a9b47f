/- Plain facts on widths; Width under one name; the reference's Same. -/
import Derived.Test.YtmhfpipeoojacaaBdB
import Derived.Test.YtmhfpipeoojacaaBdZA
import Derived.Test.YtmhfpipeoojacaaBdP
import Derived.Test.YtmhfpipeoojacaaBdK
namespace Go.Proofs.Ytmhfpipeoojacaa
set_option linter.unusedVariables false
open Go.RowKit
theorem Try.infoU64 : (Try.prog.info? 44).map (fun i => (i.zero, i.size, i.bytes)) = some (some (.int .u64 0), 1, 8) := by kernel_rfl

/-- Width, its answer under one name. -/
theorem width_w (ao : Option Addr) (len cap : Nat) (l : List Int) (w : World) (h : Sl w .u64 ao len cap l) (hm : len ≤ 140737488355328) (hin : In64 l) :
    Calls Try.prog 54 #[.slice ao len cap] w fun e w' => e = .returned (.int .i64 ((wid l : Nat) : Int)) ∧ w' = w := width_any ao len cap l w h hm hin

set_option maxHeartbeats 400000 in
theorem u64same_none (ao bo : Option Addr) (ca cb : Nat) (w : World) :
    Calls Try.prog 12 #[.slice ao 0 ca, .slice bo 0 cb] w fun e w' => e = .returned (.bool true) ∧ Kept (fun _ => False) w w' := by
  go_enter Try.func12, Try.ntmps12
  go_wp2_with fail
  go_loopw [5] (fun i wr => i = .int .i64 0 ∧ wr = w) (fun _ _ => 0)
  case atStart => exact ⟨rfl, rfl⟩
  case round =>
    obtain ⟨rfl, rfl⟩ := hrel
    go_wp2
    go_ret
    exact ⟨rfl, Kept.refl _ _⟩

set_option maxHeartbeats 400000 in
theorem u64same_some (b1 o1 b2 o2 len ca cb : Nat) (l : List Int) (w : World) (hm : len ≤ 140737488355328) (h1 : b1 < w.heap.size) (h2 : b2 < w.heap.size) (hc1 : ∀ i, i < len → w.cell? ⟨b1, o1 + i, none⟩ = some (.int .u64 (l.getD i 0))) (hc2 : ∀ i, i < len → w.cell? ⟨b2, o2 + i, none⟩ = some (.int .u64 (l.getD i 0))) :
    Calls Try.prog 12 #[.slice (some ⟨b1, o1, none⟩) len ca, .slice (some ⟨b2, o2, none⟩) len cb] w fun e w' => e = .returned (.bool true) ∧ Kept (fun _ => False) w w' := by
  have hb : ((len : Int) != (len : Int)) = false := by simp
  go_enter Try.func12, Try.ntmps12
  go_wp2_with fail
  go_loopw [5] (fun i wr => ∃ k : Nat, k ≤ len ∧ i = .int .i64 k ∧ Kept (fun _ => False) w wr) (fun i _ => len - (intOf i).toNat)
  case atStart => exact ⟨0, Nat.zero_le _, rfl, Kept.refl _ _⟩
  case round =>
    obtain ⟨k, hk, rfl, hkr⟩ := hrel
    by_cases hlt : k < len
    · have e1 : wr.cell? ⟨b1, o1 + k, none⟩ = some (.int .u64 (l.getD k 0)) := by rw [hkr.cell (p := ⟨b1, o1 + k, none⟩) h1 (by simp)]; exact hc1 k hlt
      have e2 : wr.cell? ⟨b2, o2 + k, none⟩ = some (.int .u64 (l.getD k 0)) := by rw [hkr.cell (p := ⟨b2, o2 + k, none⟩) h2 (by simp)]; exact hc2 k hlt
      obtain ⟨x, hxe⟩ : ∃ x, l.getD k 0 = x := ⟨_, rfl⟩
      rw [hxe] at e1 e2
      have hx : (x != x) = false := by simp
      clear hc1 hc2 hxe
      go_wp2
      go_region
      all_goals go_wp2
      all_goals
        go_roundw
        case rel => exact ⟨k + 1, by omega, by go_num, hkr.drew⟩
        case measure => simp [intOf]; omega
    · clear hc1 hc2
      go_wp2
      go_ret
      exact ⟨rfl, hkr⟩

/-- The reference's Same, of two lists that are the same. -/
theorem u64same_yes (ao bo : Option Addr) (len ca cb : Nat) (l : List Int) (w : World) (h1 : Sl w .u64 ao len ca l) (h2 : Sl w .u64 bo len cb l) (hm : len ≤ 140737488355328) :
    Calls Try.prog 12 #[.slice ao len ca, .slice bo len cb] w fun e w' => e = .returned (.bool true) ∧ Kept (fun _ => False) w w' := by
  by_cases h0 : len = 0
  · subst h0; exact u64same_none ao bo ca cb w
  · rcases h1.2.2.2.2 with h | ⟨b1, o1, rfl, hb1, hc1⟩
    · omega
    · rcases h2.2.2.2.2 with h | ⟨b2, o2, rfl, hb2, hc2⟩
      · omega
      · exact u64same_some b1 o1 b2 o2 len ca cb l w hm hb1 hb2 hc1 hc2
end Go.Proofs.Ytmhfpipeoojacaa
/- dict.Codes: values' places among words, or none. Conditions: fewer than 2^40 words and values. -/
namespace Go.Proofs.Ytmhfpipeoojacaa
set_option linter.unusedVariables false
set_option maxRecDepth 10000
open Go.RowKit Go.Sort
/-- Codes put down so far. -/
def cdTo (ws l : List Z.V) (n j : Nat) : List Value := (ints ((l.take j).map (Z.cdN ws))).map (Value.int .u64) ++ List.replicate (n - j) (.int .u64 0)
theorem cdTo_zero (ws l : List Z.V) (n : Nat) : cdTo ws l n 0 = List.replicate n (.int .u64 0) := by simp [cdTo, ints]
theorem cdTo_len {ws l : List Z.V} {j : Nat} (h : j ≤ l.length) : ((ints ((l.take j).map (Z.cdN ws))).map (Value.int .u64)).length = j := by simp [ints]; omega
theorem cdTo_at {ws l : List Z.V} {j : Nat} (h : j < l.length) : (cdTo ws l l.length j)[j]? = some (.int .u64 0) := by
  unfold cdTo
  have h1 := cdTo_len (ws := ws) (Nat.le_of_lt h)
  rw [List.getElem?_append_right (by omega), h1, Nat.sub_self, List.getElem?_replicate, if_pos (by omega)]
theorem cdTo_set {ws l : List Z.V} {j : Nat} {x : Z.V} (h : l[j]? = some x) : (cdTo ws l l.length j).set j (.int .u64 (Z.cdN ws x : Nat)) = cdTo ws l l.length (j + 1) := by
  have hj := (List.getElem?_eq_some_iff.1 h).1
  have h1 := cdTo_len (ws := ws) (Nat.le_of_lt hj)
  unfold cdTo
  rw [List.set_append_right _ _ (by omega), h1, Nat.sub_self, take_snocV h]
  obtain ⟨m, hm⟩ : ∃ m, l.length - j = m + 1 := ⟨l.length - j - 1, by omega⟩
  rw [hm, show l.length - (j + 1) = m by omega, List.replicate_succ]
  simp [ints]
theorem SlV.kept0 {F : Nat → Prop} {w w' : World} {ao : Option Addr} {len cap : Nat} {l : List Z.V} (h : SlV w ao len cap l) (hb : Kept F w w') (hf : ∀ b, b < w.heap.size → ¬ F b) : SlV w' ao len cap l := by
  obtain ⟨h1, h2, h3, h4, h5⟩ := h
  refine ⟨h1, h2, h3, h4, ?_⟩
  rcases h5 with h5 | ⟨b, off, rfl, hlt, h5⟩
  · exact .inl h5
  · refine .inr ⟨b, off, rfl, Nat.lt_of_lt_of_le hlt hb.size, fun j x hx => ?_⟩
    have e := hb.block b hlt (hf _ hlt)
    obtain ⟨c1, c2, c3⟩ := h5 j x hx
    simp only [World.cell?] at c1 c2 c3 ⊢
    rw [e]
    exact ⟨c1, c2, c3⟩
theorem Sl.keptO {F : Nat → Prop} {w w' : World} {k : IntKind} {ao : Option Addr} {len cap : Nat} {l : List Int} (h : Sl w k ao len cap l) (hb : Kept F w w') (hf : ∀ b, b < w.heap.size → ¬ F b) : Sl w' k ao len cap l := by
  obtain ⟨h1, h2, h3, h4, h5⟩ := h
  refine ⟨h1, h2, h3, h4, ?_⟩
  rcases h5 with h5 | ⟨b, off, rfl, hlt, h5⟩
  · exact .inl h5
  · refine .inr ⟨b, off, rfl, Nat.lt_of_lt_of_le hlt hb.size, fun j hj => ?_⟩
    rw [hb.cell (p := ⟨b, off + j, none⟩) hlt (hf _ hlt)]
    exact h5 j hj
theorem Sl.nil0 (w : World) (k : IntKind) : Sl w k none 0 0 [] := ⟨rfl, Nat.le_refl _, by simp [maxLen], fun _ => rfl, .inl rfl⟩
/-- What the call answers. -/
def CodesAns (w : World) (ws l : List Z.V) (e : Ending) (w' : World) : Prop := ∃ a n c, e = .returned (.tuple #[.slice a n c, .int .i64 (Z.cdE ws l)]) ∧ Sl w' .u64 a n c (ints (Z.cdL ws l)) ∧ Below w.heap.size w w'
set_option maxHeartbeats 2000000 in
theorem codes_any (ao : Option Addr) (cap : Nat) (ws : List Z.V) (al : Option Addr) (lcap : Nat) (l : List Z.V) (w : World) (h : SlV w ao ws.length cap ws) (hL : SlV w al l.length lcap l) (hw : ws.length ≤ 1099511627776) (hl : l.length ≤ 1099511627776) :
    Calls Try.prog 10 #[.slice ao ws.length cap, .slice al l.length lcap] w (CodesAns w ws l) := by
  obtain ⟨i0, hi0, hz0, hz1, hz2⟩ := info_parts Try.infoU64
  obtain ⟨w1, hw1⟩ : ∃ w1, w.alloc (.cells #[.slice ao ws.length cap] 22) = w1 := ⟨_, rfl⟩
  have hb1 : Below w.heap.size w w1 := by rw [← hw1]; exact below_one w _
  have hbx : w1.cell? ⟨w.heap.size, 0, none⟩ = some (.slice ao ws.length cap) := by rw [← hw1]; simp
  have hsz : w.heap.size < w1.heap.size := by rw [← hw1]; simp
  have HW := hide hw1
  have HB1 := hide hb1
  have HX := hide hbx
  have HS := hide (h.below hb1)
  have HL := hide (hL.below hb1)
  clear h hL hb1 hbx hw1
  go_enter Try.func10, Try.ntmps10
  go_wp2_with fail
  rw [HW.out]
  refine (places_any ao ws.length cap ws w1 HS.out hw).mono ?_
  rintro e w2 ⟨ap, pc, dk, rfl, hs, hp, hb2⟩
  have HB2 := hide hb2
  have HP := hide hp
  have HR := hide hs
  clear hb2 hp hs
  go_wp2_with (at_make; refine wpList_make_full _ rfl _ _ 27 rfl w2.heap.size 44 i0 (.int .u64 0) 1 Try.underlying27 hi0 hz0 hz1 _ _ _ _ l.length rfl rfl rfl rfl (by rw [hz2]; omega) (by unfold maxLen; omega) (Nat.le_refl _) ?_)
  intro w3 ho hg
  have hb3 : Below w2.heap.size w2 w3 := (Below.refl _ w2).grown hg (Nat.le_refl _) (by simp)
  rw [toList_madeCells_one, ← cdTo_zero ws l] at ho
  have HO := hide ho
  have HK := hide (Kept.of_below hb3 (fun b => b = w2.heap.size))
  clear ho hg hb3
  go_wp2_with fail
  go_loopw [19] (fun i wr => ∃ j : Nat, j ≤ l.length ∧ i = .int .i64 j ∧ Hid (wr.ownsRow w2.heap.size 44 1 (.slice (some ⟨w2.heap.size, 0, none⟩) l.length l.length) l.length (cdTo ws l l.length j)) ∧ Hid (Kept (fun b => b = w2.heap.size) w2 wr) ∧ Hid (∀ v ∈ l.take j, Z.has ws v = true)) (fun i _ => l.length - (intOf i).toNat)
  case atStart => exact ⟨0, Nat.zero_le _, rfl, HO, HK, hide (by simp)⟩
  case round =>
    obtain ⟨j, hj, rfl, hor, hkr, HH⟩ := hrel
    clear HO HK
    have hbw : Below w.heap.size w wr := HB1.out.trans ((HB2.out.mono (Nat.le_of_lt hsz)).trans (hkr.out.below (by have := HB2.out.size; omega) (fun k e => by subst e; have := HB2.out.size; omega)))
    by_cases hjl : j < l.length
    · have hC : ∀ b, b < w2.heap.size → ¬ b = w2.heap.size := fun b hb => by omega
      obtain ⟨b, off, xk, xi, xs, rfl, hlt, hx, c1, c2, c3⟩ := (HL.out.below HB2.out).at hjl
      have d1 : wr.cell? ⟨b, off + j * 3, none⟩ = some (.int .i64 xk) := by rw [hkr.out.cell (p := ⟨b, off + j * 3, none⟩) hlt (hC b hlt)]; exact c1
      have d2 : wr.cell? ⟨b, off + j * 3 + 1, none⟩ = some (.int .i64 xi) := by rw [hkr.out.cell (p := ⟨b, off + j * 3 + 1, none⟩) hlt (hC b hlt)]; exact c2
      have d3 : wr.cell? ⟨b, off + j * 3 + 2, none⟩ = some (.string xs) := by rw [hkr.out.cell (p := ⟨b, off + j * 3 + 2, none⟩) hlt (hC b hlt)]; exact c3
      obtain ⟨w4, hw4⟩ : ∃ w4, wr.alloc (.cells #[.int .i64 xk, .int .i64 xi, .string xs] 24) = w4 := ⟨_, rfl⟩
      have hb4 : Below wr.heap.size wr w4 := by rw [← hw4]; exact below_one wr _
      have hk4 : Kept (fun b => b = w2.heap.size) w2 w4 := by rw [← hw4]; exact hkr.out.alloc _
      have hor4 : w4.ownsRow w2.heap.size 44 1 (.slice (some ⟨w2.heap.size, 0, none⟩) l.length l.length) l.length (cdTo ws l l.length j) := owns_below hor.out hb4
      have hbig : w.heap.size < w2.heap.size := Nat.lt_of_lt_of_le hsz HB2.out.size
      have hbox : w4.cell? ⟨w.heap.size, 0, none⟩ = some (.slice ao ws.length cap) := by rw [hk4.cell (p := ⟨w.heap.size, 0, none⟩) hbig (hC _ hbig), HB2.out.cell (p := ⟨w.heap.size, 0, none⟩) hsz]; exact HX.out
      have hp4 := HP.out.keptO hk4 hC
      have HBIN := hide (bin_any ap pc dk ao cap w.heap.size ws xk xi xs w4 HR.out hp4 ((HS.out.below HB2.out).kept0 hk4 hC) hbox (Nat.lt_of_lt_of_le hbig hk4.size) hw)
      have HW4 := hide hw4
      have HK4 := hide hk4
      have HO4 := hide hor4
      have HP4 := hide hp4
      have HBW := hide (hbw.trans (hb4.mono hbw.size))
      have HX2 := hide hx
      clear c1 c2 c3 hb4 hk4 hor4 hbox hp4 hw4 hx hbw hor hkr
      go_wp2_with fail
      rw [HW4.out]
      refine Calls.mono HBIN.out ?_
      rintro e w5 ⟨i, f, rfl, hF, hb5⟩
      have HB5 := hide (HBW.out.trans (hb5.mono HBW.out.size))
      cases f with
      | false =>
        have hno := fnd_no HR.out hF
        have hE : Z.cdE ws l = 6 := cdE_bad (List.mem_of_getElem? HX2.out) hno
        have FIN : Hid (CodesAns w ws l (.returned (.tuple #[.slice none 0 0, .int .i64 6])) w5) := ⟨none, 0, 0, by rw [hE], by rw [cdL_bad (by rw [hE]; decide)]; exact Sl.nil0 _ _, HB5.out⟩
        clear hF hno hE hb5 d1 d2 d3 HBIN
        go_wp2
        go_ret2
        exact FIN.out
      | true =>
        obtain ⟨hi, hhas, hcd⟩ := fnd_yes HR.out hF
        have hdp := HR.out.lt i hi
        obtain ⟨bp, offp, rfl, hltp, hcp⟩ := (HP4.out.below hb5).at hi
        rw [ints_at dk i (by rw [HR.out.size]; exact hi)] at hcp
        obtain ⟨p, hp⟩ : ∃ p, dk[i]! = p := ⟨_, rfl⟩
        rw [hp] at hcp hdp hcd
        have hor5 := owns_below HO4.out hb5
        have hc6 := hor5.cellAt j (by omega)
        rw [cdTo_at hjl] at hc6
        have hf6 := hor5.frozenAt j
        have HO6 := hide (hor5.stored j (.int .u64 (p : Int))).1
        have HCD := hide hcd
        have HK5 := hide (HK4.out.trans' (G := fun _ => False) (Kept.of_below hb5 _) (by simp))
        have HH2 : Hid (∀ v ∈ l.take (j + 1), Z.has ws v = true) := by
          intro v hv
          rw [take_snocV HX2.out] at hv
          rcases List.mem_append.1 hv with hv | hv
          · exact HH.out v hv
          · simp at hv; subst hv; exact hhas
        have zp : IntKind.u64.wrap (p : Int) = (p : Int) := by rw [u64_wrap]; omega
        have hiz : (i : Int) < (ws.length : Int) := by omega
        clear hF hhas hb5 d1 d2 d3 HBIN hp hcd hor5 HH hltp
        go_wp2
        go_roundw
        case rel => exact ⟨j + 1, hjl, by go_num, hide (by rw [← cdTo_set HX2.out, HCD.out]; exact HO6.out), hide (HK5.out.setCell (p := ⟨w2.heap.size, j, none⟩) (.inl rfl) _), HH2⟩
        case measure => simp [intOf]; omega
    · obtain rfl : j = l.length := by omega
      have hall : ∀ v ∈ l, Z.has ws v = true := by have := HH.out; rwa [List.take_length] at this
      have hE := cdE_ok hall
      have hrow : wr.ownsRow w2.heap.size 44 1 (.slice (some ⟨w2.heap.size, 0, none⟩) l.length l.length) (ints (Z.cdL ws l)).length ((ints (Z.cdL ws l)).map (Value.int .u64)) := by
        have e1 : cdTo ws l l.length l.length = (ints (Z.cdL ws l)).map (Value.int .u64) := by rw [cdL_ok hE]; simp [cdTo]
        have e2 : (ints (Z.cdL ws l)).length = l.length := by rw [cdL_ok hE]; simp [ints]
        rw [e2, ← e1]; exact hor.out
      obtain ⟨ax, cx, hv, hsx, _⟩ := Sl.of_owns hrow
      have e2 : (ints (Z.cdL ws l)).length = l.length := by rw [cdL_ok hE]; simp [ints]
      rw [e2] at hv hsx
      injection hv with hv1 hv2 hv3
      subst hv1; subst hv3
      have FIN : Hid (CodesAns w ws l (.returned (.tuple #[.slice (some ⟨w2.heap.size, 0, none⟩) l.length l.length, .int .i64 0])) wr) := ⟨_, _, _, by rw [hE], hsx, hbw⟩
      clear hall hE hrow hsx e2 hbw hor hkr HH
      go_wp2
      go_ret2
      exact FIN.out
end Go.Proofs.Ytmhfpipeoojacaa
/- The document's Codes: values' places among words, or none. Conditions: fewer than 2^40 words and values, texts that a machine can hold. -/
namespace Go.Proofs.Ytmhfpipeoojacaa
set_option linter.unusedVariables false
set_option maxRecDepth 10000
open Go.RowKit Go.Sort
theorem plI_has {ws : List Z.V} {v : Z.V} (h : Z.has ws v = true) : Z.plI ws v = (Z.cdN ws v : Nat) := by
  obtain ⟨j, hj⟩ := pl_has h
  unfold Z.plI Z.cdN; rw [hj]; rfl
theorem plI_hasno {ws : List Z.V} {v : Z.V} (h : Z.has ws v = false) : Z.plI ws v = -1 := by
  unfold Z.plI; rw [pl_none.2 h]
theorem cdN_lt {ws : List Z.V} {v : Z.V} (h : Z.has ws v = true) : Z.cdN ws v < ws.length := by
  obtain ⟨y, hy, _⟩ := cdN_has h
  exact (List.getElem?_eq_some_iff.1 hy).1
set_option maxHeartbeats 2000000 in
theorem rcodes_any (ao : Option Addr) (cap : Nat) (ws : List Z.V) (al : Option Addr) (lcap : Nat) (l : List Z.V) (w : World) (h : SlV w ao ws.length cap ws) (hL : SlV w al l.length lcap l) (hw : ws.length ≤ 1099511627776) (hl : l.length ≤ 1099511627776) (sw : ∀ x ∈ ws, x.s.size ≤ 9223372036854775807) (sl : ∀ x ∈ l, x.s.size ≤ 9223372036854775807) :
    Calls Try.prog 11 #[.slice ao ws.length cap, .slice al l.length lcap] w (CodesAns w ws l) := by
  obtain ⟨i0, hi0, hz0, hz1, hz2⟩ := info_parts Try.infoU64
  have HS := hide h
  have HL := hide hL
  have SW := hide sw
  have SLL := hide sl
  clear h hL sw sl
  go_enter Try.func11, Try.ntmps11
  go_wp2_with fail
  go_loopw [6, 7] (fun v i wr => ∃ j : Nat, j ≤ l.length ∧ i = .int .i64 j ∧ Hid (wr.ownsRow w.heap.size 44 1 v j ((ints ((l.take j).map (Z.cdN ws))).map (Value.int .u64))) ∧ Hid (Below w.heap.size w wr) ∧ Hid (∀ v ∈ l.take j, Z.has ws v = true)) (fun _ i _ => l.length - (intOf i).toNat)
  case atStart => exact ⟨0, Nat.zero_le _, rfl, hide (World.ownsRow_nil _ _ _ _), hide (Below.refl _ _), hide (by simp)⟩
  case round =>
    obtain ⟨j, hj, rfl, hor, hbw, HH⟩ := hrel
    by_cases hjl : j < l.length
    · obtain ⟨b, off, xk, xi, xs, rfl, hlt, hx, c1, c2, c3⟩ := HL.out.at hjl
      have d1 : wr.cell? ⟨b, off + j * 3, none⟩ = some (.int .i64 xk) := by rw [hbw.out.cell (p := ⟨b, off + j * 3, none⟩) hlt]; exact c1
      have d2 : wr.cell? ⟨b, off + j * 3 + 1, none⟩ = some (.int .i64 xi) := by rw [hbw.out.cell (p := ⟨b, off + j * 3 + 1, none⟩) hlt]; exact c2
      have d3 : wr.cell? ⟨b, off + j * 3 + 2, none⟩ = some (.string xs) := by rw [hbw.out.cell (p := ⟨b, off + j * 3 + 2, none⟩) hlt]; exact c3
      have HX := hide hx
      have HP := hide (rplace_any ao ws.length cap ws xk xi xs wr (HS.out.below hbw.out) SW.out (SLL.out _ (List.mem_of_getElem? hx)) (by omega))
      clear c1 c2 c3 hx
      go_wp2_with fail
      refine Calls.mono HP.out ?_
      rintro e w2 ⟨rfl, hb2⟩
      have HB2 := hide (hbw.out.trans (hb2.mono hbw.out.size))
      have hor2 := owns_below hor.out hb2
      cases hh : Z.has ws ⟨xk, xi, xs⟩ with
      | false =>
        rw [plI_hasno hh]
        have hE : Z.cdE ws l = 6 := cdE_bad (List.mem_of_getElem? HX.out) hh
        have FIN : Hid (CodesAns w ws l (.returned (.tuple #[.slice none 0 0, .int .i64 6])) w2) := ⟨none, 0, 0, by rw [hE], by rw [cdL_bad (by rw [hE]; decide)]; exact Sl.nil0 _ _, HB2.out⟩
        clear hh hE hor2 hb2 d1 d2 d3 HP
        go_wp2
        go_ret2
        exact FIN.out
      | true =>
        rw [plI_has hh]
        have hlt2 := cdN_lt hh
        obtain ⟨p, hp⟩ : ∃ p, Z.cdN ws ⟨xk, xi, xs⟩ = p := ⟨_, rfl⟩
        rw [hp] at hlt2 ⊢
        have HC := hide hp
        have HO2 := hide hor2
        have HH2 : Hid (∀ v ∈ l.take (j + 1), Z.has ws v = true) := by
          intro v hv
          rw [take_snocV HX.out] at hv
          rcases List.mem_append.1 hv with hv | hv
          · exact HH.out v hv
          · simp at hv; subst hv; exact hh
        have zp : IntKind.u64.wrap (p : Int) = (p : Int) := by rw [u64_wrap]; omega
        have hs2 := HB2.out.size
        clear hh hp hor2 hb2 d1 d2 d3 HP HH hor hbw
        go_wp2_with (at_builtin; refine wpList_append_to rfl _ _ 27 rfl w.heap.size 44 i0 (.int .u64 0) 1 8 Try.underlying27 hi0 hz0 hz1 hz2 rfl (by decide) _ _ _ rfl (HO2.out.alloc _) (some ⟨w2.heap.size, 0, none⟩) 1 1 [.int .u64 (p : Int)] rfl (by simp) rfl (Sl.news1 _ _) (one_oneCell _ _) (by unfold maxLen; omega) (by omega) (by simp; omega) ?_)
        intro v3 w3 hown3 has3
        have hk3 := ((Kept.refl (fun g => u6.ownBlock = some g) w2).alloc _).trans has3.1
        have hb3 : Below w.heap.size w w3 := HB2.out.trans (hk3.below hs2 (fun g hg => (owns_lt HO2.out hg).1))
        have HB3 := hide hb3
        have HO3 := hide hown3
        clear has3 hk3 hb3 hown3
        go_wp2
        go_roundw
        case rel => exact ⟨j + 1, by omega, by go_num, hide (by rw [take_snocV HX.out, List.map_append]; simpa [ints, HC.out] using HO3.out), HB3, HH2⟩
        case measure => simp [intOf]; omega
    · obtain rfl : j = l.length := by omega
      have hall : ∀ v ∈ l, Z.has ws v = true := by have := HH.out; rwa [List.take_length] at this
      have hE := cdE_ok hall
      have e2 : (ints (Z.cdL ws l)).length = l.length := by rw [cdL_ok hE]; simp [ints]
      have hrow : wr.ownsRow w.heap.size 44 1 u6 (ints (Z.cdL ws l)).length ((ints (Z.cdL ws l)).map (Value.int .u64)) := by
        have := hor.out
        rw [e2, cdL_ok hE]
        rwa [List.take_length] at this
      obtain ⟨ax, cx, hv, hsx, _⟩ := Sl.of_owns hrow
      have FIN : Hid (CodesAns w ws l (.returned (.tuple #[u6, .int .i64 0])) wr) := ⟨ax, _, cx, by rw [hE, hv], hsx, hbw.out⟩
      clear hall hE hrow hsx e2 hbw hor HH hv
      go_wp2
      go_ret2
      exact FIN.out
end Go.Proofs.Ytmhfpipeoojacaa
/- dict.Words: the words of the values, rising, each once, in memory of their own. Conditions: fewer than 2^41 values. -/
namespace Go.Proofs.Ytmhfpipeoojacaa
set_option linter.unusedVariables false
set_option maxRecDepth 10000
open Go.RowKit Go.Sort
theorem four_grow (w : World) (a b c d : Obj) : (((w.alloc a).alloc b).alloc c).alloc d = grow (w.drewN 0) #[a, b, c, d] := by
  rw [alloc_eq_grow, alloc_eq_grow, alloc_eq_grow, alloc_eq_grow, grow_grow, grow_grow, grow_grow]; rfl
theorem alike_any (x y : Z.V) (w : World) : Calls Try.prog 35 #[.agg (encV x).toArray, .agg (encV y).toArray] w fun e w' => e = .returned (.bool (decide (Z.cv x y = 0))) ∧ ∃ q os', w' = grow (w.drewN q) os' := by
  obtain ⟨ak, ai, az⟩ := x
  obtain ⟨bk, bi, bz⟩ := y
  show Calls Try.prog 35 #[.agg #[.int .i64 ak, .int .i64 ai, .string az], .agg #[.int .i64 bk, .int .i64 bi, .string bz]] w _
  obtain ⟨c, hc⟩ : ∃ c, Z.cv ⟨ak, ai, az⟩ ⟨bk, bi, bz⟩ = c := ⟨_, rfl⟩
  have HC : Hid (∀ w, Calls Try.prog 23 #[.agg #[.int .i64 ak, .int .i64 ai, .string az], .agg #[.int .i64 bk, .int .i64 bi, .string bz]] w fun e w' => e = .returned (.int .i64 c) ∧ ∃ a b, w' = (w.alloc a).alloc b) := by
    intro w; rw [← hc]; exact vcompare_two ak ai az bk bi bz w
  rw [hc]
  clear hc
  go_enter Try.func35, Try.ntmps35
  go_wp2_with fail
  refine (HC.out _).mono ?_
  rintro e w1 ⟨rfl, a, b, rfl⟩
  go_wp2
  go_ret
  exact ⟨rfl, 0, _, four_grow _ _ _ _ _⟩
theorem eq_lays (l : List Z.V) (blk off size : Nat) (w : World) : EqLays Try.prog 35 #[] (encL l) 3 (efL l) blk off size w := fun m os dk hs x y => alike_any _ _ _
set_option maxHeartbeats 400000 in
theorem cloneV_nil (w : World) : Calls Try.prog 32 #[.slice none 0 0] w fun e w' => e = .returned (.slice none 0 0) ∧ w' = w := by
  have hq := fun (w : World) (a : Option Addr) (n c : Nat) => Lib.run_eql_slice_nil (P := Try.prog) w 22 24 a n c 0 0 Try.underlying22
  go_enter Try.func32, Try.ntmps32
  go_wp2
  go_ret
  exact ⟨rfl, rfl⟩
set_option maxHeartbeats 400000 in
theorem cloneV_some (x : Addr) (len cap : Nat) (l : List Z.V) (w : World) (h : SlV w (some x) len cap l) (hb : len * 32 ≤ 140737488355328) :
    Calls Try.prog 32 #[.slice (some x) len cap] w fun e w' => ∃ v, e = .returned v ∧ OwnV w' w.heap.size v l ∧ Below w.heap.size w w' := by
  have hl := h.1
  have HS : Hid (SlV w (some x) len cap l) := h
  clear h
  have hq := fun (w : World) (a : Option Addr) (n c : Nat) => Lib.run_eql_slice_nil (P := Try.prog) w 22 24 a n c 0 0 Try.underlying22
  go_enter Try.func32, Try.ntmps32
  go_wp2_with (at_builtin; refine wpList_appV rfl _ _ rfl w.heap.size _ [] rfl (World.ownsRow_lit w #[] 0 (Nat.le_refl _) (by decide) rfl) (some x) len cap l rfl (HS.out.below (below_one w _)) (by simp; omega) (by simp) ?_)
  intro v1 w1 ho hk _
  have hbel : Below w.heap.size w w1 := (below_one w _).trans (hk.below (by simp) (fun k e => by simp [Value.ownBlock] at e; omega))
  have ho' : OwnV w1 w.heap.size v1 l := by simpa using ho
  have HO : Hid (OwnV w1 w.heap.size v1 l) := ho'
  have HB : Hid (Below w.heap.size w w1) := hbel
  clear ho ho' hk hbel
  go_wp2
  go_ret
  exact ⟨v1, rfl, HO.out, HB.out⟩
theorem cloneV_any (ao : Option Addr) (len cap : Nat) (l : List Z.V) (w : World) (h : SlV w ao len cap l) (hb : len * 32 ≤ 140737488355328) :
    Calls Try.prog 32 #[.slice ao len cap] w fun e w' => ∃ v, e = .returned v ∧ OwnV w' w.heap.size v l ∧ Below w.heap.size w w' := by
  cases ao with
  | some x => exact cloneV_some x len cap l w h hb
  | none =>
    have h4 := h.2.2.2.1 rfl
    have h2 := h.2.1
    have h1 := h.1
    subst h4
    obtain rfl : len = 0 := by omega
    obtain rfl : l = [] := List.eq_nil_of_length_eq_zero h1
    refine (cloneV_nil w).mono ?_
    rintro e w1 ⟨rfl, rfl⟩
    exact ⟨_, rfl, ⟨rfl, .inl ⟨rfl, rfl⟩⟩, Below.refl _ _⟩
/-- The sort of a row of one's own. -/
theorem sortV_own (g cap : Nat) (B : Nat) (l : List Z.V) (w : World) (ho : OwnV w B (.slice (some ⟨g, 0, none⟩) l.length cap) l) (hl : l.length < 1152921504606846976) :
    Calls Try.prog 33 #[.slice (some ⟨g, 0, none⟩) l.length cap, .func (.func 23) #[] #[]] w fun e w' => e = .returned (.tuple #[]) ∧ ∃ dk, Srt l dk ∧ RowK (encL l) 3 w' g 0 dk ∧ OwnV w' B (.slice (some ⟨g, 0, none⟩) l.length cap) (rd l dk) ∧ Kept (fun b => b = g) w w' := by
  have R := row_of_own ho
  refine (sortStableV layV Try.func103 Try.func95 Try.func81 Try.func82 Try.func60 Try.func33 3 Try.isAgg24 Try.sizeOf24 (encL l) (cfL l) id (Y.lx_swo (cfL_swo l) id) 23 #[] g 0 cap (Array.range l.length) w (row_of_own ho) (enters_of Try.func23 (by kernel_rfl) rfl) (cmp_lays l g 0 _ w) l.length (by simp) hl (fun i hi => by simp [hi])).mono ?_
  rintro e w' ⟨rfl, dk, h1, h2, h3⟩
  have hs := srt_of h2 h3
  have := own_sorted ho hs.size h1
  exact ⟨rfl, dk, hs, ⟨R.hk, R.h1, h1.holds R.hblk R.hH (by simp [hs.size]), h1.lt R.hblk⟩, this.1, this.2⟩
theorem Kept.of_own {w w' : World} {g : Nat} (h : Kept (fun b => b = g) w w') {B : Nat} (hB : B ≤ w.heap.size) (hg : B ≤ g) : Below B w w' := h.below hB (fun k e => by subst e; exact hg)
/-- Behind a call: as it was, but for what lies behind it. -/
theorem sortV_none (ao : Option Addr) (cap : Nat) (w : World) : Calls Try.prog 33 #[.slice ao 0 cap, .func (.func 23) #[] #[]] w fun e w' => e = .returned (.tuple #[]) ∧ w' = w := by
  have eg := enters_of Try.func60 (by kernel_rfl) rfl
  have hin : ∀ w, Calls Try.prog 81 #[.slice ao 0 cap, .int .i64 0, .int .i64 0, .func (.func 23) #[] #[]] w fun e w' => e = .returned (.tuple #[]) ∧ w' = w := by
    intro w
    go_enter Try.func81, Try.ntmps81
    go_wp2
    refine wp_loop_rounds 1 ?_
    rw [rounds_succ]
    go_wp2
    go_end0
    exact ⟨rfl, rfl⟩
  have hst : ∀ w, Calls Try.prog 60 #[.slice ao 0 cap, .int .i64 0, .func (.func 23) #[] #[]] w fun e w' => e = .returned (.tuple #[]) ∧ w' = w := by
    intro w
    go_enter Try.func60, Try.ntmps60
    go_wp2
    refine wp_loop_rounds 1 ?_
    rw [rounds_succ]
    go_wp2_with fail
    refine (hin _).mono ?_
    rintro e w1 ⟨rfl, rfl⟩
    go_wp2
    refine wp_loop_rounds 1 ?_
    rw [rounds_succ]
    go_wp2
    go_end0
    exact ⟨rfl, rfl⟩
  go_enter Try.func33, Try.ntmps33
  go_wp2_with fail
  refine (hst _).mono ?_
  rintro e w1 ⟨rfl, rfl⟩
  go_wp2
  go_end0
  exact ⟨rfl, rfl⟩
theorem compact_few (ao : Option Addr) (len cap : Nat) (w : World) (h : len < 2) : Calls Try.prog 34 #[.slice ao len cap, .func (.func 35) #[] #[]] w fun e w' => e = .returned (.slice ao len cap) ∧ w' = w := by
  have hz : (len : Int) < 2 := by omega
  go_enter Try.func34, Try.ntmps34
  go_wp2
  go_ret
  exact ⟨rfl, rfl⟩
theorem SlV.take {w : World} {ao : Option Addr} {len cap : Nat} {l : List Z.V} (h : SlV w ao len cap l) {m : Nat} (hm : m ≤ len) : SlV w ao m cap (l.take m) := by
  obtain ⟨h1, h2, h3, h4, h5⟩ := h
  refine ⟨by simp; omega, by omega, h3, h4, ?_⟩
  rcases h5 with h5 | ⟨b, off, hao, hlt, h5⟩
  · exact .inl (by omega)
  · refine .inr ⟨b, off, hao, hlt, fun j x hx => h5 j x ?_⟩
    by_cases hj : j < m
    · rwa [List.getElem?_take_of_lt hj] at hx
    · rw [List.getElem?_take_eq_none (by omega)] at hx; cases hx
/-- What the words' call answers. -/
def WordsAns (w : World) (l : List Z.V) (e : Ending) (w' : World) : Prop := ∃ a n c, e = .returned (.slice a n c) ∧ SlV w' a n c (Z.wds l) ∧ (∀ b, a.map (·.block) = some b → w.heap.size ≤ b) ∧ Below w.heap.size w w'
theorem words_one {l : List Z.V} {dk : Array Nat} (h : Srt l dk) (hl : l.length < 2) : rd l dk = Z.wds l := by
  rw [← cw_wds h]
  unfold cw
  rw [Y.cpt_all (efL l) dk l.length (fun j hj => Y.kp_first _ _ j (by omega)), List.map_map]
  apply List.ext_getElem?
  intro i
  by_cases hi : i < l.length
  · rw [rd_get l dk i (by rw [h.size]; exact hi)]; simp [hi]
  · rw [List.getElem?_eq_none (by rw [rd_length, h.size]; omega), List.getElem?_eq_none (by simp; omega)]
theorem cpt_le {α : Type} [Inhabited α] (ef : α → α → Bool) (d : Array α) (m : Nat) : (Y.cpt ef d m).length ≤ m := by
  unfold Y.cpt; rw [List.length_map]; exact Nat.le_trans (List.length_filter_le _ _) (by simp)
theorem words_some (ao : Option Addr) (len cap : Nat) (l : List Z.V) (w : World) (h : SlV w ao len cap l) (hb : len * 32 ≤ 140737488355328) : Calls Try.prog 18 #[.slice ao len cap] w (WordsAns w l) := by
  obtain rfl : len = l.length := h.1.symm
  have HS : Hid (SlV w ao l.length cap l) := h
  clear h
  go_enter Try.func18, Try.ntmps18
  go_wp2_with fail
  refine (cloneV_any ao l.length cap l w HS.out hb).mono ?_
  rintro e w1 ⟨v, rfl, ho, hb1⟩
  have B1 : Hid (Below w.heap.size w w1) := hb1
  clear hb1 HS
  rcases ho.2 with ⟨rfl, h0⟩ | ⟨g, cap1, cur, rfl, hg, hh, hc, hm, hsz, ht⟩
  · obtain rfl : l = [] := List.eq_nil_of_length_eq_zero h0
    clear ho h0
    go_wp2_with fail
    refine (sortV_none none 0 w1).mono ?_
    rintro e w2 ⟨rfl, rfl⟩
    go_wp2_with fail
    refine (compact_few none 0 0 _ (by omega)).mono ?_
    rintro e w2 ⟨rfl, rfl⟩
    go_wp2
    go_ret
    exact ⟨none, 0, 0, rfl, ⟨rfl, Nat.le_refl _, by simp [maxLen], fun _ => rfl, .inl rfl⟩, by simp, B1.out⟩
  · have hcl : l.length ≤ cap1 := hc
    have HO : Hid (OwnV w1 w.heap.size (.slice (some ⟨g, 0, none⟩) l.length cap1) l) := ho
    have HG : Hid (w.heap.size ≤ g) := hg
    clear ho hh hc hm hsz ht hg
    have hlt : l.length < 1152921504606846976 := by omega
    go_wp2_with fail
    refine (sortV_own g cap1 _ l w1 HO.out hlt).mono ?_
    rintro e w2 ⟨rfl, dk, hs, hR, ho2, hk2⟩
    have B2 : Hid (Below w.heap.size w w2) := B1.out.trans (hk2.of_own B1.out.size HG.out)
    have HR : Hid _ := hR
    have HW : Hid (Srt l dk) := hs
    have O2 : Hid (OwnV w2 w.heap.size (.slice (some ⟨g, 0, none⟩) l.length cap1) (rd l dk)) := ho2
    have hdk : dk.size = l.length := hs.size
    clear hs hR ho2 hk2 B1 HO
    by_cases h2 : l.length < 2
    · go_wp2_with fail
      refine (compact_few _ _ _ _ h2).mono ?_
      rintro e w3 ⟨rfl, rfl⟩
      go_wp2
      go_ret
      obtain ⟨a, c, e1, hsl, _⟩ := SlV.of_own O2.out
      injection e1 with e1 e2 e3
      subst e1; subst e3
      rw [words_one HW.out h2] at hsl
      have hn : (Z.wds l).length = l.length := by rw [← words_one HW.out h2, rd_length, hdk]
      rw [hn] at hsl
      exact ⟨_, _, _, rfl, hsl, fun b hb => by simp at hb; rw [← hb]; exact HG.out, B2.out⟩
    · have hz0 : ∀ w, (zeroValue 24).run Try.prog w = .ok (.agg (encL l l.length).toArray) w := by
        have : encL l l.length = [.int .i64 0, .int .i64 0, .string ⟨#[]⟩] := by unfold encL; rw [List.getD_eq_getElem?_getD, List.getElem?_eq_none (Nat.le_refl _)]; rfl
        intro w; rw [this]; exact Try.zeroValue24 w
      have hC := compactV layV Try.underlying62 Try.isAgg62 Try.sizeOf62 Try.func34 3 Try.isAgg24 Try.sizeOf24 (encL l) (efL l) l.length hz0 rfl 35 #[] g 0 cap1 dk w2 HR.out (enters_of Try.func35 (by kernel_rfl) rfl) (eq_lays l g 0 _ w2) (by omega) (by omega) (by omega)
      rw [hdk] at hC
      have HC : Hid _ := hC
      clear hC hz0
      go_wp2_with fail
      refine Calls.mono HC.out ?_
      rintro e w3 ⟨rfl, d3, hd3, hw3, hx3⟩
      have h3 := own_sorted (l := l) (l0 := rd l dk) (dk := d3) (w2 := w3) (by rw [rd_length, hdk]; exact O2.out) (by rw [rd_length, hdk]; exact hd3) hw3
      rw [rd_length, hdk] at h3
      obtain ⟨m, hm⟩ : ∃ m, (Y.cpt (efL l) dk l.length).length = m := ⟨_, rfl⟩
      have hml : m ≤ l.length := by rw [← hm]; exact cpt_le _ _ _
      have ht : (rd l d3).take m = Z.wds l := by
        rw [← cw_wds HW.out]
        unfold cw
        apply List.ext_getElem?
        intro x
        by_cases hx : x < m
        · rw [List.getElem?_take_of_lt hx, rd_get l d3 x (by omega), List.getElem?_map, hx3 x (by omega)]; rfl
        · rw [List.getElem?_take_eq_none (by omega), List.getElem?_eq_none (by simp; omega)]
      obtain ⟨a, c, e1, hsl, _⟩ := SlV.of_own h3.1
      rw [rd_length, hd3] at e1 hsl
      injection e1 with e1 e2 e3
      subst e1; subst e3
      have hsl2 := hsl.take hml
      rw [ht] at hsl2
      have FIN : Hid (WordsAns w l (.returned (.slice (some ⟨g, 0, none⟩) m cap1)) w3) := ⟨_, _, _, rfl, hsl2, fun b hb => by simp at hb; rw [← hb]; exact HG.out, B2.out.trans (h3.2.of_own B2.out.size HG.out)⟩
      rw [hm]
      clear hsl hsl2 h3 hx3 hw3 ht hm HC O2 HW HR
      go_wp2
      go_ret
      exact FIN.out
end Go.Proofs.Ytmhfpipeoojacaa

/- The contract of Pack. -/
import Derived.Test.YtmhfpipeoojacaaBdT
import Derived.Test.YtmhfpipeoojacaaBdZA
import Derived.Laws.BytesArg
import Derived.Test.YtmhfpipeoojacaaBdZ
namespace Go.Proofs.Ytmhfpipeoojacaa
set_option linter.unusedVariables false
open Go.RowKit

/-- A new Writer. -/
theorem Wr.fresh (w : World) : Wr (w.alloc (.cells #[.slice none 0 0, .int .i64 0] 76)) w.heap.size (.slice none 0 0) [] :=
  ⟨heap_alloc_new w _, World.ownsRow_nil _ _ _ _⟩

theorem WS.below {w w' : World} {v' : Value} (o : Obj) (h : WS w.heap.size (w.alloc o) (.slice none 0 0) w' v') : Below w.heap.size w w' := by
  have h1 := ((Kept.refl (fun k => w.heap.size ≤ k) w).alloc o).trans' h.1 (by
    rintro x (rfl | hx)
    · exact .inl (Nat.le_refl _)
    · simp [Value.ownBlock] at hx)
  exact h1.below (Nat.le_refl _) (fun k hk => hk)

set_option maxHeartbeats 400000 in
theorem pack_arg (ao : Option Addr) (len cap : Nat) (k : Int) (w : World) (h : k < 0 ∨ 64 < k) :
    Calls Try.prog 27 #[.slice ao len cap, .int .i64 k] w fun e w' => e = .returned (.tuple #[.slice none 0 0, .int .i64 1]) ∧ w' = w := by
  go_enter Try.func27, Try.ntmps27
  go_wp2_with (go_at_call 51; refine (may_no _ _ h).mono ?_; rintro e w' ⟨rfl, rfl⟩)
  go_ret2
  exact ⟨rfl, rfl⟩

set_option maxHeartbeats 400000 in
theorem pack_some (b off len cap : Nat) (l : List Int) (k : Nat) (w : World) (hl : l.length = len) (hm : len * 64 + 64 < 1099511627776) (hb : b < w.heap.size) (hc : ∀ i, i < len → w.cell? ⟨b, off + i, none⟩ = some (.int .u64 (l.getD i 0))) (hin : In64 l) (hk : k ≤ 64) :
    Calls Try.prog 27 #[.slice (some ⟨b, off, none⟩) len cap, .int .i64 k] w fun e w' =>
      (Fit l k ∧ ∃ v', e = .returned (.tuple #[v', .int .i64 0]) ∧ w'.ownsRow w.heap.size 5 1 v' (A.bytesOf (bitsAll l k)).length (B8 (A.bytesOf (bitsAll l k))) ∧ Below w.heap.size w w') ∨
      (¬ Fit l k ∧ e = .returned (.tuple #[.slice none 0 0, .int .i64 1]) ∧ Below w.heap.size w w') := by
  have HI := hide hin
  clear hin
  go_enter Try.func27, Try.ntmps27
  go_wp2_with (go_at_call 51; refine (may_yes _ _ (by omega) (by omega)).mono ?_; rintro e w' ⟨rfl, rfl⟩)
  go_loopw [17] (fun i wr => ∃ j : Nat, j ≤ len ∧ i = .int .i64 j ∧ Fit (l.take j) k ∧ ∃ v1, Wr wr w'.heap.size v1 (bitsAll (l.take j) k) ∧ WS w'.heap.size (w'.alloc (.cells #[.slice none 0 0, .int .i64 0] 76)) (.slice none 0 0) wr v1) (fun i _ => len - (intOf i).toNat)
  case atStart => exact ⟨0, Nat.zero_le _, rfl, by intro x hx; simp at hx, _, Wr.fresh w', WS.refl _ _ _⟩
  case round =>
    obtain ⟨j, hj, rfl, hfit, v1, hw1, hs1⟩ := hrel
    have hbel := WS.below _ hs1
    have hbl := bitsAll_le l k j hk
    by_cases hlt : j < len
    · have hck : wr.cell? ⟨b, off + j, none⟩ = some (.int .u64 (l.getD j 0)) := by rw [hbel.cell (p := ⟨b, off + j, none⟩) hb]; exact hc j hlt
      obtain ⟨h0, h1⟩ := HI.out.getD j
      have HT := hide (take_snocD l j (by omega))
      have HF : Hid (l.getD j 0 < (2 : Int) ^ k → Fit (l.take (j + 1)) k) := fun hx => hfit.snoc (by omega) hx
      have HM : Hid (l.getD j 0 ∈ l) := by have : l.getD j 0 = l[j] := by simp [List.getD, show j < l.length by omega]
                                           show l.getD j 0 ∈ l
                                           rw [this]; exact List.getElem_mem _
      have HS := hide hs1
      have HB := hide hbel
      obtain ⟨x, hxe⟩ : ∃ x, l.getD j 0 = x := ⟨_, rfl⟩
      rw [hxe] at hck h0 h1 HT HF HM
      clear hc hfit hs1 hbel hxe
      by_cases hx : x < (2 : Int) ^ k
      · have HX := hide hx
        clear hx
        go_wp2_with fail
        refine (put_yes _ v1 _ x k wr hw1 (by omega) h0 HX.out h1 hk).mono ?_
        rintro e w2 ⟨rfl, v2, hw2, hs2⟩
        go_wp2
        go_roundw
        case rel => exact ⟨j + 1, by omega, by go_num, HF.out HX.out, v2, by rw [HT.out, bitsAll_snoc]; exact hw2, HS.out.trans hs2⟩
        case measure => simp [intOf]; omega
      · have HX := hide (Int.not_lt.1 hx)
        clear hx
        go_wp2_with fail
        refine (put_no _ x k wr h0 h1 (.inr (.inr (by rw [Int.toNat_natCast]; exact HX.out)))).mono ?_
        rintro e w2 ⟨rfl, rfl⟩
        go_wp2
        go_ret2
        exact .inr ⟨fun hf => Int.not_lt.2 HX.out (hf x HM.out), rfl, HB.out⟩
    · have hjl : j = len := by omega
      subst hjl
      rw [List.take_of_length_le (by omega)] at hw1 hfit
      rw [List.take_of_length_le (by omega)] at hbl
      have HF := hide hfit
      have HB := hide hbel
      clear hfit hbel hs1 hc
      go_wp2_with fail
      refine (bytes_any _ v1 _ wr hw1 (by omega)).mono ?_
      rintro e w2 ⟨v2, rfl, ho2, hb2⟩
      go_wp2
      go_ret2
      have hs := HB.out.size
      exact .inl ⟨HF.out, v2, rfl, owns_base ho2 fun g hg => by have := (owns_lt ho2 hg).1; omega, HB.out.trans (hb2.mono hs)⟩

set_option maxHeartbeats 400000 in
theorem pack_none (ao : Option Addr) (cap : Nat) (k : Nat) (w : World) (hk : k ≤ 64) :
    Calls Try.prog 27 #[.slice ao 0 cap, .int .i64 k] w fun e w' =>
      ∃ v', e = .returned (.tuple #[v', .int .i64 0]) ∧ w'.ownsRow w.heap.size 5 1 v' 0 [] ∧ Below w.heap.size w w' := by
  go_enter Try.func27, Try.ntmps27
  go_wp2_with (go_at_call 51; refine (may_yes _ _ (by omega) (by omega)).mono ?_; rintro e w' ⟨rfl, rfl⟩)
  go_loopw [17] (fun i wr => i = .int .i64 0 ∧ wr = w'.alloc (.cells #[.slice none 0 0, .int .i64 0] 76)) (fun _ _ => 0)
  case atStart => exact ⟨rfl, rfl⟩
  case round =>
    obtain ⟨rfl, rfl⟩ := hrel
    go_wp2_with fail
    refine (bytes_any _ _ _ _ (Wr.fresh w') (by simp)).mono ?_
    rintro e w2 ⟨v2, rfl, ho2, hb2⟩
    go_wp2
    go_ret2
    exact ⟨v2, rfl, owns_base ho2 fun g hg => by have := (owns_lt ho2 hg).1; simp at this; omega, ((Below.refl _ _).alloc (Nat.le_refl _) _).trans (hb2.mono (by simp))⟩

/-- Pack: of whatever numbers, with a width that may be. -/
theorem pack_any (ao : Option Addr) (len cap : Nat) (l : List Int) (k : Nat) (w : World) (h : Sl w .u64 ao len cap l) (hm : len * 64 + 64 < 1099511627776) (hin : In64 l) (hk : k ≤ 64) :
    Calls Try.prog 27 #[.slice ao len cap, .int .i64 k] w fun e w' =>
      (Fit l k ∧ ∃ v', e = .returned (.tuple #[v', .int .i64 0]) ∧ w'.ownsRow w.heap.size 5 1 v' (A.bytesOf (bitsAll l k)).length (B8 (A.bytesOf (bitsAll l k))) ∧ Below w.heap.size w w') ∨
      (¬ Fit l k ∧ e = .returned (.tuple #[.slice none 0 0, .int .i64 1]) ∧ Below w.heap.size w w') := by
  obtain ⟨h1, h2, h3, h4, h5⟩ := h
  by_cases h0 : len = 0
  · subst h0
    obtain rfl : l = [] := List.eq_nil_of_length_eq_zero h1
    refine (pack_none ao cap k w hk).mono ?_
    rintro e w' ⟨v', he, ho, hb⟩
    exact .inl ⟨(by intro x hx; simp at hx), v', he, by simpa [bitsAll, A.bytesOf, B8] using ho, hb⟩
  · rcases h5 with h5 | ⟨b, off, rfl, hlt, h5⟩
    · omega
    · exact pack_some b off len cap l k w h1 hm hlt h5 hin hk
end Go.Proofs.Ytmhfpipeoojacaa
/- The text of bytes; the statements' own head: 'shown'. -/
namespace Go.Proofs.Ytmhfpipeoojacaa
set_option linter.unusedVariables false
open Go.RowKit

theorem Sl.three (w : World) (t : TypeId) (a b c : Int) : Sl (w.alloc (.cells #[.int .u64 a, .int .u64 b, .int .u64 c] t)) .u64 (some ⟨w.heap.size, 0, none⟩) 3 3 [a, b, c] := by
  refine ⟨rfl, Nat.le_refl _, by decide, by simp, .inr ⟨_, _, rfl, by simp, ?_⟩⟩
  intro i hi
  match i, hi with
  | 0, _ => simp
  | 1, _ => simp
  | 2, _ => simp

theorem bytes_517 : A.bytesOf (bitsAll [5, 1, 7] 3) = [205, 1] := by decide
theorem width_517 : bitLen (orAll [5, 1, 7]) = 3 := by decide
theorem str_517 : strOfNums (ints [205, 1]) = ⟨#[205, 1]⟩ := by decide
theorem fit_517 : Fit [5, 1, 7] 3 := by
  intro x hx
  simp at hx
  rcases hx with rfl | rfl | rfl <;> decide
theorem in_517 : In64 [5, 1, 7] := by
  intro x hx
  simp at hx
  rcases hx with rfl | rfl | rfl <;> decide

end Go.Proofs.Ytmhfpipeoojacaa
/- Plain facts on widths; Width under one name; the reference's Same. -/
namespace Go.Proofs.Ytmhfpipeoojacaa
set_option linter.unusedVariables false
open Go.RowKit
theorem Try.infoU64 : (Try.prog.info? 44).map (fun i => (i.zero, i.size, i.bytes)) = some (some (.int .u64 0), 1, 8) := by kernel_rfl

/-- Width, its answer under one name. -/
theorem width_w (ao : Option Addr) (len cap : Nat) (l : List Int) (w : World) (h : Sl w .u64 ao len cap l) (hm : len ≤ 140737488355328) (hin : In64 l) :
    Calls Try.prog 54 #[.slice ao len cap] w fun e w' => e = .returned (.int .i64 ((wid l : Nat) : Int)) ∧ w' = w := width_any ao len cap l w h hm hin

set_option maxHeartbeats 400000 in
theorem u64same_none (ao bo : Option Addr) (ca cb : Nat) (w : World) :
    Calls Try.prog 12 #[.slice ao 0 ca, .slice bo 0 cb] w fun e w' => e = .returned (.bool true) ∧ Kept (fun _ => False) w w' := by
  go_enter Try.func12, Try.ntmps12
  go_wp2_with fail
  go_loopw [5] (fun i wr => i = .int .i64 0 ∧ wr = w) (fun _ _ => 0)
  case atStart => exact ⟨rfl, rfl⟩
  case round =>
    obtain ⟨rfl, rfl⟩ := hrel
    go_wp2
    go_ret
    exact ⟨rfl, Kept.refl _ _⟩

set_option maxHeartbeats 400000 in
theorem u64same_some (b1 o1 b2 o2 len ca cb : Nat) (l : List Int) (w : World) (hm : len ≤ 140737488355328) (h1 : b1 < w.heap.size) (h2 : b2 < w.heap.size) (hc1 : ∀ i, i < len → w.cell? ⟨b1, o1 + i, none⟩ = some (.int .u64 (l.getD i 0))) (hc2 : ∀ i, i < len → w.cell? ⟨b2, o2 + i, none⟩ = some (.int .u64 (l.getD i 0))) :
    Calls Try.prog 12 #[.slice (some ⟨b1, o1, none⟩) len ca, .slice (some ⟨b2, o2, none⟩) len cb] w fun e w' => e = .returned (.bool true) ∧ Kept (fun _ => False) w w' := by
  have hb : ((len : Int) != (len : Int)) = false := by simp
  go_enter Try.func12, Try.ntmps12
  go_wp2_with fail
  go_loopw [5] (fun i wr => ∃ k : Nat, k ≤ len ∧ i = .int .i64 k ∧ Kept (fun _ => False) w wr) (fun i _ => len - (intOf i).toNat)
  case atStart => exact ⟨0, Nat.zero_le _, rfl, Kept.refl _ _⟩
  case round =>
    obtain ⟨k, hk, rfl, hkr⟩ := hrel
    by_cases hlt : k < len
    · have e1 : wr.cell? ⟨b1, o1 + k, none⟩ = some (.int .u64 (l.getD k 0)) := by rw [hkr.cell (p := ⟨b1, o1 + k, none⟩) h1 (by simp)]; exact hc1 k hlt
      have e2 : wr.cell? ⟨b2, o2 + k, none⟩ = some (.int .u64 (l.getD k 0)) := by rw [hkr.cell (p := ⟨b2, o2 + k, none⟩) h2 (by simp)]; exact hc2 k hlt
      obtain ⟨x, hxe⟩ : ∃ x, l.getD k 0 = x := ⟨_, rfl⟩
      rw [hxe] at e1 e2
      have hx : (x != x) = false := by simp
      clear hc1 hc2 hxe
      go_wp2
      go_region
      all_goals go_wp2
      all_goals
        go_roundw
        case rel => exact ⟨k + 1, by omega, by go_num, hkr.drew⟩
        case measure => simp [intOf]; omega
    · clear hc1 hc2
      go_wp2
      go_ret
      exact ⟨rfl, hkr⟩

/-- The reference's Same, of two lists that are the same. -/
theorem u64same_yes (ao bo : Option Addr) (len ca cb : Nat) (l : List Int) (w : World) (h1 : Sl w .u64 ao len ca l) (h2 : Sl w .u64 bo len cb l) (hm : len ≤ 140737488355328) :
    Calls Try.prog 12 #[.slice ao len ca, .slice bo len cb] w fun e w' => e = .returned (.bool true) ∧ Kept (fun _ => False) w w' := by
  by_cases h0 : len = 0
  · subst h0; exact u64same_none ao bo ca cb w
  · rcases h1.2.2.2.2 with h | ⟨b1, o1, rfl, hb1, hc1⟩
    · omega
    · rcases h2.2.2.2.2 with h | ⟨b2, o2, rfl, hb2, hc2⟩
      · omega
      · exact u64same_some b1 o1 b2 o2 len ca cb l w hm hb1 hb2 hc1 hc2
end Go.Proofs.Ytmhfpipeoojacaa
/- dict.Codes: values' places among words, or none. Conditions: fewer than 2^40 words and values. -/
namespace Go.Proofs.Ytmhfpipeoojacaa
set_option linter.unusedVariables false
set_option maxRecDepth 10000
open Go.RowKit Go.Sort
/-- Codes put down so far. -/
def cdTo (ws l : List Z.V) (n j : Nat) : List Value := (ints ((l.take j).map (Z.cdN ws))).map (Value.int .u64) ++ List.replicate (n - j) (.int .u64 0)
theorem cdTo_zero (ws l : List Z.V) (n : Nat) : cdTo ws l n 0 = List.replicate n (.int .u64 0) := by simp [cdTo, ints]
theorem cdTo_len {ws l : List Z.V} {j : Nat} (h : j ≤ l.length) : ((ints ((l.take j).map (Z.cdN ws))).map (Value.int .u64)).length = j := by simp [ints]; omega
theorem cdTo_at {ws l : List Z.V} {j : Nat} (h : j < l.length) : (cdTo ws l l.length j)[j]? = some (.int .u64 0) := by
  unfold cdTo
  have h1 := cdTo_len (ws := ws) (Nat.le_of_lt h)
  rw [List.getElem?_append_right (by omega), h1, Nat.sub_self, List.getElem?_replicate, if_pos (by omega)]
theorem cdTo_set {ws l : List Z.V} {j : Nat} {x : Z.V} (h : l[j]? = some x) : (cdTo ws l l.length j).set j (.int .u64 (Z.cdN ws x : Nat)) = cdTo ws l l.length (j + 1) := by
  have hj := (List.getElem?_eq_some_iff.1 h).1
  have h1 := cdTo_len (ws := ws) (Nat.le_of_lt hj)
  unfold cdTo
  rw [List.set_append_right _ _ (by omega), h1, Nat.sub_self, take_snocV h]
  obtain ⟨m, hm⟩ : ∃ m, l.length - j = m + 1 := ⟨l.length - j - 1, by omega⟩
  rw [hm, show l.length - (j + 1) = m by omega, List.replicate_succ]
  simp [ints]
theorem SlV.kept0 {F : Nat → Prop} {w w' : World} {ao : Option Addr} {len cap : Nat} {l : List Z.V} (h : SlV w ao len cap l) (hb : Kept F w w') (hf : ∀ b, b < w.heap.size → ¬ F b) : SlV w' ao len cap l := by
  obtain ⟨h1, h2, h3, h4, h5⟩ := h
  refine ⟨h1, h2, h3, h4, ?_⟩
  rcases h5 with h5 | ⟨b, off, rfl, hlt, h5⟩
  · exact .inl h5
  · refine .inr ⟨b, off, rfl, Nat.lt_of_lt_of_le hlt hb.size, fun j x hx => ?_⟩
    have e := hb.block b hlt (hf _ hlt)
    obtain ⟨c1, c2, c3⟩ := h5 j x hx
    simp only [World.cell?] at c1 c2 c3 ⊢
    rw [e]
    exact ⟨c1, c2, c3⟩
theorem Sl.keptO {F : Nat → Prop} {w w' : World} {k : IntKind} {ao : Option Addr} {len cap : Nat} {l : List Int} (h : Sl w k ao len cap l) (hb : Kept F w w') (hf : ∀ b, b < w.heap.size → ¬ F b) : Sl w' k ao len cap l := by
  obtain ⟨h1, h2, h3, h4, h5⟩ := h
  refine ⟨h1, h2, h3, h4, ?_⟩
  rcases h5 with h5 | ⟨b, off, rfl, hlt, h5⟩
  · exact .inl h5
  · refine .inr ⟨b, off, rfl, Nat.lt_of_lt_of_le hlt hb.size, fun j hj => ?_⟩
    rw [hb.cell (p := ⟨b, off + j, none⟩) hlt (hf _ hlt)]
    exact h5 j hj
theorem Sl.nil0 (w : World) (k : IntKind) : Sl w k none 0 0 [] := ⟨rfl, Nat.le_refl _, by simp [maxLen], fun _ => rfl, .inl rfl⟩
/-- What the call answers. -/
def CodesAns (w : World) (ws l : List Z.V) (e : Ending) (w' : World) : Prop := ∃ a n c, e = .returned (.tuple #[.slice a n c, .int .i64 (Z.cdE ws l)]) ∧ Sl w' .u64 a n c (ints (Z.cdL ws l)) ∧ Below w.heap.size w w'
set_option maxHeartbeats 2000000 in
theorem codes_any (ao : Option Addr) (cap : Nat) (ws : List Z.V) (al : Option Addr) (lcap : Nat) (l : List Z.V) (w : World) (h : SlV w ao ws.length cap ws) (hL : SlV w al l.length lcap l) (hw : ws.length ≤ 1099511627776) (hl : l.length ≤ 1099511627776) :
    Calls Try.prog 10 #[.slice ao ws.length cap, .slice al l.length lcap] w (CodesAns w ws l) := by
  obtain ⟨i0, hi0, hz0, hz1, hz2⟩ := info_parts Try.infoU64
  obtain ⟨w1, hw1⟩ : ∃ w1, w.alloc (.cells #[.slice ao ws.length cap] 22) = w1 := ⟨_, rfl⟩
  have hb1 : Below w.heap.size w w1 := by rw [← hw1]; exact below_one w _
  have hbx : w1.cell? ⟨w.heap.size, 0, none⟩ = some (.slice ao ws.length cap) := by rw [← hw1]; simp
  have hsz : w.heap.size < w1.heap.size := by rw [← hw1]; simp
  have HW := hide hw1
  have HB1 := hide hb1
  have HX := hide hbx
  have HS := hide (h.below hb1)
  have HL := hide (hL.below hb1)
  clear h hL hb1 hbx hw1
  go_enter Try.func10, Try.ntmps10
  go_wp2_with fail
  rw [HW.out]
  refine (places_any ao ws.length cap ws w1 HS.out hw).mono ?_
  rintro e w2 ⟨ap, pc, dk, rfl, hs, hp, hb2⟩
  have HB2 := hide hb2
  have HP := hide hp
  have HR := hide hs
  clear hb2 hp hs
  go_wp2_with (at_make; refine wpList_make_full _ rfl _ _ 27 rfl w2.heap.size 44 i0 (.int .u64 0) 1 Try.underlying27 hi0 hz0 hz1 _ _ _ _ l.length rfl rfl rfl rfl (by rw [hz2]; omega) (by unfold maxLen; omega) (Nat.le_refl _) ?_)
  intro w3 ho hg
  have hb3 : Below w2.heap.size w2 w3 := (Below.refl _ w2).grown hg (Nat.le_refl _) (by simp)
  rw [toList_madeCells_one, ← cdTo_zero ws l] at ho
  have HO := hide ho
  have HK := hide (Kept.of_below hb3 (fun b => b = w2.heap.size))
  clear ho hg hb3
  go_wp2_with fail
  go_loopw [19] (fun i wr => ∃ j : Nat, j ≤ l.length ∧ i = .int .i64 j ∧ Hid (wr.ownsRow w2.heap.size 44 1 (.slice (some ⟨w2.heap.size, 0, none⟩) l.length l.length) l.length (cdTo ws l l.length j)) ∧ Hid (Kept (fun b => b = w2.heap.size) w2 wr) ∧ Hid (∀ v ∈ l.take j, Z.has ws v = true)) (fun i _ => l.length - (intOf i).toNat)
  case atStart => exact ⟨0, Nat.zero_le _, rfl, HO, HK, hide (by simp)⟩
  case round =>
    obtain ⟨j, hj, rfl, hor, hkr, HH⟩ := hrel
    clear HO HK
    have hbw : Below w.heap.size w wr := HB1.out.trans ((HB2.out.mono (Nat.le_of_lt hsz)).trans (hkr.out.below (by have := HB2.out.size; omega) (fun k e => by subst e; have := HB2.out.size; omega)))
    by_cases hjl : j < l.length
    · have hC : ∀ b, b < w2.heap.size → ¬ b = w2.heap.size := fun b hb => by omega
      obtain ⟨b, off, xk, xi, xs, rfl, hlt, hx, c1, c2, c3⟩ := (HL.out.below HB2.out).at hjl
      have d1 : wr.cell? ⟨b, off + j * 3, none⟩ = some (.int .i64 xk) := by rw [hkr.out.cell (p := ⟨b, off + j * 3, none⟩) hlt (hC b hlt)]; exact c1
      have d2 : wr.cell? ⟨b, off + j * 3 + 1, none⟩ = some (.int .i64 xi) := by rw [hkr.out.cell (p := ⟨b, off + j * 3 + 1, none⟩) hlt (hC b hlt)]; exact c2
      have d3 : wr.cell? ⟨b, off + j * 3 + 2, none⟩ = some (.string xs) := by rw [hkr.out.cell (p := ⟨b, off + j * 3 + 2, none⟩) hlt (hC b hlt)]; exact c3
      obtain ⟨w4, hw4⟩ : ∃ w4, wr.alloc (.cells #[.int .i64 xk, .int .i64 xi, .string xs] 24) = w4 := ⟨_, rfl⟩
      have hb4 : Below wr.heap.size wr w4 := by rw [← hw4]; exact below_one wr _
      have hk4 : Kept (fun b => b = w2.heap.size) w2 w4 := by rw [← hw4]; exact hkr.out.alloc _
      have hor4 : w4.ownsRow w2.heap.size 44 1 (.slice (some ⟨w2.heap.size, 0, none⟩) l.length l.length) l.length (cdTo ws l l.length j) := owns_below hor.out hb4
      have hbig : w.heap.size < w2.heap.size := Nat.lt_of_lt_of_le hsz HB2.out.size
      have hbox : w4.cell? ⟨w.heap.size, 0, none⟩ = some (.slice ao ws.length cap) := by rw [hk4.cell (p := ⟨w.heap.size, 0, none⟩) hbig (hC _ hbig), HB2.out.cell (p := ⟨w.heap.size, 0, none⟩) hsz]; exact HX.out
      have hp4 := HP.out.keptO hk4 hC
      have HBIN := hide (bin_any ap pc dk ao cap w.heap.size ws xk xi xs w4 HR.out hp4 ((HS.out.below HB2.out).kept0 hk4 hC) hbox (Nat.lt_of_lt_of_le hbig hk4.size) hw)
      have HW4 := hide hw4
      have HK4 := hide hk4
      have HO4 := hide hor4
      have HP4 := hide hp4
      have HBW := hide (hbw.trans (hb4.mono hbw.size))
      have HX2 := hide hx
      clear c1 c2 c3 hb4 hk4 hor4 hbox hp4 hw4 hx hbw hor hkr
      go_wp2_with fail
      rw [HW4.out]
      refine Calls.mono HBIN.out ?_
      rintro e w5 ⟨i, f, rfl, hF, hb5⟩
      have HB5 := hide (HBW.out.trans (hb5.mono HBW.out.size))
      cases f with
      | false =>
        have hno := fnd_no HR.out hF
        have hE : Z.cdE ws l = 6 := cdE_bad (List.mem_of_getElem? HX2.out) hno
        have FIN : Hid (CodesAns w ws l (.returned (.tuple #[.slice none 0 0, .int .i64 6])) w5) := ⟨none, 0, 0, by rw [hE], by rw [cdL_bad (by rw [hE]; decide)]; exact Sl.nil0 _ _, HB5.out⟩
        clear hF hno hE hb5 d1 d2 d3 HBIN
        go_wp2
        go_ret2
        exact FIN.out
      | true =>
        obtain ⟨hi, hhas, hcd⟩ := fnd_yes HR.out hF
        have hdp := HR.out.lt i hi
        obtain ⟨bp, offp, rfl, hltp, hcp⟩ := (HP4.out.below hb5).at hi
        rw [ints_at dk i (by rw [HR.out.size]; exact hi)] at hcp
        obtain ⟨p, hp⟩ : ∃ p, dk[i]! = p := ⟨_, rfl⟩
        rw [hp] at hcp hdp hcd
        have hor5 := owns_below HO4.out hb5
        have hc6 := hor5.cellAt j (by omega)
        rw [cdTo_at hjl] at hc6
        have hf6 := hor5.frozenAt j
        have HO6 := hide (hor5.stored j (.int .u64 (p : Int))).1
        have HCD := hide hcd
        have HK5 := hide (HK4.out.trans' (G := fun _ => False) (Kept.of_below hb5 _) (by simp))
        have HH2 : Hid (∀ v ∈ l.take (j + 1), Z.has ws v = true) := by
          intro v hv
          rw [take_snocV HX2.out] at hv
          rcases List.mem_append.1 hv with hv | hv
          · exact HH.out v hv
          · simp at hv; subst hv; exact hhas
        have zp : IntKind.u64.wrap (p : Int) = (p : Int) := by rw [u64_wrap]; omega
        have hiz : (i : Int) < (ws.length : Int) := by omega
        clear hF hhas hb5 d1 d2 d3 HBIN hp hcd hor5 HH hltp
        go_wp2
        go_roundw
        case rel => exact ⟨j + 1, hjl, by go_num, hide (by rw [← cdTo_set HX2.out, HCD.out]; exact HO6.out), hide (HK5.out.setCell (p := ⟨w2.heap.size, j, none⟩) (.inl rfl) _), HH2⟩
        case measure => simp [intOf]; omega
    · obtain rfl : j = l.length := by omega
      have hall : ∀ v ∈ l, Z.has ws v = true := by have := HH.out; rwa [List.take_length] at this
      have hE := cdE_ok hall
      have hrow : wr.ownsRow w2.heap.size 44 1 (.slice (some ⟨w2.heap.size, 0, none⟩) l.length l.length) (ints (Z.cdL ws l)).length ((ints (Z.cdL ws l)).map (Value.int .u64)) := by
        have e1 : cdTo ws l l.length l.length = (ints (Z.cdL ws l)).map (Value.int .u64) := by rw [cdL_ok hE]; simp [cdTo]
        have e2 : (ints (Z.cdL ws l)).length = l.length := by rw [cdL_ok hE]; simp [ints]
        rw [e2, ← e1]; exact hor.out
      obtain ⟨ax, cx, hv, hsx, _⟩ := Sl.of_owns hrow
      have e2 : (ints (Z.cdL ws l)).length = l.length := by rw [cdL_ok hE]; simp [ints]
      rw [e2] at hv hsx
      injection hv with hv1 hv2 hv3
      subst hv1; subst hv3
      have FIN : Hid (CodesAns w ws l (.returned (.tuple #[.slice (some ⟨w2.heap.size, 0, none⟩) l.length l.length, .int .i64 0])) wr) := ⟨_, _, _, by rw [hE], hsx, hbw⟩
      clear hall hE hrow hsx e2 hbw hor hkr HH
      go_wp2
      go_ret2
      exact FIN.out
end Go.Proofs.Ytmhfpipeoojacaa
/- The document's Codes: values' places among words, or none. Conditions: fewer than 2^40 words and values, texts that a machine can hold. -/
namespace Go.Proofs.Ytmhfpipeoojacaa
set_option linter.unusedVariables false
set_option maxRecDepth 10000
open Go.RowKit Go.Sort
theorem plI_has {ws : List Z.V} {v : Z.V} (h : Z.has ws v = true) : Z.plI ws v = (Z.cdN ws v : Nat) := by
  obtain ⟨j, hj⟩ := pl_has h
  unfold Z.plI Z.cdN; rw [hj]; rfl
theorem plI_hasno {ws : List Z.V} {v : Z.V} (h : Z.has ws v = false) : Z.plI ws v = -1 := by
  unfold Z.plI; rw [pl_none.2 h]
theorem cdN_lt {ws : List Z.V} {v : Z.V} (h : Z.has ws v = true) : Z.cdN ws v < ws.length := by
  obtain ⟨y, hy, _⟩ := cdN_has h
  exact (List.getElem?_eq_some_iff.1 hy).1
set_option maxHeartbeats 2000000 in
theorem rcodes_any (ao : Option Addr) (cap : Nat) (ws : List Z.V) (al : Option Addr) (lcap : Nat) (l : List Z.V) (w : World) (h : SlV w ao ws.length cap ws) (hL : SlV w al l.length lcap l) (hw : ws.length ≤ 1099511627776) (hl : l.length ≤ 1099511627776) (sw : ∀ x ∈ ws, x.s.size ≤ 9223372036854775807) (sl : ∀ x ∈ l, x.s.size ≤ 9223372036854775807) :
    Calls Try.prog 11 #[.slice ao ws.length cap, .slice al l.length lcap] w (CodesAns w ws l) := by
  obtain ⟨i0, hi0, hz0, hz1, hz2⟩ := info_parts Try.infoU64
  have HS := hide h
  have HL := hide hL
  have SW := hide sw
  have SLL := hide sl
  clear h hL sw sl
  go_enter Try.func11, Try.ntmps11
  go_wp2_with fail
  go_loopw [6, 7] (fun v i wr => ∃ j : Nat, j ≤ l.length ∧ i = .int .i64 j ∧ Hid (wr.ownsRow w.heap.size 44 1 v j ((ints ((l.take j).map (Z.cdN ws))).map (Value.int .u64))) ∧ Hid (Below w.heap.size w wr) ∧ Hid (∀ v ∈ l.take j, Z.has ws v = true)) (fun _ i _ => l.length - (intOf i).toNat)
  case atStart => exact ⟨0, Nat.zero_le _, rfl, hide (World.ownsRow_nil _ _ _ _), hide (Below.refl _ _), hide (by simp)⟩
  case round =>
    obtain ⟨j, hj, rfl, hor, hbw, HH⟩ := hrel
    by_cases hjl : j < l.length
    · obtain ⟨b, off, xk, xi, xs, rfl, hlt, hx, c1, c2, c3⟩ := HL.out.at hjl
      have d1 : wr.cell? ⟨b, off + j * 3, none⟩ = some (.int .i64 xk) := by rw [hbw.out.cell (p := ⟨b, off + j * 3, none⟩) hlt]; exact c1
      have d2 : wr.cell? ⟨b, off + j * 3 + 1, none⟩ = some (.int .i64 xi) := by rw [hbw.out.cell (p := ⟨b, off + j * 3 + 1, none⟩) hlt]; exact c2
      have d3 : wr.cell? ⟨b, off + j * 3 + 2, none⟩ = some (.string xs) := by rw [hbw.out.cell (p := ⟨b, off + j * 3 + 2, none⟩) hlt]; exact c3
      have HX := hide hx
      have HP := hide (rplace_any ao ws.length cap ws xk xi xs wr (HS.out.below hbw.out) SW.out (SLL.out _ (List.mem_of_getElem? hx)) (by omega))
      clear c1 c2 c3 hx
      go_wp2_with fail
      refine Calls.mono HP.out ?_
      rintro e w2 ⟨rfl, hb2⟩
      have HB2 := hide (hbw.out.trans (hb2.mono hbw.out.size))
      have hor2 := owns_below hor.out hb2
      cases hh : Z.has ws ⟨xk, xi, xs⟩ with
      | false =>
        rw [plI_hasno hh]
        have hE : Z.cdE ws l = 6 := cdE_bad (List.mem_of_getElem? HX.out) hh
        have FIN : Hid (CodesAns w ws l (.returned (.tuple #[.slice none 0 0, .int .i64 6])) w2) := ⟨none, 0, 0, by rw [hE], by rw [cdL_bad (by rw [hE]; decide)]; exact Sl.nil0 _ _, HB2.out⟩
        clear hh hE hor2 hb2 d1 d2 d3 HP
        go_wp2
        go_ret2
        exact FIN.out
      | true =>
        rw [plI_has hh]
        have hlt2 := cdN_lt hh
        obtain ⟨p, hp⟩ : ∃ p, Z.cdN ws ⟨xk, xi, xs⟩ = p := ⟨_, rfl⟩
        rw [hp] at hlt2 ⊢
        have HC := hide hp
        have HO2 := hide hor2
        have HH2 : Hid (∀ v ∈ l.take (j + 1), Z.has ws v = true) := by
          intro v hv
          rw [take_snocV HX.out] at hv
          rcases List.mem_append.1 hv with hv | hv
          · exact HH.out v hv
          · simp at hv; subst hv; exact hh
        have zp : IntKind.u64.wrap (p : Int) = (p : Int) := by rw [u64_wrap]; omega
        have hs2 := HB2.out.size
        clear hh hp hor2 hb2 d1 d2 d3 HP HH hor hbw
        go_wp2_with (at_builtin; refine wpList_append_to rfl _ _ 27 rfl w.heap.size 44 i0 (.int .u64 0) 1 8 Try.underlying27 hi0 hz0 hz1 hz2 rfl (by decide) _ _ _ rfl (HO2.out.alloc _) (some ⟨w2.heap.size, 0, none⟩) 1 1 [.int .u64 (p : Int)] rfl (by simp) rfl (Sl.news1 _ _) (one_oneCell _ _) (by unfold maxLen; omega) (by omega) (by simp; omega) ?_)
        intro v3 w3 hown3 has3
        have hk3 := ((Kept.refl (fun g => u6.ownBlock = some g) w2).alloc _).trans has3.1
        have hb3 : Below w.heap.size w w3 := HB2.out.trans (hk3.below hs2 (fun g hg => (owns_lt HO2.out hg).1))
        have HB3 := hide hb3
        have HO3 := hide hown3
        clear has3 hk3 hb3 hown3
        go_wp2
        go_roundw
        case rel => exact ⟨j + 1, by omega, by go_num, hide (by rw [take_snocV HX.out, List.map_append]; simpa [ints, HC.out] using HO3.out), HB3, HH2⟩
        case measure => simp [intOf]; omega
    · obtain rfl : j = l.length := by omega
      have hall : ∀ v ∈ l, Z.has ws v = true := by have := HH.out; rwa [List.take_length] at this
      have hE := cdE_ok hall
      have e2 : (ints (Z.cdL ws l)).length = l.length := by rw [cdL_ok hE]; simp [ints]
      have hrow : wr.ownsRow w.heap.size 44 1 u6 (ints (Z.cdL ws l)).length ((ints (Z.cdL ws l)).map (Value.int .u64)) := by
        have := hor.out
        rw [e2, cdL_ok hE]
        rwa [List.take_length] at this
      obtain ⟨ax, cx, hv, hsx, _⟩ := Sl.of_owns hrow
      have FIN : Hid (CodesAns w ws l (.returned (.tuple #[u6, .int .i64 0])) wr) := ⟨ax, _, cx, by rw [hE, hv], hsx, hbw.out⟩
      clear hall hE hrow hsx e2 hbw hor HH hv
      go_wp2
      go_ret2
      exact FIN.out
end Go.Proofs.Ytmhfpipeoojacaa

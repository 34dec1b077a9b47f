/- dict.risingPlaces, the call: the places of words in the order of these. Conditions: fewer than 2^40 words. -/
import Derived.Test.YtmhfpipeoojacaaBdZ
import Derived.Test.YtmhfpipeoojacaaBdB
import Derived.Test.YtmhfpipeoojacaaBdC
import Derived.Laws.BytesArg
namespace Go.Proofs.Ytmhfpipeoojacaa
set_option linter.unusedVariables false
set_option maxRecDepth 10000
open Go.RowKit Go.Sort
theorem sortI_none (ao : Option Addr) (cap : Nat) (cb : Array Value) (w : World) : Calls Try.prog 39 #[.slice ao 0 cap, .func (.func 40) #[] cb] w fun e w' => e = .returned (.tuple #[]) ∧ w' = w := by
  have hin : ∀ w, Calls Try.prog 85 #[.slice ao 0 cap, .int .i64 0, .int .i64 0, .func (.func 40) #[] cb] w fun e w' => e = .returned (.tuple #[]) ∧ w' = w := by
    intro w
    go_enter Try.func85, Try.ntmps85
    go_wp2
    refine wp_loop_rounds 1 ?_
    rw [rounds_succ]
    go_wp2
    go_end0
    exact ⟨rfl, rfl⟩
  have hst : ∀ w, Calls Try.prog 62 #[.slice ao 0 cap, .int .i64 0, .func (.func 40) #[] cb] w fun e w' => e = .returned (.tuple #[]) ∧ w' = w := by
    intro w
    go_enter Try.func62, Try.ntmps62
    go_wp2
    refine wp_loop_rounds 1 ?_
    rw [rounds_succ]
    go_wp2_with fail
    refine (hin _).mono ?_
    rintro e w1 ⟨rfl, rfl⟩
    go_wp2
    refine wp_loop_rounds 1 ?_
    rw [rounds_succ]
    go_wp2
    go_end0
    exact ⟨rfl, rfl⟩
  go_enter Try.func39, Try.ntmps39
  go_wp2_with fail
  refine (hst _).mono ?_
  rintro e w1 ⟨rfl, rfl⟩
  go_wp2
  go_end0
  exact ⟨rfl, rfl⟩
/-- Places put down so far. -/
def idTo (n j : Nat) : List Value := (ints (List.range j)).map (Value.int .i64) ++ List.replicate (n - j) (.int .i64 0)
theorem idTo_zero (n : Nat) : idTo n 0 = List.replicate n (.int .i64 0) := by simp [idTo, ints]
theorem idTo_all (n : Nat) : idTo n n = (ints (List.range n)).map (Value.int .i64) := by simp [idTo]
theorem idTo_at {n j : Nat} (h : j < n) : (idTo n j)[j]? = some (.int .i64 0) := by
  unfold idTo
  rw [List.getElem?_append_right (by simp [ints]), List.getElem?_replicate, if_pos (by simp [ints]; omega)]
theorem idTo_set {n j : Nat} (h : j < n) : (idTo n j).set j (.int .i64 (j : Int)) = idTo n (j + 1) := by
  unfold idTo
  rw [List.set_append_right _ _ (by simp [ints]), List.range_succ]
  obtain ⟨m, hm⟩ : ∃ m, n - j = m + 1 := ⟨n - j - 1, by omega⟩
  rw [hm, show n - (j + 1) = m by omega, List.replicate_succ]
  simp [ints]
/-- What the call answers. -/
def PlacesAns (w : World) (ws : List Z.V) (e : Ending) (w' : World) : Prop := ∃ a c, ∃ dk : Array Nat, e = .returned (.slice a ws.length c) ∧ Srt ws dk ∧ Sl w' .i64 a ws.length c (ints dk.toList) ∧ Below w.heap.size w w'
theorem srt_nil : Srt [] #[] := ⟨rfl, fun i j _ h => by simp at h, fun p h => by simp at h, fun i h => by simp at h⟩
set_option maxHeartbeats 1000000 in
theorem places_any (ao : Option Addr) (len cap : Nat) (ws : List Z.V) (w : World) (h : SlV w ao len cap ws) (hl : len ≤ 1099511627776) : Calls Try.prog 20 #[.slice ao len cap] w (PlacesAns w ws) := by
  have HL := hide h.1
  have HS := hide h
  clear h
  obtain ⟨i0, hi0, hz0, hz1, hz2⟩ := info_parts Try.infoInt
  go_enter Try.func20, Try.ntmps20
  go_wp2_with (at_make; refine wpList_make_full _ rfl _ _ 48 rfl (w.alloc (.cells #[.slice ao len cap] 22)).heap.size 3 i0 (.int .i64 0) 1 Try.underlying48 hi0 hz0 hz1 _ _ _ _ len rfl rfl rfl rfl (by rw [hz2]; omega) (by unfold maxLen; omega) (Nat.le_refl _) ?_)
  obtain ⟨w1, hw1⟩ : ∃ w1, w.alloc (.cells #[.slice ao len cap] 22) = w1 := ⟨_, rfl⟩
  have hsz1 : w1.heap.size = w.heap.size + 1 := by rw [← hw1]; simp
  have hbx : w1.cell? ⟨w.heap.size, 0, none⟩ = some (.slice ao len cap) := by rw [← hw1]; simp
  have hb1 : Below w.heap.size w w1 := by rw [← hw1]; exact below_one w _
  rw [hw1]
  intro w2 ho hg
  have hb2 : Below (w.heap.size + 1) w1 w2 := by rw [← hsz1]; exact (Below.refl _ w1).grown hg (Nat.le_refl _) (by simp)
  rw [toList_madeCells_one, ← idTo_zero] at ho
  have HO := hide ho
  have HB2 := hide hb2
  have HB1 := hide hb1
  have HX := hide hbx
  have HZ := hide hsz1
  clear ho hg hb2 hb1 hbx hsz1 hw1
  go_wp2_with fail
  go_loopw [10] (fun i wr => ∃ j : Nat, j ≤ len ∧ i = .int .i64 j ∧ Hid (wr.ownsRow (w.heap.size + 1) 3 1 (.slice (some ⟨(w.heap.size + 1), 0, none⟩) len len) len (idTo len j)) ∧ Hid (Below (w.heap.size + 1) w1 wr)) (fun i _ => len - (intOf i).toNat)
  case atStart => exact ⟨0, Nat.zero_le _, rfl, HO, HB2⟩
  case round =>
    obtain ⟨j, hj, rfl, hor, hwr⟩ := hrel
    clear HO HB2
    by_cases hjl : j < len
    · have hc4 := hor.out.cellAt j (by omega)
      rw [idTo_at hjl] at hc4
      have hf4 := hor.out.frozenAt j
      have HO := hide (hor.out.stored j (.int .i64 (j : Int))).1
      go_wp2
      go_roundw
      case rel => exact ⟨j + 1, hjl, by go_num, hide (by rw [← idTo_set hjl]; exact HO.out), hide (hwr.out.setCell (p := ⟨(w.heap.size + 1), j, none⟩) (Nat.le_refl _) _)⟩
      case measure => simp [intOf]; omega
    · obtain rfl : j = len := by omega
      have hb3 : Below w.heap.size w wr := HB1.out.trans (hwr.out.mono (by omega))
      cases j with
      | zero =>
        have HB3 := hide hb3
        clear hb3
        go_wp2_with fail
        refine (sortI_none _ _ _ _).mono ?_
        rintro e w4 ⟨rfl, rfl⟩
        go_wp2
        go_ret
        obtain rfl : ws = [] := List.eq_nil_of_length_eq_zero HL.out
        exact ⟨_, _, #[], rfl, srt_nil, ⟨rfl, by simp, by simp [maxLen], by simp, by simp⟩, HB3.out⟩
      | succ n =>
        have hor2 := hor.out
        rw [idTo_all] at hor2
        have hcell : wr.cell? ⟨w.heap.size, 0, none⟩ = some (.slice ao (n + 1) cap) := by rw [hwr.out.cell (p := ⟨w.heap.size, 0, none⟩) (by show w.heap.size < w.heap.size + 1; omega)]; exact HX.out
        have hs1 : SlV w1 ao (n + 1) cap ws := HS.out.below HB1.out
        have hblk : ∀ x, ao = some x → x.block ≠ (w.heap.size + 1) := fun x hx => by
          obtain ⟨b, off, k, i, s, e, hlt, _⟩ := HS.out.at (j := 0) (by omega)
          rw [hx] at e
          have := congrArg Addr.block (Option.some.inj e)
          simp at this
          omega
        have HSO := hide (sortI_own (w.heap.size + 1) (n + 1) (w.heap.size + 1) n w.heap.size ao cap ws wr HL.out hor2 (HS.out.below hb3) hcell (by have := hwr.out.size; have := HZ.out; omega) (by omega) hblk (by omega))
        have HB3 := hide hb3
        clear hor hor2 hcell hs1 hblk hb3
        go_wp2_with fail
        refine Calls.mono HSO.out ?_
        rintro e w4 ⟨rfl, dk, hs, ho4, hk4⟩
        have hb4 : Below w.heap.size w w4 := HB3.out.trans (hk4.below HB3.out.size (fun k e => by subst e; omega))
        have ho5 : w4.ownsRow (w.heap.size + 1) 3 1 (.slice (some ⟨(w.heap.size + 1), 0, none⟩) (n + 1) (n + 1)) (ints dk.toList).length ((ints dk.toList).map (Value.int .i64)) := by
          have : (ints dk.toList).length = n + 1 := by have := hs.size; have := HL.out; simp [ints]; omega
          rw [this]; exact ho4
        obtain ⟨ax, cx, hv, hsx, _⟩ := Sl.of_owns ho5
        have hlen : (ints dk.toList).length = n + 1 := by have := hs.size; have := HL.out; simp [ints]; omega
        rw [hlen] at hv hsx
        injection hv with hv1 hv2 hv3
        subst hv1; subst hv3
        have FIN : Hid (PlacesAns w ws (.returned (.slice (some ⟨(w.heap.size + 1), 0, none⟩) (n + 1) (n + 1))) w4) := ⟨_, _, dk, by rw [HL.out], hs, by rw [HL.out]; exact hsx, hb4⟩
        clear hs ho4 hk4 hb4 ho5 hsx hlen HSO HB3
        go_wp2
        go_ret
        exact FIN.out
end Go.Proofs.Ytmhfpipeoojacaa
/- dict.Codes: what finds a value's place. slices.BinarySearchFunc over places that are in the order of words. Conditions: fewer than 2^40 words. -/
namespace Go.Proofs.Ytmhfpipeoojacaa
set_option linter.unusedVariables false
set_option maxRecDepth 10000
open Go.RowKit Go.Sort
theorem one_more {w w1 : World} {o : Obj} (h : w.alloc o = w1) (q : Nat) (os : Array Obj) : grow (w1.drewN q) os = grow (w.drewN q) (#[o] ++ os) := by
  rw [← h, alloc_eq_grow, ← grow_grow]; rfl
set_option maxHeartbeats 1000000 in
theorem codesC_any (ao : Option Addr) (len cap bw : Nat) (ws : List Z.V) (i : Nat) (x : Z.V) (vk vi : Int) (vs : ByteArray) (w : World) (h : SlV w ao len cap ws) (hb : w.cell? ⟨bw, 0, none⟩ = some (.slice ao len cap)) (hbl : bw < w.heap.size) (hi : ws[i]? = some x) (hl : len ≤ 140737488355328) :
    Calls Try.prog 22 #[.int .i64 i, .agg #[.int .i64 vk, .int .i64 vi, .string vs], .pointer (some ⟨bw, 0, none⟩)] w fun e w' => e = .returned (.int .i64 (Z.cv x ⟨vk, vi, vs⟩)) ∧ ∃ q os, w' = grow (w.drewN q) os := by
  have mixed := Try.mixed
  have hil : i < len := by rw [← h.1]; exact (List.getElem?_eq_some_iff.1 hi).1
  obtain ⟨b, off, xk, xi, xs, rfl, hlt, hx, c1, c2, c3⟩ := h.at hil
  rw [hx] at hi
  obtain rfl := Option.some.inj hi
  obtain ⟨w1, hw1⟩ : ∃ w1, w.alloc (.cells #[.int .i64 vk, .int .i64 vi, .string vs] 24) = w1 := ⟨_, rfl⟩
  have hb1 : Below w.heap.size w w1 := by rw [← hw1]; exact below_one w _
  have hat : At w1 w.heap.size vk vi vs := by rw [← hw1]; exact At.new w vk vi vs
  have hsz : w.heap.size < w1.heap.size := by rw [← hw1]; simp
  have hlt1 : b < w1.heap.size := by omega
  obtain ⟨g1, g2, g3⟩ := hat.cells
  have d1 := cell_grown (w := w1) (a := ⟨b, off + i * 3, none⟩) hlt1 (by rw [hb1.cell (p := ⟨b, off + i * 3, none⟩) hlt]; exact c1)
  have d2 := cell_grown (w := w1) (a := ⟨b, off + i * 3 + 1, none⟩) hlt1 (by rw [hb1.cell (p := ⟨b, off + i * 3 + 1, none⟩) hlt]; exact c2)
  have d3 := cell_grown (w := w1) (a := ⟨b, off + i * 3 + 2, none⟩) hlt1 (by rw [hb1.cell (p := ⟨b, off + i * 3 + 2, none⟩) hlt]; exact c3)
  have f1 := cell_grown (a := ⟨w.heap.size, 0, none⟩) hsz g1
  have f2 := cell_grown (a := ⟨w.heap.size, 1, none⟩) hsz g2
  have f3 := cell_grown (a := ⟨w.heap.size, 2, none⟩) hsz g3
  have hbx := cell_grown (w := w1) (a := ⟨bw, 0, none⟩) (by show bw < w1.heap.size; omega) (by rw [hb1.cell (p := ⟨bw, 0, none⟩) hbl]; exact hb)
  obtain ⟨c, hc⟩ : ∃ c, Z.cv ⟨xk, xi, xs⟩ ⟨vk, vi, vs⟩ = c := ⟨_, rfl⟩
  have HC : Hid (∀ m os, Calls Try.prog 23 #[.agg #[.int .i64 xk, .int .i64 xi, .string xs], .agg #[.int .i64 vk, .int .i64 vi, .string vs]] (grow (w1.drewN m) os) fun e w' => e = .returned (.int .i64 c) ∧ ∃ q os', w' = grow ((grow (w1.drewN m) os).drewN q) os') := by
    intro m os; rw [← hc]
    refine (vcompare_two xk xi xs vk vi vs _).mono ?_
    rintro e w' ⟨rfl, a, b, rfl⟩
    exact ⟨rfl, 0, _, two_grow _ _ _⟩
  rw [hc]
  have HW := hide hw1
  clear hc h hx c1 c2 c3 g1 g2 g3 hb hi hb1 hat hw1
  go_enter Try.func22, Try.ntmps22
  go_wp2_with fail
  rw [HW.out]
  go_quiet_grown (first | (go_at_call 23; refine Calls.grown_of (HC.out _ _)))
  go_wp2
  go_ret
  exact ⟨rfl, nq, _, one_more HW.out nq osq⟩
/-- What a search among places answers. -/
structure Fnd (ws : List Z.V) (dk : Array Nat) (v : Z.V) (i : Nat) (f : Bool) : Prop where
  le : i ≤ ws.length
  lower : ∀ t, t < i → Z.cv (ws.getD dk[t]! Z.o) v < 0
  upper : ∀ t, i ≤ t → t < ws.length → 0 ≤ Z.cv (ws.getD dk[t]! Z.o) v
  found : f = decide (i < ws.length ∧ Z.cv (ws.getD dk[i]! Z.o) v = 0)
theorem fnd_yes {ws : List Z.V} {dk : Array Nat} {v : Z.V} {i : Nat} (hs : Srt ws dk) (h : Fnd ws dk v i true) : i < ws.length ∧ Z.has ws v = true ∧ Z.cdN ws v = dk[i]! := by
  obtain ⟨hi, hv⟩ := of_decide_eq_true h.found.symm
  have hd := hs.lt i hi
  have hx : ws[dk[i]!]? = some (ws.getD dk[i]! Z.o) := by rw [List.getD_eq_getElem?_getD, List.getElem?_eq_getElem hd]; rfl
  have hno : ∀ y ∈ ws.take dk[i]!, Z.cv y v ≠ 0 := by
    intro y hy e
    obtain ⟨t, ht, rfl⟩ := List.mem_take_iff_getElem.1 hy
    have htl : t < ws.length := by omega
    obtain ⟨q, hq, hqt⟩ := hs.onto t htl
    have ey : ws[t] = ws.getD dk[q]! Z.o := by rw [hqt, List.getD_eq_getElem?_getD, List.getElem?_eq_getElem htl]; rfl
    rw [ey] at e
    rcases Nat.lt_trichotomy q i with h1 | h1 | h1
    · have := h.lower q h1; omega
    · subst h1; omega
    · have h2 := (hs.ord i q h1 hq).2 (cv_eq_trans hv (cv_eq_sym e))
      omega
  refine ⟨hi, has_iff.2 ⟨_, List.mem_of_getElem? hx, hv⟩, ?_⟩
  have := plI_at hx hv hno
  unfold Z.plI at this
  unfold Z.cdN
  cases hp : Z.pl ws v with
  | none => rw [hp] at this; simp at this
  | some j => rw [hp] at this; simp at this ⊢; omega
theorem fnd_no {ws : List Z.V} {dk : Array Nat} {v : Z.V} {i : Nat} (hs : Srt ws dk) (h : Fnd ws dk v i false) : Z.has ws v = false := by
  cases hh : Z.has ws v with
  | false => rfl
  | true =>
    exfalso
    obtain ⟨y, hy, e⟩ := has_iff.1 hh
    obtain ⟨t, ht, rfl⟩ := List.getElem_of_mem hy
    obtain ⟨q, hq, hqt⟩ := hs.onto t ht
    have ey : ws[t] = ws.getD dk[q]! Z.o := by rw [hqt, List.getD_eq_getElem?_getD, List.getElem?_eq_getElem ht]; rfl
    rw [ey] at e
    have hiq : i ≤ q := by
      rcases Nat.lt_or_ge q i with h1 | h1
      · have := h.lower q h1; omega
      · exact h1
    have hi : i < ws.length := by omega
    have h0 : Z.cv (ws.getD dk[i]! Z.o) v = 0 := by
      by_cases e2 : i = q
      · subst e2; exact e
      · have h1 := (hs.ord i q (by omega) hq).1
        have h2 := h.upper i (Nat.le_refl _) hi
        have h3 := cv_right e (ws.getD dk[i]! Z.o)
        have h4 := cv_le_le (c := v) h1 (by omega)
        omega
    have := of_decide_eq_false h.found.symm
    exact this ⟨hi, h0⟩
end Go.Proofs.Ytmhfpipeoojacaa
/- slices.BinarySearchFunc over places that are in the order of words: the first that is not below a value. Conditions: fewer than 2^40 words. -/
namespace Go.Proofs.Ytmhfpipeoojacaa
set_option linter.unusedVariables false
set_option maxRecDepth 10000
open Go.RowKit Go.Sort
/-- One of a row of ints. -/
theorem Sl.at {w : World} {k : IntKind} {ao : Option Addr} {len cap : Nat} {l : List Int} (h : Sl w k ao len cap l) {j : Nat} (hj : j < len) : ∃ b off, ao = some ⟨b, off, none⟩ ∧ b < w.heap.size ∧ w.cell? ⟨b, off + j, none⟩ = some (.int k (l.getD j 0)) := by
  obtain ⟨h1, h2, h3, h4, h5⟩ := h
  rcases h5 with h5 | ⟨b, off, rfl, hlt, h5⟩
  · omega
  · exact ⟨b, off, rfl, hlt, h5 j hj⟩
theorem ints_at (dk : Array Nat) (j : Nat) (h : j < dk.size) : (ints dk.toList).getD j 0 = (dk[j]! : Int) := by
  simp [ints, h]
set_option maxHeartbeats 2000000 in
theorem bin_any (ap : Option Addr) (pc : Nat) (dk : Array Nat) (ao : Option Addr) (cap bw : Nat) (ws : List Z.V) (vk vi : Int) (vs : ByteArray) (w : World) (hs : Srt ws dk) (hp : Sl w .i64 ap ws.length pc (ints dk.toList)) (h : SlV w ao ws.length cap ws) (hb : w.cell? ⟨bw, 0, none⟩ = some (.slice ao ws.length cap)) (hbl : bw < w.heap.size) (hl : ws.length ≤ 1099511627776) :
    Calls Try.prog 21 #[.slice ap ws.length pc, .agg #[.int .i64 vk, .int .i64 vi, .string vs], .func (.func 22) #[] #[.pointer (some ⟨bw, 0, none⟩)]] w fun e w' => ∃ (i : Nat) (f : Bool), e = .returned (.tuple #[.int .i64 i, .bool f]) ∧ Fnd ws dk ⟨vk, vi, vs⟩ i f ∧ Below w.heap.size w w' := by
  have mixed := Try.mixed
  obtain ⟨n, hn⟩ : ∃ n, ws.length = n := ⟨_, rfl⟩
  rw [hn] at hp h hb hl ⊢
  have HN := hide hn
  obtain ⟨w1, hw1⟩ : ∃ w1, w.alloc (.cells #[.int .i64 vk, .int .i64 vi, .string vs] 24) = w1 := ⟨_, rfl⟩
  have hb1 : Below w.heap.size w w1 := by rw [← hw1]; exact below_one w _
  have hat : At w1 w.heap.size vk vi vs := by rw [← hw1]; exact At.new w vk vi vs
  have hsz : w.heap.size < w1.heap.size := by rw [← hw1]; simp
  have HW := hide hw1
  have HB1 := hide hb1
  -- a test at a place, wherever the search has come to
  have TEST : Hid (∀ wr, Below w1.heap.size w1 wr → ∀ t, t < n → ∃ b off, ap = some ⟨b, off, none⟩ ∧ (∀ m os, (grow (wr.drewN m) os).cell? ⟨b, off + t, none⟩ = some (.int .i64 (dk[t]! : Int))) ∧ (∀ m os, (grow (wr.drewN m) os).cell? ⟨w.heap.size, 0, none⟩ = some (.int .i64 vk)) ∧ (∀ m os, (grow (wr.drewN m) os).cell? ⟨w.heap.size, 1, none⟩ = some (.int .i64 vi)) ∧ (∀ m os, (grow (wr.drewN m) os).cell? ⟨w.heap.size, 2, none⟩ = some (.string vs)) ∧
      (∀ m os, Calls Try.prog 22 #[.int .i64 (dk[t]! : Int), .agg #[.int .i64 vk, .int .i64 vi, .string vs], .pointer (some ⟨bw, 0, none⟩)] (grow (wr.drewN m) os) fun e w' => e = .returned (.int .i64 (Z.cv (ws.getD dk[t]! Z.o) ⟨vk, vi, vs⟩)) ∧ ∃ q os', w' = grow ((grow (wr.drewN m) os).drewN q) os')) := by
    intro wr hbr t ht
    have hbw : Below w.heap.size w wr := hb1.trans (hbr.mono (by omega))
    obtain ⟨b, off, rfl, hlt, hc⟩ := hp.at ht
    rw [ints_at dk t (by rw [hs.size]; omega)] at hc
    obtain ⟨g1, g2, g3⟩ := (hat.below hbr).cells
    have hlw : w.heap.size < wr.heap.size := Nat.lt_of_lt_of_le hsz hbr.size
    refine ⟨b, off, rfl, cell_grown (a := ⟨b, off + t, none⟩) (Nat.lt_of_lt_of_le hlt hbw.size) (by rw [hbw.cell (p := ⟨b, off + t, none⟩) hlt]; exact hc), cell_grown (a := ⟨w.heap.size, 0, none⟩) hlw g1, cell_grown (a := ⟨w.heap.size, 1, none⟩) hlw g2, cell_grown (a := ⟨w.heap.size, 2, none⟩) hlw g3, fun m os => ?_⟩
    have hbg : Below w.heap.size w (grow (wr.drewN m) os) := hbw.trans ((grow_below wr m os).mono hbw.size)
    have hdt := hs.lt t (by omega)
    exact codesC_any ao n cap bw ws dk[t]! _ vk vi vs _ (h.below hbg) (by rw [hbg.cell (p := ⟨bw, 0, none⟩) hbl]; exact hb) (Nat.lt_of_lt_of_le hbl hbg.size) (by rw [List.getD_eq_getElem?_getD, List.getElem?_eq_getElem hdt]; rfl) (by omega)
  have MONO : Hid (∀ a b, a ≤ b → b < n → Z.cv (ws.getD dk[a]! Z.o) (ws.getD dk[b]! Z.o) ≤ 0) := fun a b hab hb => by
    by_cases e : a = b
    · subst e; rw [Z.cv_refl]; omega
    · exact (hs.ord a b (by omega) (by omega)).1
  clear hs hp h hb hat hw1 hb1 hn
  go_enter Try.func21, Try.ntmps21
  go_wp2_with fail
  rw [HW.out]
  go_loopw [9, 10] (fun a b wr => ∃ i j : Nat, i ≤ j ∧ j ≤ n ∧ a = .int .i64 i ∧ b = .int .i64 j ∧ Hid (∀ t, t < i → Z.cv (ws.getD dk[t]! Z.o) ⟨vk, vi, vs⟩ < 0) ∧ Hid (∀ t, j ≤ t → t < n → 0 ≤ Z.cv (ws.getD dk[t]! Z.o) ⟨vk, vi, vs⟩) ∧ Hid (Below w1.heap.size w1 wr)) (fun a b _ => (intOf b).toNat - (intOf a).toNat)
  case atStart => exact ⟨0, n, Nat.zero_le _, Nat.le_refl _, rfl, rfl, hide (fun t ht => by omega), hide (fun t h1 h2 => by omega), hide (Below.refl _ _)⟩
  case round =>
    obtain ⟨i, j, hij, hjn, rfl, rfl, A1, A2, HB⟩ := hrel
    by_cases hlt : i < j
    · obtain ⟨h, hh1, hh2⟩ : ∃ h, 2 * h ≤ i + j ∧ i + j ≤ 2 * h + 1 := ⟨(i + j) / 2, by omega, by omega⟩
      have zh : ((i : Int) + (j : Int)) / 2 = (h : Int) := by omega
      have rij : IntKind.i64.wrap ((i : Int) + (j : Int)) = (i : Int) + (j : Int) := by rw [IntKind.wrap_i64]; omega
      have hih : i ≤ h := by omega
      have hhj : h < j := by omega
      have hhn : (h : Int) < (n : Int) := by omega
      have hhp : (0 : Int) ≤ (h : Int) := by omega
      have hht : ((h : Int)).toNat = h := by omega
      have rh : IntKind.i64.wrap (h : Int) = (h : Int) := by rw [IntKind.wrap_i64]; omega
      obtain ⟨b, off, rfl, d1, f1, f2, f3, hc⟩ := TEST.out wr HB.out h (by omega)
      obtain ⟨c, hcc⟩ : ∃ c, Z.cv (ws.getD dk[h]! Z.o) ⟨vk, vi, vs⟩ = c := ⟨_, rfl⟩
      obtain ⟨dh, hdh⟩ : ∃ x, dk[h]! = x := ⟨_, rfl⟩
      rw [hcc] at hc
      rw [hdh] at d1 hc
      have HC := hide hc
      have HV := hide hcc
      clear hc hcc hdh
      by_cases hcn : c < 0
      · go_wp2_with fail
        go_quiet_grown (first | (go_at_call 22; refine Calls.grown_of (HC.out _ _)) | (go_at_fn 22; refine Calls.grown_of (HC.out _ _)))
        have HB2 := hide (HB.out.trans ((grow_below wr nq osq).mono HB.out.size))
        have B1 : Hid (∀ t, t < h + 1 → Z.cv (ws.getD dk[t]! Z.o) ⟨vk, vi, vs⟩ < 0) := fun t ht => cv_le_lt (MONO.out t h (by omega) (by omega)) (by rw [HV.out]; exact hcn)
        clear d1 f1 f2 f3 HC HB HV A1
        generalize grow (wr.drewN nq) osq = w2 at HB2 ⊢
        clear nq osq
        go_wp2
        go_round
        · exact ⟨h + 1, j, by omega, hjn, by go_num, rfl, B1, A2, HB2⟩
        · simp [intOf]; omega
      · have hcd : decide (c < 0) = false := decide_eq_false hcn
        go_wp2_with fail
        go_quiet_grown (first | (go_at_call 22; refine Calls.grown_of (HC.out _ _)) | (go_at_fn 22; refine Calls.grown_of (HC.out _ _)))
        have HB2 := hide (HB.out.trans ((grow_below wr nq osq).mono HB.out.size))
        have B2 : Hid (∀ t, h ≤ t → t < n → 0 ≤ Z.cv (ws.getD dk[t]! Z.o) ⟨vk, vi, vs⟩) := fun t h1 h2 => by
          have e1 := MONO.out h t h1 h2
          have e2 := HV.out
          rcases Int.lt_or_le (Z.cv (ws.getD dk[t]! Z.o) ⟨vk, vi, vs⟩) 0 with e3 | e3
          · have := cv_le_lt e1 e3; omega
          · exact e3
        clear d1 f1 f2 f3 HC HB HV A2
        generalize grow (wr.drewN nq) osq = w2 at HB2 ⊢
        clear nq osq
        go_wp2
        go_round
        · exact ⟨i, h, hih, by omega, rfl, rfl, A1, B2, HB2⟩
        · simp [intOf]; omega
    · obtain rfl : i = j := by omega
      have HBW := hide (HB1.out.trans (HB.out.mono (by omega)))
      by_cases hin : i < n
      · obtain ⟨b, off, rfl, d1, f1, f2, f3, hc⟩ := TEST.out wr HB.out i hin
        obtain ⟨c, hcc⟩ : ∃ c, Z.cv (ws.getD dk[i]! Z.o) ⟨vk, vi, vs⟩ = c := ⟨_, rfl⟩
        have FD : Hid (Fnd ws dk ⟨vk, vi, vs⟩ i (c == 0)) := ⟨by rw [HN.out]; exact hjn, A1.out, fun t h1 h2 => A2.out t h1 (by rw [← HN.out]; exact h2), by rw [hcc, HN.out]; by_cases e : c = 0 <;> simp [e, hin]⟩
        obtain ⟨dh, hdh⟩ : ∃ x, dk[i]! = x := ⟨_, rfl⟩
        rw [hcc] at hc
        rw [hdh] at d1 hc
        have HC := hide hc
        clear hc hcc hdh A1 A2
        have hid : decide ((i : Int) < (n : Int)) = true := decide_eq_true (by omega)
        go_wp2_with fail
        go_quiet_grown (first | (go_at_call 22; refine Calls.grown_of (HC.out _ _)) | (go_at_fn 22; refine Calls.grown_of (HC.out _ _)))
        have HB2 := hide (HBW.out.trans ((grow_below wr nq osq).mono HBW.out.size))
        clear d1 f1 f2 f3 HC HB
        generalize grow (wr.drewN nq) osq = w2 at HB2 ⊢
        clear nq osq
        go_wp2
        go_ret2
        exact ⟨i, _, rfl, FD.out, HB2.out⟩
      · have FD : Hid (Fnd ws dk ⟨vk, vi, vs⟩ i false) := ⟨by rw [HN.out]; exact hjn, A1.out, fun t h1 h2 => A2.out t h1 (by rw [← HN.out]; exact h2), by rw [HN.out]; simp [hin]⟩
        clear A1 A2
        have hid : decide ((i : Int) < (n : Int)) = false := decide_eq_false (by omega)
        go_wp2_with fail
        go_quiet (fail)
        have HB2 := hide (HBW.out.trans (Below.mono (show Below wr.heap.size wr (wr.drewN nq) from ⟨rfl, rfl, rfl, Nat.le_refl _, fun _ _ => rfl⟩) HBW.out.size))
        clear HB
        generalize wr.drewN nq = w2 at HB2 ⊢
        clear nq
        go_wp2
        go_ret2
        exact ⟨i, _, rfl, FD.out, HB2.out⟩
end Go.Proofs.Ytmhfpipeoojacaa
/- The contract of Pack. -/
namespace Go.Proofs.Ytmhfpipeoojacaa
set_option linter.unusedVariables false
open Go.RowKit

/-- A new Writer. -/
theorem Wr.fresh (w : World) : Wr (w.alloc (.cells #[.slice none 0 0, .int .i64 0] 76)) w.heap.size (.slice none 0 0) [] :=
  ⟨heap_alloc_new w _, World.ownsRow_nil _ _ _ _⟩

theorem WS.below {w w' : World} {v' : Value} (o : Obj) (h : WS w.heap.size (w.alloc o) (.slice none 0 0) w' v') : Below w.heap.size w w' := by
  have h1 := ((Kept.refl (fun k => w.heap.size ≤ k) w).alloc o).trans' h.1 (by
    rintro x (rfl | hx)
    · exact .inl (Nat.le_refl _)
    · simp [Value.ownBlock] at hx)
  exact h1.below (Nat.le_refl _) (fun k hk => hk)

set_option maxHeartbeats 400000 in
theorem pack_arg (ao : Option Addr) (len cap : Nat) (k : Int) (w : World) (h : k < 0 ∨ 64 < k) :
    Calls Try.prog 27 #[.slice ao len cap, .int .i64 k] w fun e w' => e = .returned (.tuple #[.slice none 0 0, .int .i64 1]) ∧ w' = w := by
  go_enter Try.func27, Try.ntmps27
  go_wp2_with (go_at_call 51; refine (may_no _ _ h).mono ?_; rintro e w' ⟨rfl, rfl⟩)
  go_ret2
  exact ⟨rfl, rfl⟩

set_option maxHeartbeats 400000 in
theorem pack_some (b off len cap : Nat) (l : List Int) (k : Nat) (w : World) (hl : l.length = len) (hm : len * 64 + 64 < 1099511627776) (hb : b < w.heap.size) (hc : ∀ i, i < len → w.cell? ⟨b, off + i, none⟩ = some (.int .u64 (l.getD i 0))) (hin : In64 l) (hk : k ≤ 64) :
    Calls Try.prog 27 #[.slice (some ⟨b, off, none⟩) len cap, .int .i64 k] w fun e w' =>
      (Fit l k ∧ ∃ v', e = .returned (.tuple #[v', .int .i64 0]) ∧ w'.ownsRow w.heap.size 5 1 v' (A.bytesOf (bitsAll l k)).length (B8 (A.bytesOf (bitsAll l k))) ∧ Below w.heap.size w w') ∨
      (¬ Fit l k ∧ e = .returned (.tuple #[.slice none 0 0, .int .i64 1]) ∧ Below w.heap.size w w') := by
  have HI := hide hin
  clear hin
  go_enter Try.func27, Try.ntmps27
  go_wp2_with (go_at_call 51; refine (may_yes _ _ (by omega) (by omega)).mono ?_; rintro e w' ⟨rfl, rfl⟩)
  go_loopw [17] (fun i wr => ∃ j : Nat, j ≤ len ∧ i = .int .i64 j ∧ Fit (l.take j) k ∧ ∃ v1, Wr wr w'.heap.size v1 (bitsAll (l.take j) k) ∧ WS w'.heap.size (w'.alloc (.cells #[.slice none 0 0, .int .i64 0] 76)) (.slice none 0 0) wr v1) (fun i _ => len - (intOf i).toNat)
  case atStart => exact ⟨0, Nat.zero_le _, rfl, by intro x hx; simp at hx, _, Wr.fresh w', WS.refl _ _ _⟩
  case round =>
    obtain ⟨j, hj, rfl, hfit, v1, hw1, hs1⟩ := hrel
    have hbel := WS.below _ hs1
    have hbl := bitsAll_le l k j hk
    by_cases hlt : j < len
    · have hck : wr.cell? ⟨b, off + j, none⟩ = some (.int .u64 (l.getD j 0)) := by rw [hbel.cell (p := ⟨b, off + j, none⟩) hb]; exact hc j hlt
      obtain ⟨h0, h1⟩ := HI.out.getD j
      have HT := hide (take_snocD l j (by omega))
      have HF : Hid (l.getD j 0 < (2 : Int) ^ k → Fit (l.take (j + 1)) k) := fun hx => hfit.snoc (by omega) hx
      have HM : Hid (l.getD j 0 ∈ l) := by have : l.getD j 0 = l[j] := by simp [List.getD, show j < l.length by omega]
                                           show l.getD j 0 ∈ l
                                           rw [this]; exact List.getElem_mem _
      have HS := hide hs1
      have HB := hide hbel
      obtain ⟨x, hxe⟩ : ∃ x, l.getD j 0 = x := ⟨_, rfl⟩
      rw [hxe] at hck h0 h1 HT HF HM
      clear hc hfit hs1 hbel hxe
      by_cases hx : x < (2 : Int) ^ k
      · have HX := hide hx
        clear hx
        go_wp2_with fail
        refine (put_yes _ v1 _ x k wr hw1 (by omega) h0 HX.out h1 hk).mono ?_
        rintro e w2 ⟨rfl, v2, hw2, hs2⟩
        go_wp2
        go_roundw
        case rel => exact ⟨j + 1, by omega, by go_num, HF.out HX.out, v2, by rw [HT.out, bitsAll_snoc]; exact hw2, HS.out.trans hs2⟩
        case measure => simp [intOf]; omega
      · have HX := hide (Int.not_lt.1 hx)
        clear hx
        go_wp2_with fail
        refine (put_no _ x k wr h0 h1 (.inr (.inr (by rw [Int.toNat_natCast]; exact HX.out)))).mono ?_
        rintro e w2 ⟨rfl, rfl⟩
        go_wp2
        go_ret2
        exact .inr ⟨fun hf => Int.not_lt.2 HX.out (hf x HM.out), rfl, HB.out⟩
    · have hjl : j = len := by omega
      subst hjl
      rw [List.take_of_length_le (by omega)] at hw1 hfit
      rw [List.take_of_length_le (by omega)] at hbl
      have HF := hide hfit
      have HB := hide hbel
      clear hfit hbel hs1 hc
      go_wp2_with fail
      refine (bytes_any _ v1 _ wr hw1 (by omega)).mono ?_
      rintro e w2 ⟨v2, rfl, ho2, hb2⟩
      go_wp2
      go_ret2
      have hs := HB.out.size
      exact .inl ⟨HF.out, v2, rfl, owns_base ho2 fun g hg => by have := (owns_lt ho2 hg).1; omega, HB.out.trans (hb2.mono hs)⟩

set_option maxHeartbeats 400000 in
theorem pack_none (ao : Option Addr) (cap : Nat) (k : Nat) (w : World) (hk : k ≤ 64) :
    Calls Try.prog 27 #[.slice ao 0 cap, .int .i64 k] w fun e w' =>
      ∃ v', e = .returned (.tuple #[v', .int .i64 0]) ∧ w'.ownsRow w.heap.size 5 1 v' 0 [] ∧ Below w.heap.size w w' := by
  go_enter Try.func27, Try.ntmps27
  go_wp2_with (go_at_call 51; refine (may_yes _ _ (by omega) (by omega)).mono ?_; rintro e w' ⟨rfl, rfl⟩)
  go_loopw [17] (fun i wr => i = .int .i64 0 ∧ wr = w'.alloc (.cells #[.slice none 0 0, .int .i64 0] 76)) (fun _ _ => 0)
  case atStart => exact ⟨rfl, rfl⟩
  case round =>
    obtain ⟨rfl, rfl⟩ := hrel
    go_wp2_with fail
    refine (bytes_any _ _ _ _ (Wr.fresh w') (by simp)).mono ?_
    rintro e w2 ⟨v2, rfl, ho2, hb2⟩
    go_wp2
    go_ret2
    exact ⟨v2, rfl, owns_base ho2 fun g hg => by have := (owns_lt ho2 hg).1; simp at this; omega, ((Below.refl _ _).alloc (Nat.le_refl _) _).trans (hb2.mono (by simp))⟩

/-- Pack: of whatever numbers, with a width that may be. -/
theorem pack_any (ao : Option Addr) (len cap : Nat) (l : List Int) (k : Nat) (w : World) (h : Sl w .u64 ao len cap l) (hm : len * 64 + 64 < 1099511627776) (hin : In64 l) (hk : k ≤ 64) :
    Calls Try.prog 27 #[.slice ao len cap, .int .i64 k] w fun e w' =>
      (Fit l k ∧ ∃ v', e = .returned (.tuple #[v', .int .i64 0]) ∧ w'.ownsRow w.heap.size 5 1 v' (A.bytesOf (bitsAll l k)).length (B8 (A.bytesOf (bitsAll l k))) ∧ Below w.heap.size w w') ∨
      (¬ Fit l k ∧ e = .returned (.tuple #[.slice none 0 0, .int .i64 1]) ∧ Below w.heap.size w w') := by
  obtain ⟨h1, h2, h3, h4, h5⟩ := h
  by_cases h0 : len = 0
  · subst h0
    obtain rfl : l = [] := List.eq_nil_of_length_eq_zero h1
    refine (pack_none ao cap k w hk).mono ?_
    rintro e w' ⟨v', he, ho, hb⟩
    exact .inl ⟨(by intro x hx; simp at hx), v', he, by simpa [bitsAll, A.bytesOf, B8] using ho, hb⟩
  · rcases h5 with h5 | ⟨b, off, rfl, hlt, h5⟩
    · omega
    · exact pack_some b off len cap l k w h1 hm hlt h5 hin hk
end Go.Proofs.Ytmhfpipeoojacaa
/- The text of bytes; the statements' own head: 'shown'. -/
namespace Go.Proofs.Ytmhfpipeoojacaa
set_option linter.unusedVariables false
open Go.RowKit

theorem Sl.three (w : World) (t : TypeId) (a b c : Int) : Sl (w.alloc (.cells #[.int .u64 a, .int .u64 b, .int .u64 c] t)) .u64 (some ⟨w.heap.size, 0, none⟩) 3 3 [a, b, c] := by
  refine ⟨rfl, Nat.le_refl _, by decide, by simp, .inr ⟨_, _, rfl, by simp, ?_⟩⟩
  intro i hi
  match i, hi with
  | 0, _ => simp
  | 1, _ => simp
  | 2, _ => simp

theorem bytes_517 : A.bytesOf (bitsAll [5, 1, 7] 3) = [205, 1] := by decide
theorem width_517 : bitLen (orAll [5, 1, 7]) = 3 := by decide
theorem str_517 : strOfNums (ints [205, 1]) = ⟨#[205, 1]⟩ := by decide
theorem fit_517 : Fit [5, 1, 7] 3 := by
  intro x hx
  simp at hx
  rcases hx with rfl | rfl | rfl <;> decide
theorem in_517 : In64 [5, 1, 7] := by
  intro x hx
  simp at hx
  rcases hx with rfl | rfl | rfl <;> decide

end Go.Proofs.Ytmhfpipeoojacaa

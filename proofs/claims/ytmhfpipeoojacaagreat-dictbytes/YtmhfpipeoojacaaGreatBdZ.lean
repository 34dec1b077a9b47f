/- val.Compare: two blocks more, and nothing else; as an order for a sort of rows of values. Conditions: none. -/
import Derived.Test.YtmhfpipeoojacaaGreatBdK
import Derived.Test.YtmhfpipeoojacaaGreatBdH
import Derived.Test.YtmhfpipeoojacaaGreatBdY
import Derived.Test.YtmhfpipeoojacaaGreatBdO
import Derived.BigQuiet
import Derived.WalkSmall
import Derived.Test.YtmhfpipeoojacaaGreatBdB
namespace Go.Proofs.YtmhfpipeoojacaaGreat
open Go.RowKit Go.Sort
theorem vcompare_two (ak ai : Int) (az : ByteArray) (bk bi : Int) (bz : ByteArray) (w : World) :
    Calls Tryz.prog 39 #[.agg #[.int .i64 ak, .int .i64 ai, .string az], .agg #[.int .i64 bk, .int .i64 bi, .string bz]] w fun e w' => e = .returned (.int .i64 (Z.cv ⟨ak, ai, az⟩ ⟨bk, bi, bz⟩)) ∧ ∃ a b, w' = (w.alloc a).alloc b := by
  by_cases hk : ak = bk
  · subst hk
    have h0 := ci_self ak
    by_cases k1 : ak = 1
    · subst k1
      go_enter Tryz.func39, Tryz.ntmps39
      go_wp2_with fail
      refine (cmpi_any _ _ _).mono ?_
      rintro e w1 ⟨rfl, rfl⟩
      rw [h0]
      clear h0
      go_wp2_with fail
      refine (cmpl_any _ _ _).mono ?_
      rintro e w2 ⟨rfl, rfl⟩
      go_wp2
      go_ret
      exact ⟨by rw [cv_int]; rfl, _, _, rfl⟩
    · by_cases k2 : ak = 2
      · subst k2
        have HA : Hid (IntKind.u64.wrap ai = Z.u ai) := u64_wrap ai
        have HB : Hid (IntKind.u64.wrap bi = Z.u bi) := u64_wrap bi
        have HI := Z.u_in ai
        have HJ := Z.u_in bi
        go_enter Tryz.func39, Tryz.ntmps39
        go_wp2_with fail
        refine (cmpi_any _ _ _).mono ?_
        rintro e w1 ⟨rfl, rfl⟩
        rw [h0]
        clear h0
        go_wp2_with fail
        rw [HA.out, HB.out]
        refine (compare_any _ _ _ HI.1 HI.2 HJ.1 HJ.2).mono ?_
        rintro e w2 ⟨rfl, rfl⟩
        go_wp2
        go_ret
        exact ⟨by rw [cv_float]; rfl, _, _, rfl⟩
      · by_cases k3 : ak = 3
        · subst k3
          go_enter Tryz.func39, Tryz.ntmps39
          go_wp2_with fail
          refine (cmpi_any _ _ _).mono ?_
          rintro e w1 ⟨rfl, rfl⟩
          rw [h0]
          clear h0
          go_wp2_with fail
          refine (strcmp_any _ _ _).mono ?_
          rintro e w2 ⟨rfl, rfl⟩
          go_wp2
          go_ret
          exact ⟨by rw [cv_text]; rfl, _, _, rfl⟩
        · go_enter Tryz.func39, Tryz.ntmps39
          go_wp2_with fail
          refine (cmpi_any _ _ _).mono ?_
          rintro e w1 ⟨rfl, rfl⟩
          rw [h0]
          clear h0
          go_wp2
          go_ret
          exact ⟨by rw [cv_else k1 k2 k3]; rfl, _, _, rfl⟩
  · have h0 := ci_ne hk
    have HV : Hid (Z.cv ⟨ak, ai, az⟩ ⟨bk, bi, bz⟩ = Z.ci ak bk) := cv_kind hk
    go_enter Tryz.func39, Tryz.ntmps39
    go_wp2_with fail
    refine (cmpi_any _ _ _).mono ?_
    rintro e w1 ⟨rfl, rfl⟩
    obtain ⟨c, hc⟩ : ∃ c, Z.ci ak bk = c := ⟨_, rfl⟩
    rw [hc] at h0 HV ⊢
    clear hc
    go_wp2
    go_ret
    exact ⟨by rw [HV.out]; rfl, _, _, rfl⟩

/-- The zero value. -/
def Z.o : Z.V := ⟨0, 0, ⟨#[]⟩⟩
/-- A place's cells. -/
def encV (x : Z.V) : List Value := [.int .i64 x.k, .int .i64 x.i, .string x.s]
def encL (l : List Z.V) (i : Nat) : List Value := encV (l.getD i Z.o)
def cfL (l : List Z.V) (i j : Nat) : Int := Z.cv (l.getD i Z.o) (l.getD j Z.o)
theorem cfL_swo (l : List Z.V) : SWO (ltOf (cfL l)) := by
  refine ⟨fun x => decide_eq_false ?_, fun x y z h1 h2 => decide_eq_true (cv_lt_lt (of_decide_eq_true h1) (of_decide_eq_true h2)), fun x y z h1 h2 => decide_eq_false ?_⟩
  · have := cv_anti (l.getD x Z.o) (l.getD x Z.o)
    unfold cfL; omega
  · have h1 := of_decide_eq_false h1
    have h2 := of_decide_eq_false h2
    unfold cfL at *
    have e1 := cv_anti (l.getD x Z.o) (l.getD y Z.o)
    have e2 := cv_anti (l.getD y Z.o) (l.getD z Z.o)
    have e3 := cv_anti (l.getD x Z.o) (l.getD z Z.o)
    have := cv_le_le (a := l.getD z Z.o) (b := l.getD y Z.o) (c := l.getD x Z.o) (by omega) (by omega)
    omega
theorem two_grow (w : World) (a b : Obj) : (w.alloc a).alloc b = grow (w.drewN 0) #[a, b] := by
  rw [alloc_eq_grow, alloc_eq_grow, grow_grow]; rfl
theorem cmp_lays (l : List Z.V) (blk off size : Nat) (w : World) : CmpLays Tryz.prog 39 #[] (encL l) 3 (cfL l) blk off size w := fun m os dk hs x y => by
  refine (vcompare_two (l.getD x Z.o).k (l.getD x Z.o).i (l.getD x Z.o).s (l.getD y Z.o).k (l.getD y Z.o).i (l.getD y Z.o).s _).mono ?_
  rintro e w' ⟨rfl, a, b, rfl⟩
  exact ⟨rfl, 0, #[a, b], two_grow _ a b⟩
/-- A row as its places tell it. -/
def rd (l : List Z.V) (dk : Array Nat) : List Z.V := dk.toList.map fun i => l.getD i Z.o
theorem rd_length (l : List Z.V) (dk : Array Nat) : (rd l dk).length = dk.size := by simp [rd]
theorem encL_length (l : List Z.V) (i : Nat) : (encL l i).length = 3 := rfl
theorem rd_get (l : List Z.V) (dk : Array Nat) (i : Nat) (h : i < dk.size) : (rd l dk)[i]? = some (l.getD dk[i]! Z.o) := by
  simp [rd, h]
theorem rd_range (l : List Z.V) : rd l (Array.range l.length) = l := by
  apply List.ext_getElem?
  intro i
  by_cases h : i < l.length
  · rw [rd_get _ _ _ (by simpa using h), List.getElem?_eq_getElem h]
    simp [h]
  · rw [List.getElem?_eq_none (by rw [rd_length]; simp; omega), List.getElem?_eq_none (by omega)]
theorem flat_cells (l : List Z.V) (dk : Array Nat) : (flatK (encL l) 3 dk).toList = cellsV (rd l dk) := by
  apply List.ext_getElem?
  intro t
  by_cases h : t < dk.size * 3
  · have hx := rd_get l dk (t / 3) (by omega)
    obtain ⟨g0, g1, g2⟩ := cellsV_get _ _ _ hx
    have e : (flatK (encL l) 3 dk).toList[t]? = some (flatK (encL l) 3 dk)[t]! := by
      rw [Array.getElem?_toList, Array.getElem?_eq_getElem (by simpa using h), getElem!_pos _ t (by simpa using h)]
    rw [e, get_flatK _ _ _ _ h]
    have hr : t = t / 3 * 3 ∨ t = t / 3 * 3 + 1 ∨ t = t / 3 * 3 + 2 := by omega
    have c : ∀ q, t / 3 = q → (cellsV (rd l dk))[q * 3]? = some (.int .i64 (l.getD dk[q]! Z.o).k) ∧ (cellsV (rd l dk))[q * 3 + 1]? = some (.int .i64 (l.getD dk[q]! Z.o).i) ∧ (cellsV (rd l dk))[q * 3 + 2]? = some (.string (l.getD dk[q]! Z.o).s) := fun q hq => by subst hq; exact ⟨g0, g1, g2⟩
    obtain ⟨q, hq⟩ : ∃ q, t / 3 = q := ⟨_, rfl⟩
    obtain ⟨c0, c1, c2⟩ := c q hq
    rw [hq] at hr ⊢
    rcases hr with hr | hr | hr
    · rw [hr, c0, show q * 3 % 3 = 0 by omega]; rfl
    · rw [hr, c1, show (q * 3 + 1) % 3 = 1 by omega]; rfl
    · rw [hr, c2, show (q * 3 + 2) % 3 = 2 by omega]; rfl
  · rw [List.getElem?_eq_none (by simp; omega), List.getElem?_eq_none (by rw [cellsV_length, rd_length]; omega)]
/-- A row of one's own, as a sort asks it. -/
theorem row_of_own {w : World} {B g cap : Nat} {l : List Z.V} (h : OwnV w B (.slice (some ⟨g, 0, none⟩) l.length cap) l) : RowK (encL l) 3 w g 0 (Array.range l.length) := by
  have h0 := h
  rcases h.2 with ⟨h1, h2⟩ | ⟨g', cap', cur, hv, hg, hh, hc, hm, hsz, ht⟩
  · cases h1
  · injection hv with e1 e2 e3
    injection Option.some.inj e1 with e4 e5 e6
    subst e4
    refine ⟨encL_length l, fun x v hv => ?_, fun j hj => ?_, lt_of_block hh⟩
    · simp [encL, encV] at hv
      rcases hv with rfl | rfl | rfl <;> rfl
    · have hj' : j < l.length * 3 := by simpa using hj
      have hlen : l.length * 3 ≤ cur.size := by rw [hsz]; omega
      refine ⟨?_, by simp [World.frozen?, hh]⟩
      have e : cur.toList[j]? = (cellsV l)[j]? := by
        rw [← ht, List.getElem?_take_of_lt hj']
      have e2 : (flatK (encL l) 3 (Array.range l.length)).toList[j]? = (cellsV l)[j]? := by rw [flat_cells, rd_range]
      have e3 : (flatK (encL l) 3 (Array.range l.length)).toList[j]? = some (flatK (encL l) 3 (Array.range l.length))[j]! := by
        rw [Array.getElem?_toList, Array.getElem?_eq_getElem hj, getElem!_pos _ j hj]
      simp only [World.cell?, hh, Nat.zero_add, Option.isSome_none, Bool.false_eq_true, if_false, id]
      rw [← Array.getElem?_toList, e, ← e2, e3]
/-- Behind the sort: the same slice owns the row as it lies now. -/
theorem own_sorted {w w2 : World} {B g cap : Nat} {l l0 : List Z.V} {dk : Array Nat} (h : OwnV w B (.slice (some ⟨g, 0, none⟩) l0.length cap) l0) (hs : dk.size = l0.length) (hw : SWK (encL l) 3 w g 0 dk w2) :
    OwnV w2 B (.slice (some ⟨g, 0, none⟩) l0.length cap) (rd l dk) ∧ Kept (fun b => b = g) w w2 := by
  obtain ⟨m, os, rfl⟩ := hw
  rcases h.2 with ⟨h1, h2⟩ | ⟨g', cap', cur, hv, hg, hh, hc, hm, hsz, ht⟩
  · cases h1
  · injection hv with e1 e2 e3
    injection Option.some.inj e1 with e4 e5 e6
    subst e4; subst e3
    have hlt : g < w.heap.size := lt_of_block hh
    have hF : (flatK (encL l) 3 dk).size = l0.length * 3 := by simp [hs]
    have hlen : l0.length * 3 ≤ cur.size := by rw [hsz]; omega
    have hblk : (sortWorldK (encL l) 3 w g 0 m dk os).heap[g]? = some (.cells (putCells id 0 (flatK (encL l) 3 dk) cur) 45 (0, 0)) := by
      unfold sortWorldK putRowK
      have : (grow (putRow id (Sort.ahead w m) g 0 (flatK (encL l) 3 dk)) os).heap[g]? = (putRow id (Sort.ahead w m) g 0 (flatK (encL l) 3 dk)).heap[g]? := by
        simp only [grow]; rw [Array.getElem?_append_left (by simpa using hlt)]
      rw [this]
      simp [putRow, mapBlock, Sort.ahead, Array.getElem?_modify, hh, onCells]
    refine ⟨⟨by rw [cellsV_length], .inr ⟨g, cap, _, by rw [rd_length, hs], hg, hblk, by rw [rd_length, hs]; exact hc, hm, by simp [putCells, hsz], ?_⟩⟩, rfl, rfl, rfl, ?_, fun b hb hne => ?_⟩
    · rw [rd_length, hs, ← flat_cells]
      apply List.ext_getElem?
      intro j
      by_cases hj : j < l0.length * 3
      · rw [List.getElem?_take_of_lt hj, Array.getElem?_toList, Array.getElem?_toList]
        have hj2 : j < (flatK (encL l) 3 dk).size := by omega
        simp only [putCells, Array.getElem?_mapIdx]
        rw [Array.getElem?_eq_getElem (show j < cur.size by omega), Option.map_some, if_pos ⟨by omega, by omega⟩, Array.getElem?_eq_getElem hj2, Nat.sub_zero, getElem!_pos _ j hj2]; rfl
      · rw [List.getElem?_take_eq_none (by omega), List.getElem?_eq_none (by simp; omega)]
    · unfold sortWorldK putRowK; rw [size_grow, size_putRow]; show w.heap.size ≤ w.heap.size + _; omega
    · unfold sortWorldK putRowK
      have : (grow (putRow id (Sort.ahead w m) g 0 (flatK (encL l) 3 dk)) os).heap[b]? = (putRow id (Sort.ahead w m) g 0 (flatK (encL l) 3 dk)).heap[b]? := by
        simp only [grow]; rw [Array.getElem?_append_left (by simpa using hb)]
      rw [this]
      simp [putRow, mapBlock, Sort.ahead, Array.getElem?_modify, Ne.symm hne]
end Go.Proofs.YtmhfpipeoojacaaGreat
/- The document's order of values: astragalref05.Compare and what it calls. Conditions: none. -/
namespace Go.Proofs.YtmhfpipeoojacaaGreat
set_option linter.unusedVariables false
open Go.RowKit Go.Sort
theorem uorder_any (p q : Bool) (w : World) : Calls Tryz.prog 80 #[.bool p, .bool q] w fun e w' => e = .returned (.int .i64 (if p = true then -1 else if q = true then 1 else 0)) ∧ w' = w := by
  cases p <;> cases q <;> (go_enter Tryz.func80, Tryz.ntmps80; go_wp2; go_ret; exact ⟨rfl, rfl⟩)
theorem utexts_any (s t : ByteArray) (w : World) (hs : s.size ≤ 9223372036854775807) (ht : t.size ≤ 9223372036854775807) : Calls Tryz.prog 82 #[.string s, .string t] w fun e w' => e = .returned (.int .i64 (Z.cs s t)) ∧ ∃ q, w' = w.drewN q := by
  go_enter Tryz.func82, Tryz.ntmps82
  go_wp2_with fail
  go_loopw [5] (fun i wr => ∃ j q : Nat, j ≤ s.size ∧ j ≤ t.size ∧ i = .int .i64 j ∧ wr = w.drewN q ∧ Hid (Lib.compareBytes (s.data.toList.drop j) (t.data.toList.drop j) = Z.cs s t)) (fun i _ => s.size - (intOf i).toNat)
  case atStart => exact ⟨0, 0, Nat.zero_le _, Nat.zero_le _, rfl, rfl, hide rfl⟩
  case round =>
    obtain ⟨j, q, hj, hk, rfl, rfl, HI⟩ := hrel
    by_cases h1 : j < s.size
    · by_cases h2 : j < t.size
      · have e1 : s.data.toList.drop j = s[j] :: s.data.toList.drop (j + 1) := by rw [List.drop_eq_getElem_cons (by simpa using h1)]; rfl
        have e2 : t.data.toList.drop j = t[j] :: t.data.toList.drop (j + 1) := by rw [List.drop_eq_getElem_cons (by simpa using h2)]; rfl
        have HE : Hid (Z.cs s t = if s[j].toNat < t[j].toNat then -1 else if t[j].toNat < s[j].toNat then 1 else Lib.compareBytes (s.data.toList.drop (j + 1)) (t.data.toList.drop (j + 1))) := by
          show _ = _
          rw [← HI.out, e1, e2, Z.cb_step]
        clear e1 e2
        by_cases h3 : s[j].toNat < t[j].toNat
        · go_wp2_with fail
          go_quiet (fail)
          go_wp2
          go_ret
          exact ⟨by rw [HE.out, if_pos h3]; rfl, q + nq, by rw [World.drewN_drewN]⟩
        · have h3d : decide (s[j].toNat < t[j].toNat) = false := decide_eq_false h3
          by_cases h4 : t[j].toNat < s[j].toNat
          · go_wp2_with fail
            go_quiet (fail)
            obtain ⟨q1, hq1⟩ : ∃ q1, (w.drewN q).drewN nq = w.drewN q1 := ⟨q + nq, World.drewN_drewN _ _ _⟩
            rw [hq1]
            clear hq1 nq
            go_wp2_with fail
            go_quiet (fail)
            go_wp2
            go_ret
            exact ⟨by rw [HE.out, if_neg h3, if_pos h4]; rfl, q1 + nq, by rw [World.drewN_drewN]⟩
          · have h4d : decide (t[j].toNat < s[j].toNat) = false := decide_eq_false h4
            go_wp2_with fail
            go_quiet (fail)
            obtain ⟨q1, hq1⟩ : ∃ q1, (w.drewN q).drewN nq = w.drewN q1 := ⟨q + nq, World.drewN_drewN _ _ _⟩
            rw [hq1]
            clear hq1 nq
            go_wp2_with fail
            go_quiet (fail)
            obtain ⟨q2, hq2⟩ : ∃ q2, (w.drewN q1).drewN nq = w.drewN q2 := ⟨q1 + nq, World.drewN_drewN _ _ _⟩
            rw [hq2]
            clear hq2 nq
            have HJ : Hid (Lib.compareBytes (s.data.toList.drop (j + 1)) (t.data.toList.drop (j + 1)) = Z.cs s t) := by show _ = _; rw [HE.out, if_neg h3, if_neg h4]
            clear HE HI
            go_wp2
            go_round
            · exact ⟨j + 1, q2, by omega, by omega, by go_num, rfl, HJ⟩
            · simp [intOf]; omega
      · have HE : Hid ((if decide (s.size < t.size) = true then (-1 : Int) else if decide (t.size < s.size) = true then 1 else 0) = Z.cs s t) := by
          show _ = _
          rw [← HI.out, show t.data.toList.drop j = [] from List.drop_eq_nil_of_le (by simp only [Array.length_toList]; show t.size ≤ j; omega)]
          rw [List.drop_eq_getElem_cons (by simpa using h1), if_neg (by simp; omega), if_pos (by simp; omega)]
          simp [Lib.compareBytes]
        clear HI
        go_wp2_with fail
        refine (uorder_any _ _ _).mono ?_
        rintro e w1 ⟨rfl, rfl⟩
        rw [HE.out]
        go_wp2
        go_ret
        exact ⟨rfl, q, rfl⟩
    · have HE : Hid ((if decide (s.size < t.size) = true then (-1 : Int) else if decide (t.size < s.size) = true then 1 else 0) = Z.cs s t) := by
        show _ = _
        rw [← HI.out, show s.data.toList.drop j = [] from List.drop_eq_nil_of_le (by simp only [Array.length_toList]; show s.size ≤ j; omega)]
        by_cases h2 : j < t.size
        · rw [List.drop_eq_getElem_cons (by simpa using h2), if_pos (by simp; omega)]; simp [Lib.compareBytes]
        · rw [show t.data.toList.drop j = [] from List.drop_eq_nil_of_le (by simp only [Array.length_toList]; show t.size ≤ j; omega), if_neg (by simp; omega), if_neg (by simp; omega)]; simp [Lib.compareBytes]
      clear HI
      go_wp2_with fail
      refine (uorder_any _ _ _).mono ?_
      rintro e w1 ⟨rfl, rfl⟩
      rw [HE.out]
      go_wp2
      go_ret
      exact ⟨rfl, q, rfl⟩
theorem ci_order (a b : Int) : (if decide (a < b) = true then (-1 : Int) else if decide (b < a) = true then 1 else 0) = Z.ci a b := by
  unfold Z.ci; simp only [decide_eq_true_eq]
/-- Two blocks more, behind some draws. -/
theorem two_more (w : World) (a b : Obj) (q : Nat) : ((w.alloc a).alloc b).drewN q = grow (w.drewN q) #[a, b] := by
  rw [alloc_eq_grow, alloc_eq_grow, grow_grow]; rfl
theorem two_none (w : World) (a b : Obj) : (w.alloc a).alloc b = grow (w.drewN 0) #[a, b] := two_more w a b 0
/-- What a comparison answers. -/
def CmpAns (w : World) (c : Int) (e : Ending) (w' : World) : Prop := e = .returned (.int .i64 c) ∧ ∃ q os, w' = grow (w.drewN q) os
set_option maxHeartbeats 1000000 in
theorem ucompare_two (ak ai : Int) (az : ByteArray) (bk bi : Int) (bz : ByteArray) (w : World) (hs : az.size ≤ 9223372036854775807) (ht : bz.size ≤ 9223372036854775807) :
    Calls Tryz.prog 43 #[.agg #[.int .i64 ak, .int .i64 ai, .string az], .agg #[.int .i64 bk, .int .i64 bi, .string bz]] w (CmpAns w (Z.cv ⟨ak, ai, az⟩ ⟨bk, bi, bz⟩)) := by
  by_cases hk : ak = bk
  · subst hk
    by_cases k1 : ak = 1
    · subst k1
      rw [cv_int]
      have HO : Hid _ := ci_order ai bi
      go_enter Tryz.func43, Tryz.ntmps43
      go_wp2_with fail
      refine (uorder_any _ _ _).mono ?_
      rintro e w1 ⟨rfl, rfl⟩
      rw [HO.out]
      go_wp2
      go_ret
      exact ⟨rfl, 0, _, two_none _ _ _⟩
    · by_cases k2 : ak = 2
      · subst k2
        rw [cv_float]
        have HA : Hid (IntKind.u64.wrap ai = Z.u ai) := u64_wrap ai
        have HB : Hid (IntKind.u64.wrap bi = Z.u bi) := u64_wrap bi
        have HI := Z.u_in ai
        have HJ := Z.u_in bi
        go_enter Tryz.func43, Tryz.ntmps43
        go_wp2_with fail
        rw [HA.out, HB.out]
        refine (rcompare_any _ _ _ HI.1 HI.2 HJ.1 HJ.2).mono ?_
        rintro e w2 ⟨rfl, rfl⟩
        go_wp2
        go_ret
        exact ⟨rfl, 0, _, two_none _ _ _⟩
      · by_cases k3 : ak = 3
        · subst k3
          rw [cv_text]
          go_enter Tryz.func43, Tryz.ntmps43
          go_wp2_with fail
          refine (utexts_any _ _ _ hs ht).mono ?_
          rintro e w2 ⟨rfl, q, rfl⟩
          go_wp2
          go_ret
          exact ⟨rfl, q, _, two_more _ _ _ _⟩
        · rw [cv_else k1 k2 k3]
          go_enter Tryz.func43, Tryz.ntmps43
          go_wp2
          go_ret
          exact ⟨rfl, 0, _, two_none _ _ _⟩
  · rw [cv_kind hk]
    have HO : Hid _ := ci_order ak bk
    go_enter Tryz.func43, Tryz.ntmps43
    go_wp2_with fail
    refine (uorder_any _ _ _).mono ?_
    rintro e w1 ⟨rfl, rfl⟩
    rw [HO.out]
    go_wp2
    go_ret
    exact ⟨rfl, 0, _, two_none _ _ _⟩
end Go.Proofs.YtmhfpipeoojacaaGreat
/- Plain facts on codes: places among words; a column laid down as words and codes, and read. Nothing of the program. -/
namespace Go.Proofs.YtmhfpipeoojacaaGreat
set_option linter.unusedVariables false
open Go.RowKit

/-- A value's place among words; whether all have one; the places. -/
def Z.pl (ws : List Z.V) (v : Z.V) : Option Nat := ws.findIdx? fun x => decide (Z.cv x v = 0)
def Z.cdN (ws : List Z.V) (v : Z.V) : Nat := (Z.pl ws v).getD 0
def Z.cdE (ws l : List Z.V) : Int := if (l.all fun v => Z.has ws v) = true then 0 else 6
def Z.cdL (ws l : List Z.V) : List Nat := if Z.cdE ws l = 0 then l.map (Z.cdN ws) else []
theorem pl_some {ws : List Z.V} {v : Z.V} {j : Nat} (h : Z.pl ws v = some j) : ∃ y, ws[j]? = some y ∧ Z.cv y v = 0 := by
  unfold Z.pl at h
  obtain ⟨h1, h2, _⟩ := List.findIdx?_eq_some_iff_getElem.1 h
  exact ⟨ws[j], List.getElem?_eq_getElem h1, by simpa using h2⟩
theorem pl_none {ws : List Z.V} {v : Z.V} : Z.pl ws v = none ↔ Z.has ws v = false := by
  unfold Z.pl Z.has
  rw [List.findIdx?_eq_none_iff, List.any_eq_false]
  simp
theorem pl_has {ws : List Z.V} {v : Z.V} (h : Z.has ws v = true) : ∃ j, Z.pl ws v = some j := by
  cases hp : Z.pl ws v with
  | none => rw [pl_none] at hp; rw [hp] at h; exact absurd h (by decide)
  | some j => exact ⟨j, rfl⟩
theorem cdN_has {ws : List Z.V} {v : Z.V} (h : Z.has ws v = true) : ∃ y, ws[Z.cdN ws v]? = some y ∧ Z.cv y v = 0 := by
  obtain ⟨j, hj⟩ := pl_has h
  unfold Z.cdN
  rw [hj]
  exact pl_some hj
theorem cdE_ok {ws l : List Z.V} (h : ∀ v ∈ l, Z.has ws v = true) : Z.cdE ws l = 0 := by
  unfold Z.cdE
  rw [if_pos (List.all_eq_true.2 h)]
theorem cdE_bad {ws l : List Z.V} {v : Z.V} (hv : v ∈ l) (h : Z.has ws v = false) : Z.cdE ws l = 6 := by
  unfold Z.cdE
  rw [if_neg]
  intro h1
  rw [List.all_eq_true] at h1
  rw [h1 v hv] at h
  exact absurd h (by decide)
theorem cdE_zero {ws l : List Z.V} (h : Z.cdE ws l = 0) : ∀ v ∈ l, Z.has ws v = true := by
  unfold Z.cdE at h
  split at h
  · rename_i h1
    exact List.all_eq_true.1 h1
  · exact absurd h (by decide)
theorem cdL_ok {ws l : List Z.V} (h : Z.cdE ws l = 0) : Z.cdL ws l = l.map (Z.cdN ws) := by unfold Z.cdL; rw [if_pos h]
theorem cdL_bad {ws l : List Z.V} (h : Z.cdE ws l ≠ 0) : Z.cdL ws l = [] := by unfold Z.cdL; rw [if_neg h]
/-- Among values that rise a value's place is how many are below it. -/
theorem rise_cdN {ws : List Z.V} (h : Z.Rise ws) {j : Nat} {y v : Z.V} (hj : ws[j]? = some y) (hv : Z.cv y v = 0) : Z.cdN ws v = j := by
  obtain ⟨z, hz, hzv⟩ := cdN_has (ws := ws) (v := v) (has_iff.2 ⟨y, List.mem_of_getElem? hj, hv⟩)
  exact rise_place h hz hj (cv_eq_trans hzv (cv_eq_sym hv))
theorem rise_blw {ws : List Z.V} (h : Z.Rise ws) {j : Nat} {y v : Z.V} (hj : ws[j]? = some y) (hv : Z.cv y v = 0) : Z.blw ws v = j := by
  obtain ⟨z, hz, hzv⟩ := (rise_has h v).1 (has_iff.2 ⟨y, List.mem_of_getElem? hj, hv⟩)
  exact rise_place h hz hj (cv_eq_trans hzv (cv_eq_sym hv))
theorem rise_below {ws : List Z.V} (h : Z.Rise ws) {j : Nat} {y v : Z.V} (hj : ws[j]? = some y) : j < Z.blw ws v ↔ Z.cv y v < 0 := by
  obtain ⟨h1, h2⟩ := rise_cut h v
  constructor
  · intro hl
    exact h1 y (List.mem_of_getElem? (by rw [List.getElem?_take, if_pos hl]; exact hj))
  · intro hv
    rcases Nat.lt_or_ge j (Z.blw ws v) with h3 | h3
    · exact h3
    · have := h2 y (List.mem_of_getElem? (i := j - Z.blw ws v) (by rw [List.getElem?_drop, show Z.blw ws v + (j - Z.blw ws v) = j by omega]; exact hj))
      omega
theorem words_has (l : List Z.V) : ∀ v ∈ l, Z.has (Z.wds l) v = true := fun v hv => has_iff.2 ((words_of l).all v hv)
theorem words_cdE (l : List Z.V) : Z.cdE (Z.wds l) l = 0 := cdE_ok (words_has l)
/-- The width of the greatest place. -/
def Z.dwd (n : Nat) : Nat := bitLen (n - 1)
theorem dwd_le {n : Nat} (h : n ≤ 4096) : Z.dwd n ≤ 12 := (bitLen_le_iff (n - 1) 12).2 (by omega)
theorem dwd_fit {n j : Nat} (h : j < n) : j < 2 ^ Z.dwd n := by
  have h1 := (bitLen_le_iff (n - 1) (Z.dwd n)).1 (Nat.le_refl _)
  omega
/-- Codes as numbers. -/
theorem cI_in {c : List Nat} {m : Nat} (hm : m ≤ 4096) (h : ∀ x ∈ c, x < m) : In64 (ints c) := by
  intro x hx
  unfold ints at hx
  obtain ⟨y, hy, rfl⟩ := List.mem_map.1 hx
  have := h y hy
  omega
theorem cI_fit {c : List Nat} {m : Nat} (h : ∀ x ∈ c, x < m) : Fit (ints c) (Z.dwd m) := by
  intro x hx
  unfold ints at hx
  obtain ⟨y, hy, rfl⟩ := List.mem_map.1 hx
  have := dwd_fit (h y hy)
  rw [← pow_int]
  omega
theorem cI_inj {c d : List Nat} (h : ints c = ints d) : c = d := by
  have h2 := congrArg (List.map Int.toNat) h
  simpa [ints, List.map_map, Function.comp_def] using h2
/-- A column's bytes: how many words, the words, the codes. -/
def Z.db (l : List Z.V) : List Nat := E.leb (Z.wds l).length ++ (Z.pb (Z.wds l) ++ A.bytesOf (bitsAll (ints (Z.cdL (Z.wds l) l)) (Z.dwd (Z.wds l).length)))
def Z.dcb (l : List Z.V) (kind : Int) : List Nat := if Z.chk l kind = 0 then Z.db l else []
theorem dcb_ok {l : List Z.V} {kind : Int} (h : Z.chk l kind = 0) : Z.dcb l kind = Z.db l := by unfold Z.dcb; rw [if_pos h]
theorem dcb_bad {l : List Z.V} {kind : Int} (h : Z.chk l kind ≠ 0) : Z.dcb l kind = [] := by unfold Z.dcb; rw [if_neg h]
/-- Do values rise? -/
def Z.risB : List Z.V → Bool
  | [] => true
  | [_] => true
  | x :: y :: t => decide (Z.cv x y < 0) && Z.risB (y :: t)
theorem risB_iff : ∀ ws : List Z.V, Z.risB ws = true ↔ Z.Rise ws
  | [] => by simp [Z.risB, Z.Rise]
  | [x] => by simp [Z.risB, Z.Rise]
  | x :: y :: t => by
    rw [Z.risB, Bool.and_eq_true, decide_eq_true_eq, risB_iff (y :: t)]
    constructor
    · rintro ⟨h1, h2⟩
      refine List.pairwise_cons.2 ⟨fun z hz => ?_, h2⟩
      rcases List.mem_cons.1 hz with rfl | hz
      · exact h1
      · exact cv_lt_lt h1 ((List.pairwise_cons.1 h2).1 z hz)
    · intro h
      obtain ⟨h1, h2⟩ := List.pairwise_cons.1 h
      exact ⟨h1 y (by simp), h2⟩
/-- Are codes places, and each place a code? -/
def Z.cdOk (m : Nat) (c : List Nat) : Bool := (c.all fun x => decide (x < m)) && ((List.range m).all fun j => c.any fun x => x == j)
theorem cdOk_iff {m : Nat} {c : List Nat} : Z.cdOk m c = true ↔ (∀ x ∈ c, x < m) ∧ ∀ j, j < m → j ∈ c := by
  unfold Z.cdOk
  rw [Bool.and_eq_true, List.all_eq_true, List.all_eq_true]
  simp
/-- The parts of a column's bytes: how many words, the words, the rest, the codes. -/
def Z.dM (b : List Nat) : Nat := E.gN b
def Z.dW (kind : Int) (b : List Nat) : List Z.V := Z.pL kind (E.gN b) (b.drop (E.gK b))
def Z.dR (kind : Int) (b : List Nat) : List Nat := Z.pR kind (E.gN b) (b.drop (E.gK b))
def Z.dC (kind : Int) (n : Nat) (b : List Nat) : List Nat := (nums (Z.dR kind b) n (Z.dwd (E.gN b))).map Int.toNat
/-- What is wrong with bytes as a column of so many values. -/
def Z.dN (kind : Int) (n : Nat) (b : List Nat) : Nat :=
  if E.gE b ≠ 0 then E.gE b else if n < E.gN b then 4 else if Z.pE kind (E.gN b) (b.drop (E.gK b)) ≠ 0 then Z.pE kind (E.gN b) (b.drop (E.gK b)) else
  if Z.risB (Z.dW kind b) = false then 4 else if jb (Z.dR kind b) (n * Z.dwd (E.gN b)) ≠ 0 then jb (Z.dR kind b) (n * Z.dwd (E.gN b)) else if Z.cdOk (E.gN b) (Z.dC kind n b) = false then 4 else 0
structure Z.DOk (kind : Int) (n : Nat) (b : List Nat) : Prop where
  num : E.gE b = 0
  most : E.gN b ≤ n
  vals : Z.pE kind (E.gN b) (b.drop (E.gK b)) = 0
  rise : Z.Rise (Z.dW kind b)
  bits : jb (Z.dR kind b) (n * Z.dwd (E.gN b)) = 0
  code : Z.cdOk (E.gN b) (Z.dC kind n b) = true
theorem dN_zero {kind : Int} {n : Nat} {b : List Nat} (h : Z.dN kind n b = 0) : Z.DOk kind n b := by
  unfold Z.dN at h
  split at h
  · omega
  · rename_i h1
    split at h
    · omega
    · rename_i h2
      split at h
      · omega
      · rename_i h3
        split at h
        · omega
        · rename_i h4
          split at h
          · omega
          · rename_i h5
            split at h
            · omega
            · rename_i h6
              exact ⟨by omega, by omega, by omega, (risB_iff _).1 (by simpa using h4), by omega, by simpa using h6⟩
theorem dN_of {kind : Int} {n : Nat} {b : List Nat} (h : Z.DOk kind n b) : Z.dN kind n b = 0 := by
  unfold Z.dN
  have h1 := h.num
  have h2 := h.most
  have h3 := h.vals
  have h4 := (risB_iff _).2 h.rise
  have h5 := h.bits
  rw [if_neg (by omega), if_neg (by omega), if_neg (by omega), h4, if_neg (by decide), if_neg (by omega), h.code, if_neg (by decide)]
/-- The values of codes. -/
def Z.dV (ws : List Z.V) (c : List Nat) : List Z.V := c.map fun x => ws.getD x ⟨0, 0, ⟨#[]⟩⟩
theorem getD_of {ws : List Z.V} {j : Nat} {y : Z.V} (h : ws[j]? = some y) : ws.getD j ⟨0, 0, ⟨#[]⟩⟩ = y := by rw [List.getD_eq_getElem?_getD, h]; rfl
theorem get_lt {ws : List Z.V} {j : Nat} (h : j < ws.length) : ws[j]? = some (ws.getD j ⟨0, 0, ⟨#[]⟩⟩) := by
  rw [List.getD_eq_getElem?_getD, List.getElem?_eq_getElem h]; rfl
/-- Words and codes, each word a code, are those of their values. -/
theorem code_words {ws : List Z.V} {c : List Nat} (h : Z.Rise ws) (h1 : ∀ x ∈ c, x < ws.length) (h2 : ∀ j, j < ws.length → j ∈ c) : Z.wds (Z.dV ws c) = ws ∧ Z.cdL ws (Z.dV ws c) = c := by
  have hm : ∀ x ∈ Z.dV ws c, ∃ j, j ∈ c ∧ ws[j]? = some x := fun x hx => by
    obtain ⟨j, hj, rfl⟩ := List.mem_map.1 hx
    exact ⟨j, hj, get_lt (h1 j hj)⟩
  have hw : Z.Words (Z.dV ws c) ws := by
    refine ⟨h, fun x hx => ?_, fun y hy => ?_⟩
    · obtain ⟨j, _, hj⟩ := hm x hx
      exact ⟨x, List.mem_of_getElem? hj, Z.cv_refl x⟩
    · obtain ⟨j, hj⟩ := List.getElem?_of_mem hy
      have hjl := (List.getElem?_eq_some_iff.1 hj).1
      have hyl : y ∈ Z.dV ws c := List.mem_map.2 ⟨j, h2 j hjl, getD_of hj⟩
      cases hf : (Z.dV ws c).find? (fun x => decide (Z.cv x y = 0)) with
      | none =>
        rw [List.find?_eq_none] at hf
        exact absurd (by simp [Z.cv_refl]) (hf y hyl)
      | some z =>
        have hv : Z.cv z y = 0 := by simpa using List.find?_some hf
        obtain ⟨i, _, hi⟩ := hm z (List.mem_of_find?_eq_some hf)
        obtain rfl := rise_place h hi hj hv
        rw [hi] at hj
        rw [Option.some.inj hj]
  refine ⟨words_uniq (words_of _) hw, ?_⟩
  have he : Z.cdE ws (Z.dV ws c) = 0 := cdE_ok fun v hv => by
    obtain ⟨j, _, hj⟩ := hm v hv
    exact has_iff.2 ⟨v, List.mem_of_getElem? hj, Z.cv_refl v⟩
  rw [cdL_ok he]
  unfold Z.dV
  rw [List.map_map]
  conv => rhs; rw [← List.map_id c]
  apply List.map_congr_left
  intro j hj
  exact rise_cdN h (get_lt (h1 j hj)) (Z.cv_refl _)
/-- Codes are places, and each place is one. -/
theorem codes_ok (l : List Z.V) : Z.cdOk (Z.wds l).length (Z.cdL (Z.wds l) l) = true := by
  rw [cdOk_iff, cdL_ok (words_cdE l)]
  refine ⟨fun x hx => ?_, fun j hj => ?_⟩
  · obtain ⟨v, hv, rfl⟩ := List.mem_map.1 hx
    obtain ⟨y, hy, _⟩ := cdN_has (words_has l v hv)
    exact (List.getElem?_eq_some_iff.1 hy).1
  · have hg := get_lt hj
    have hm := words_mem (words_of l) (List.mem_of_getElem? hg)
    exact List.mem_map.2 ⟨_, hm, rise_cdN (wds_rise l) hg (Z.cv_refl _)⟩
/-- The words of a column's codes are its values, where values that are alike are the same. -/
theorem codes_back {l : List Z.V} (h : ∀ x ∈ l, ∀ y ∈ l, Z.cv x y = 0 → x = y) : Z.dV (Z.wds l) (Z.cdL (Z.wds l) l) = l := by
  rw [cdL_ok (words_cdE l)]
  unfold Z.dV
  rw [List.map_map]
  conv => rhs; rw [← List.map_id l]
  apply List.map_congr_left
  intro v hv
  obtain ⟨y, hy, hyv⟩ := cdN_has (words_has l v hv)
  show (Z.wds l).getD (Z.cdN (Z.wds l) v) _ = v
  rw [getD_of hy]
  exact h y (words_mem (words_of l) (List.mem_of_getElem? hy)) v hv hyv
end Go.Proofs.YtmhfpipeoojacaaGreat

/- val.Compare: two blocks more, and nothing else; as an order for a sort of rows of values. Conditions: none. -/
import Derived.Test.YtkcpfgjkplailaaBdF
import Derived.Test.YtkcpfgjkplailaaBdV
import Derived.Test.YtkcpfgjkplailaaBdO
import Derived.Test.YtkcpfgjkplailaaBdP
import Derived.BigQuiet
import Derived.WalkSmall
import Derived.Test.YtkcpfgjkplailaaBdN
import Derived.WalkMore
namespace Go.Proofs.Ytkcpfgjkplailaa
open Go.RowKit Go.Sort
theorem vcompare_two (ak ai : Int) (az : ByteArray) (bk bi : Int) (bz : ByteArray) (w : World) :
    Calls Try.prog 62 #[.agg #[.int .i64 ak, .int .i64 ai, .string az], .agg #[.int .i64 bk, .int .i64 bi, .string bz]] w fun e w' => e = .returned (.int .i64 (Z.cv ⟨ak, ai, az⟩ ⟨bk, bi, bz⟩)) ∧ ∃ a b, w' = (w.alloc a).alloc b := by
  by_cases hk : ak = bk
  · subst hk
    have h0 := ci_self ak
    by_cases k1 : ak = 1
    · subst k1
      go_enter Try.func62, Try.ntmps62
      go_wp2_with fail
      refine (cmpi_any _ _ _).mono ?_
      rintro e w1 ⟨rfl, rfl⟩
      rw [h0]
      clear h0
      go_wp2_with fail
      refine (cmpl_any _ _ _).mono ?_
      rintro e w2 ⟨rfl, rfl⟩
      go_wp2
      go_ret
      exact ⟨by rw [cv_int]; rfl, _, _, rfl⟩
    · by_cases k2 : ak = 2
      · subst k2
        have HA : Hid (IntKind.u64.wrap ai = Z.u ai) := u64_wrap ai
        have HB : Hid (IntKind.u64.wrap bi = Z.u bi) := u64_wrap bi
        have HI := Z.u_in ai
        have HJ := Z.u_in bi
        go_enter Try.func62, Try.ntmps62
        go_wp2_with fail
        refine (cmpi_any _ _ _).mono ?_
        rintro e w1 ⟨rfl, rfl⟩
        rw [h0]
        clear h0
        go_wp2_with fail
        rw [HA.out, HB.out]
        refine (compare_any _ _ _ HI.1 HI.2 HJ.1 HJ.2).mono ?_
        rintro e w2 ⟨rfl, rfl⟩
        go_wp2
        go_ret
        exact ⟨by rw [cv_float]; rfl, _, _, rfl⟩
      · by_cases k3 : ak = 3
        · subst k3
          go_enter Try.func62, Try.ntmps62
          go_wp2_with fail
          refine (cmpi_any _ _ _).mono ?_
          rintro e w1 ⟨rfl, rfl⟩
          rw [h0]
          clear h0
          go_wp2_with fail
          refine (strcmp_any _ _ _).mono ?_
          rintro e w2 ⟨rfl, rfl⟩
          go_wp2
          go_ret
          exact ⟨by rw [cv_text]; rfl, _, _, rfl⟩
        · go_enter Try.func62, Try.ntmps62
          go_wp2_with fail
          refine (cmpi_any _ _ _).mono ?_
          rintro e w1 ⟨rfl, rfl⟩
          rw [h0]
          clear h0
          go_wp2
          go_ret
          exact ⟨by rw [cv_else k1 k2 k3]; rfl, _, _, rfl⟩
  · have h0 := ci_ne hk
    have HV : Hid (Z.cv ⟨ak, ai, az⟩ ⟨bk, bi, bz⟩ = Z.ci ak bk) := cv_kind hk
    go_enter Try.func62, Try.ntmps62
    go_wp2_with fail
    refine (cmpi_any _ _ _).mono ?_
    rintro e w1 ⟨rfl, rfl⟩
    obtain ⟨c, hc⟩ : ∃ c, Z.ci ak bk = c := ⟨_, rfl⟩
    rw [hc] at h0 HV ⊢
    clear hc
    go_wp2
    go_ret
    exact ⟨by rw [HV.out]; rfl, _, _, rfl⟩

/-- The zero value. -/
def Z.o : Z.V := ⟨0, 0, ⟨#[]⟩⟩
/-- A place's cells. -/
def encV (x : Z.V) : List Value := [.int .i64 x.k, .int .i64 x.i, .string x.s]
def encL (l : List Z.V) (i : Nat) : List Value := encV (l.getD i Z.o)
def cfL (l : List Z.V) (i j : Nat) : Int := Z.cv (l.getD i Z.o) (l.getD j Z.o)
theorem cfL_swo (l : List Z.V) : SWO (ltOf (cfL l)) := by
  refine ⟨fun x => decide_eq_false ?_, fun x y z h1 h2 => decide_eq_true (cv_lt_lt (of_decide_eq_true h1) (of_decide_eq_true h2)), fun x y z h1 h2 => decide_eq_false ?_⟩
  · have := cv_anti (l.getD x Z.o) (l.getD x Z.o)
    unfold cfL; omega
  · have h1 := of_decide_eq_false h1
    have h2 := of_decide_eq_false h2
    unfold cfL at *
    have e1 := cv_anti (l.getD x Z.o) (l.getD y Z.o)
    have e2 := cv_anti (l.getD y Z.o) (l.getD z Z.o)
    have e3 := cv_anti (l.getD x Z.o) (l.getD z Z.o)
    have := cv_le_le (a := l.getD z Z.o) (b := l.getD y Z.o) (c := l.getD x Z.o) (by omega) (by omega)
    omega
theorem two_grow (w : World) (a b : Obj) : (w.alloc a).alloc b = grow (w.drewN 0) #[a, b] := by
  rw [alloc_eq_grow, alloc_eq_grow, grow_grow]; rfl
theorem cmp_lays (l : List Z.V) (blk off size : Nat) (w : World) : CmpLays Try.prog 62 #[] (encL l) 3 (cfL l) blk off size w := fun m os dk hs x y => by
  refine (vcompare_two (l.getD x Z.o).k (l.getD x Z.o).i (l.getD x Z.o).s (l.getD y Z.o).k (l.getD y Z.o).i (l.getD y Z.o).s _).mono ?_
  rintro e w' ⟨rfl, a, b, rfl⟩
  exact ⟨rfl, 0, #[a, b], two_grow _ a b⟩
/-- A row as its places tell it. -/
def rd (l : List Z.V) (dk : Array Nat) : List Z.V := dk.toList.map fun i => l.getD i Z.o
theorem rd_length (l : List Z.V) (dk : Array Nat) : (rd l dk).length = dk.size := by simp [rd]
theorem encL_length (l : List Z.V) (i : Nat) : (encL l i).length = 3 := rfl
theorem rd_get (l : List Z.V) (dk : Array Nat) (i : Nat) (h : i < dk.size) : (rd l dk)[i]? = some (l.getD dk[i]! Z.o) := by
  simp [rd, h]
theorem rd_range (l : List Z.V) : rd l (Array.range l.length) = l := by
  apply List.ext_getElem?
  intro i
  by_cases h : i < l.length
  · rw [rd_get _ _ _ (by simpa using h), List.getElem?_eq_getElem h]
    simp [h]
  · rw [List.getElem?_eq_none (by rw [rd_length]; simp; omega), List.getElem?_eq_none (by omega)]
theorem flat_cells (l : List Z.V) (dk : Array Nat) : (flatK (encL l) 3 dk).toList = cellsV (rd l dk) := by
  apply List.ext_getElem?
  intro t
  by_cases h : t < dk.size * 3
  · have hx := rd_get l dk (t / 3) (by omega)
    obtain ⟨g0, g1, g2⟩ := cellsV_get _ _ _ hx
    have e : (flatK (encL l) 3 dk).toList[t]? = some (flatK (encL l) 3 dk)[t]! := by
      rw [Array.getElem?_toList, Array.getElem?_eq_getElem (by simpa using h), getElem!_pos _ t (by simpa using h)]
    rw [e, get_flatK _ _ _ _ h]
    have hr : t = t / 3 * 3 ∨ t = t / 3 * 3 + 1 ∨ t = t / 3 * 3 + 2 := by omega
    have c : ∀ q, t / 3 = q → (cellsV (rd l dk))[q * 3]? = some (.int .i64 (l.getD dk[q]! Z.o).k) ∧ (cellsV (rd l dk))[q * 3 + 1]? = some (.int .i64 (l.getD dk[q]! Z.o).i) ∧ (cellsV (rd l dk))[q * 3 + 2]? = some (.string (l.getD dk[q]! Z.o).s) := fun q hq => by subst hq; exact ⟨g0, g1, g2⟩
    obtain ⟨q, hq⟩ : ∃ q, t / 3 = q := ⟨_, rfl⟩
    obtain ⟨c0, c1, c2⟩ := c q hq
    rw [hq] at hr ⊢
    rcases hr with hr | hr | hr
    · rw [hr, c0, show q * 3 % 3 = 0 by omega]; rfl
    · rw [hr, c1, show (q * 3 + 1) % 3 = 1 by omega]; rfl
    · rw [hr, c2, show (q * 3 + 2) % 3 = 2 by omega]; rfl
  · rw [List.getElem?_eq_none (by simp; omega), List.getElem?_eq_none (by rw [cellsV_length, rd_length]; omega)]
/-- A row of one's own, as a sort asks it. -/
theorem row_of_own {w : World} {B g cap : Nat} {l : List Z.V} (h : OwnV w B (.slice (some ⟨g, 0, none⟩) l.length cap) l) : RowK (encL l) 3 w g 0 (Array.range l.length) := by
  have h0 := h
  rcases h.2 with ⟨h1, h2⟩ | ⟨g', cap', cur, hv, hg, hh, hc, hm, hsz, ht⟩
  · cases h1
  · injection hv with e1 e2 e3
    injection Option.some.inj e1 with e4 e5 e6
    subst e4
    refine ⟨encL_length l, fun x v hv => ?_, fun j hj => ?_, lt_of_block hh⟩
    · simp [encL, encV] at hv
      rcases hv with rfl | rfl | rfl <;> rfl
    · have hj' : j < l.length * 3 := by simpa using hj
      have hlen : l.length * 3 ≤ cur.size := by rw [hsz]; omega
      refine ⟨?_, by simp [World.frozen?, hh]⟩
      have e : cur.toList[j]? = (cellsV l)[j]? := by
        rw [← ht, List.getElem?_take_of_lt hj']
      have e2 : (flatK (encL l) 3 (Array.range l.length)).toList[j]? = (cellsV l)[j]? := by rw [flat_cells, rd_range]
      have e3 : (flatK (encL l) 3 (Array.range l.length)).toList[j]? = some (flatK (encL l) 3 (Array.range l.length))[j]! := by
        rw [Array.getElem?_toList, Array.getElem?_eq_getElem hj, getElem!_pos _ j hj]
      simp only [World.cell?, hh, Nat.zero_add, Option.isSome_none, Bool.false_eq_true, if_false, id]
      rw [← Array.getElem?_toList, e, ← e2, e3]
/-- Behind the sort: the same slice owns the row as it lies now. -/
theorem own_sorted {w w2 : World} {B g cap : Nat} {l l0 : List Z.V} {dk : Array Nat} (h : OwnV w B (.slice (some ⟨g, 0, none⟩) l0.length cap) l0) (hs : dk.size = l0.length) (hw : SWK (encL l) 3 w g 0 dk w2) :
    OwnV w2 B (.slice (some ⟨g, 0, none⟩) l0.length cap) (rd l dk) ∧ Kept (fun b => b = g) w w2 := by
  obtain ⟨m, os, rfl⟩ := hw
  rcases h.2 with ⟨h1, h2⟩ | ⟨g', cap', cur, hv, hg, hh, hc, hm, hsz, ht⟩
  · cases h1
  · injection hv with e1 e2 e3
    injection Option.some.inj e1 with e4 e5 e6
    subst e4; subst e3
    have hlt : g < w.heap.size := lt_of_block hh
    have hF : (flatK (encL l) 3 dk).size = l0.length * 3 := by simp [hs]
    have hlen : l0.length * 3 ≤ cur.size := by rw [hsz]; omega
    have hblk : (sortWorldK (encL l) 3 w g 0 m dk os).heap[g]? = some (.cells (putCells id 0 (flatK (encL l) 3 dk) cur) 42 (0, 0)) := by
      unfold sortWorldK putRowK
      have : (grow (putRow id (Sort.ahead w m) g 0 (flatK (encL l) 3 dk)) os).heap[g]? = (putRow id (Sort.ahead w m) g 0 (flatK (encL l) 3 dk)).heap[g]? := by
        simp only [grow]; rw [Array.getElem?_append_left (by simpa using hlt)]
      rw [this]
      simp [putRow, mapBlock, Sort.ahead, Array.getElem?_modify, hh, onCells]
    refine ⟨⟨by rw [cellsV_length], .inr ⟨g, cap, _, by rw [rd_length, hs], hg, hblk, by rw [rd_length, hs]; exact hc, hm, by simp [putCells, hsz], ?_⟩⟩, rfl, rfl, rfl, ?_, fun b hb hne => ?_⟩
    · rw [rd_length, hs, ← flat_cells]
      apply List.ext_getElem?
      intro j
      by_cases hj : j < l0.length * 3
      · rw [List.getElem?_take_of_lt hj, Array.getElem?_toList, Array.getElem?_toList]
        have hj2 : j < (flatK (encL l) 3 dk).size := by omega
        simp only [putCells, Array.getElem?_mapIdx]
        rw [Array.getElem?_eq_getElem (show j < cur.size by omega), Option.map_some, if_pos ⟨by omega, by omega⟩, Array.getElem?_eq_getElem hj2, Nat.sub_zero, getElem!_pos _ j hj2]; rfl
      · rw [List.getElem?_take_eq_none (by omega), List.getElem?_eq_none (by simp; omega)]
    · unfold sortWorldK putRowK; rw [size_grow, size_putRow]; show w.heap.size ≤ w.heap.size + _; omega
    · unfold sortWorldK putRowK
      have : (grow (putRow id (Sort.ahead w m) g 0 (flatK (encL l) 3 dk)) os).heap[b]? = (putRow id (Sort.ahead w m) g 0 (flatK (encL l) 3 dk)).heap[b]? := by
        simp only [grow]; rw [Array.getElem?_append_left (by simpa using hb)]
      rw [this]
      simp [putRow, mapBlock, Sort.ahead, Array.getElem?_modify, Ne.symm hne]
end Go.Proofs.Ytkcpfgjkplailaa
/- The document's order of values: astragalref05.Compare and what it calls. Conditions: none. -/
namespace Go.Proofs.Ytkcpfgjkplailaa
set_option linter.unusedVariables false
open Go.RowKit Go.Sort
theorem uorder_any (p q : Bool) (w : World) : Calls Try.prog 63 #[.bool p, .bool q] w fun e w' => e = .returned (.int .i64 (if p = true then -1 else if q = true then 1 else 0)) ∧ w' = w := by
  cases p <;> cases q <;> (go_enter Try.func63, Try.ntmps63; go_wp2; go_ret; exact ⟨rfl, rfl⟩)
theorem utexts_any (s t : ByteArray) (w : World) (hs : s.size ≤ 9223372036854775807) (ht : t.size ≤ 9223372036854775807) : Calls Try.prog 65 #[.string s, .string t] w fun e w' => e = .returned (.int .i64 (Z.cs s t)) ∧ ∃ q, w' = w.drewN q := by
  go_enter Try.func65, Try.ntmps65
  go_wp2_with fail
  go_loopw [5] (fun i wr => ∃ j q : Nat, j ≤ s.size ∧ j ≤ t.size ∧ i = .int .i64 j ∧ wr = w.drewN q ∧ Hid (Lib.compareBytes (s.data.toList.drop j) (t.data.toList.drop j) = Z.cs s t)) (fun i _ => s.size - (intOf i).toNat)
  case atStart => exact ⟨0, 0, Nat.zero_le _, Nat.zero_le _, rfl, rfl, hide rfl⟩
  case round =>
    obtain ⟨j, q, hj, hk, rfl, rfl, HI⟩ := hrel
    by_cases h1 : j < s.size
    · by_cases h2 : j < t.size
      · have e1 : s.data.toList.drop j = s[j] :: s.data.toList.drop (j + 1) := by rw [List.drop_eq_getElem_cons (by simpa using h1)]; rfl
        have e2 : t.data.toList.drop j = t[j] :: t.data.toList.drop (j + 1) := by rw [List.drop_eq_getElem_cons (by simpa using h2)]; rfl
        have HE : Hid (Z.cs s t = if s[j].toNat < t[j].toNat then -1 else if t[j].toNat < s[j].toNat then 1 else Lib.compareBytes (s.data.toList.drop (j + 1)) (t.data.toList.drop (j + 1))) := by
          show _ = _
          rw [← HI.out, e1, e2, Z.cb_step]
        clear e1 e2
        by_cases h3 : s[j].toNat < t[j].toNat
        · go_wp2_with fail
          go_quiet (fail)
          go_wp2
          go_ret
          exact ⟨by rw [HE.out, if_pos h3]; rfl, q + nq, by rw [World.drewN_drewN]⟩
        · have h3d : decide (s[j].toNat < t[j].toNat) = false := decide_eq_false h3
          by_cases h4 : t[j].toNat < s[j].toNat
          · go_wp2_with fail
            go_quiet (fail)
            obtain ⟨q1, hq1⟩ : ∃ q1, (w.drewN q).drewN nq = w.drewN q1 := ⟨q + nq, World.drewN_drewN _ _ _⟩
            rw [hq1]
            clear hq1 nq
            go_wp2_with fail
            go_quiet (fail)
            go_wp2
            go_ret
            exact ⟨by rw [HE.out, if_neg h3, if_pos h4]; rfl, q1 + nq, by rw [World.drewN_drewN]⟩
          · have h4d : decide (t[j].toNat < s[j].toNat) = false := decide_eq_false h4
            go_wp2_with fail
            go_quiet (fail)
            obtain ⟨q1, hq1⟩ : ∃ q1, (w.drewN q).drewN nq = w.drewN q1 := ⟨q + nq, World.drewN_drewN _ _ _⟩
            rw [hq1]
            clear hq1 nq
            go_wp2_with fail
            go_quiet (fail)
            obtain ⟨q2, hq2⟩ : ∃ q2, (w.drewN q1).drewN nq = w.drewN q2 := ⟨q1 + nq, World.drewN_drewN _ _ _⟩
            rw [hq2]
            clear hq2 nq
            have HJ : Hid (Lib.compareBytes (s.data.toList.drop (j + 1)) (t.data.toList.drop (j + 1)) = Z.cs s t) := by show _ = _; rw [HE.out, if_neg h3, if_neg h4]
            clear HE HI
            go_wp2
            go_round
            · exact ⟨j + 1, q2, by omega, by omega, by go_num, rfl, HJ⟩
            · simp [intOf]; omega
      · have HE : Hid ((if decide (s.size < t.size) = true then (-1 : Int) else if decide (t.size < s.size) = true then 1 else 0) = Z.cs s t) := by
          show _ = _
          rw [← HI.out, show t.data.toList.drop j = [] from List.drop_eq_nil_of_le (by simp only [Array.length_toList]; show t.size ≤ j; omega)]
          rw [List.drop_eq_getElem_cons (by simpa using h1), if_neg (by simp; omega), if_pos (by simp; omega)]
          simp [Lib.compareBytes]
        clear HI
        go_wp2_with fail
        refine (uorder_any _ _ _).mono ?_
        rintro e w1 ⟨rfl, rfl⟩
        rw [HE.out]
        go_wp2
        go_ret
        exact ⟨rfl, q, rfl⟩
    · have HE : Hid ((if decide (s.size < t.size) = true then (-1 : Int) else if decide (t.size < s.size) = true then 1 else 0) = Z.cs s t) := by
        show _ = _
        rw [← HI.out, show s.data.toList.drop j = [] from List.drop_eq_nil_of_le (by simp only [Array.length_toList]; show s.size ≤ j; omega)]
        by_cases h2 : j < t.size
        · rw [List.drop_eq_getElem_cons (by simpa using h2), if_pos (by simp; omega)]; simp [Lib.compareBytes]
        · rw [show t.data.toList.drop j = [] from List.drop_eq_nil_of_le (by simp only [Array.length_toList]; show t.size ≤ j; omega), if_neg (by simp; omega), if_neg (by simp; omega)]; simp [Lib.compareBytes]
      clear HI
      go_wp2_with fail
      refine (uorder_any _ _ _).mono ?_
      rintro e w1 ⟨rfl, rfl⟩
      rw [HE.out]
      go_wp2
      go_ret
      exact ⟨rfl, q, rfl⟩
theorem ci_order (a b : Int) : (if decide (a < b) = true then (-1 : Int) else if decide (b < a) = true then 1 else 0) = Z.ci a b := by
  unfold Z.ci; simp only [decide_eq_true_eq]
/-- Two blocks more, behind some draws. -/
theorem two_more (w : World) (a b : Obj) (q : Nat) : ((w.alloc a).alloc b).drewN q = grow (w.drewN q) #[a, b] := by
  rw [alloc_eq_grow, alloc_eq_grow, grow_grow]; rfl
theorem two_none (w : World) (a b : Obj) : (w.alloc a).alloc b = grow (w.drewN 0) #[a, b] := two_more w a b 0
/-- What a comparison answers. -/
def CmpAns (w : World) (c : Int) (e : Ending) (w' : World) : Prop := e = .returned (.int .i64 c) ∧ ∃ q os, w' = grow (w.drewN q) os
set_option maxHeartbeats 1000000 in
theorem ucompare_two (ak ai : Int) (az : ByteArray) (bk bi : Int) (bz : ByteArray) (w : World) (hs : az.size ≤ 9223372036854775807) (ht : bz.size ≤ 9223372036854775807) :
    Calls Try.prog 40 #[.agg #[.int .i64 ak, .int .i64 ai, .string az], .agg #[.int .i64 bk, .int .i64 bi, .string bz]] w (CmpAns w (Z.cv ⟨ak, ai, az⟩ ⟨bk, bi, bz⟩)) := by
  by_cases hk : ak = bk
  · subst hk
    by_cases k1 : ak = 1
    · subst k1
      rw [cv_int]
      have HO : Hid _ := ci_order ai bi
      go_enter Try.func40, Try.ntmps40
      go_wp2_with fail
      refine (uorder_any _ _ _).mono ?_
      rintro e w1 ⟨rfl, rfl⟩
      rw [HO.out]
      go_wp2
      go_ret
      exact ⟨rfl, 0, _, two_none _ _ _⟩
    · by_cases k2 : ak = 2
      · subst k2
        rw [cv_float]
        have HA : Hid (IntKind.u64.wrap ai = Z.u ai) := u64_wrap ai
        have HB : Hid (IntKind.u64.wrap bi = Z.u bi) := u64_wrap bi
        have HI := Z.u_in ai
        have HJ := Z.u_in bi
        go_enter Try.func40, Try.ntmps40
        go_wp2_with fail
        rw [HA.out, HB.out]
        refine (rcompare_any _ _ _ HI.1 HI.2 HJ.1 HJ.2).mono ?_
        rintro e w2 ⟨rfl, rfl⟩
        go_wp2
        go_ret
        exact ⟨rfl, 0, _, two_none _ _ _⟩
      · by_cases k3 : ak = 3
        · subst k3
          rw [cv_text]
          go_enter Try.func40, Try.ntmps40
          go_wp2_with fail
          refine (utexts_any _ _ _ hs ht).mono ?_
          rintro e w2 ⟨rfl, q, rfl⟩
          go_wp2
          go_ret
          exact ⟨rfl, q, _, two_more _ _ _ _⟩
        · rw [cv_else k1 k2 k3]
          go_enter Try.func40, Try.ntmps40
          go_wp2
          go_ret
          exact ⟨rfl, 0, _, two_none _ _ _⟩
  · rw [cv_kind hk]
    have HO : Hid _ := ci_order ak bk
    go_enter Try.func40, Try.ntmps40
    go_wp2_with fail
    refine (uorder_any _ _ _).mono ?_
    rintro e w1 ⟨rfl, rfl⟩
    rw [HO.out]
    go_wp2
    go_ret
    exact ⟨rfl, 0, _, two_none _ _ _⟩
end Go.Proofs.Ytkcpfgjkplailaa
/- A region that draws its order and calls what leaves all that was there: facts for every such world. -/
namespace Go.Proofs.Ytkcpfgjkplailaa
set_option linter.unusedVariables false
set_option maxRecDepth 10000
open Go.RowKit Go.Sort
theorem Try.mixed : Try.prog.follows .mixedOrders = true := by kernel_rfl
theorem grow_below (w : World) (n : Nat) (os : Array Obj) : Below w.heap.size w (grow (w.drewN n) os) :=
  ⟨rfl, rfl, rfl, by rw [size_grow]; exact Nat.le_add_right _ _, fun k hk => by simp only [grow]; rw [Array.getElem?_append_left (by exact hk)]; rfl⟩
/-- A world behind another one, all that was there still there. -/
structure BBy (w : World) where
  v : World
  h : Below w.heap.size w v
theorem region_below {id : Nat} {Q : Exit → Act → World → Prop} {a : Act} {w : World} {l : List Oper} (hB : Region.lexB .any l.toArray = true)
    (h : wpQuiet Try.prog l.toArray (fun w' => ∃ p : BBy w, w' = p.v) (fun a' => ∀ w', (∃ p : BBy w, w' = p.v) → Q .normal a' w') l a) : (Code.region id l.toArray true).wp Try.prog Q a w :=
  wp_region_quiet (C := fun w' => ∃ p : BBy w, w' = p.v) Try.mixed hB ⟨⟨{ w with drawn := w.drawn + 1 }, ⟨rfl, rfl, rfl, Nat.le_refl _, fun _ _ => rfl⟩⟩, rfl⟩ (by simpa using h)
theorem Calls.below_of {f : FuncId} {args : Array Value} {w : World} {p : BBy w} {v : Value} (h : Calls Try.prog f args p.v fun e w' => e = .returned v ∧ Below p.v.heap.size p.v w') : Calls Try.prog f args p.v fun e w'' => e = .returned v ∧ ∃ p' : BBy w, w'' = p'.v :=
  h.mono fun _ w' ⟨he, hb⟩ => ⟨he, ⟨w', bthen p.h hb⟩, rfl⟩
theorem Calls.kept_of {f : FuncId} {args : Array Value} {w : World} {p : BBy w} {v : Value} (h : Calls Try.prog f args p.v fun e w' => e = .returned v ∧ Kept (fun _ => False) p.v w') : Calls Try.prog f args p.v fun e w'' => e = .returned v ∧ ∃ p' : BBy w, w'' = p'.v :=
  Calls.below_of (h.mono fun _ w' ⟨he, hb⟩ => ⟨he, hb.below (Nat.le_refl _) (by simp)⟩)
theorem CmpAns.below {w : World} {c : Int} {e : Ending} {w' : World} (h : CmpAns w c e w') : e = .returned (.int .i64 c) ∧ Below w.heap.size w w' := by
  obtain ⟨rfl, q, os, rfl⟩ := h
  exact ⟨rfl, grow_below w q os⟩
end Go.Proofs.Ytkcpfgjkplailaa
/- delta.Sorted, and the document's: do values rise? Conditions: fewer than 2^47 values, texts that a machine holds. -/
namespace Go.Proofs.Ytkcpfgjkplailaa
set_option linter.unusedVariables false
set_option maxRecDepth 10000
open Go.RowKit Go.Sort
def RisenAns (l : List Z.V) (w : World) (e : Ending) (w' : World) : Prop := ∃ r : Nat, e = .returned (.int .i64 (r : Int)) ∧ (((r : Int) == (l.length : Int)) = Z.upB l) ∧ Below w.heap.size w w'
theorem up_snoc {l : List Z.V} {j : Nat} (h : ∀ i x y, i + 1 < j → l[i]? = some x → l[i + 1]? = some y → 0 ≤ Z.cv y x) (hl : l.length ≤ j) : Z.upB l = true :=
  (up_steps l).2 fun i x y h1 h2 => h i x y (by have := (List.getElem?_eq_some_iff.1 h2).1; omega) h1 h2
set_option maxHeartbeats 1000000 in
theorem risen_any (ao : Option Addr) (len cap : Nat) (l : List Z.V) (w : World) (h : SlV w ao len cap l) (hl : len ≤ 140737488355328) :
    Calls Try.prog 39 #[.slice ao len cap] w (RisenAns l w) := by
  have HL := hide h.1
  have HS := hide h
  obtain ⟨m, hm⟩ : ∃ m : Nat, (if 0 < len then 1 else 0) = m := ⟨_, rfl⟩
  have hmin : ∀ (ts : Array TypeId) (t : TypeId) (w : World), (Builtin.min_ ts t #[.int .i64 1, .int .i64 (len : Int)]).run Try.prog w = .ok (.int .i64 (m : Int)) w := by
    intro ts t w
    rw [run_min_int2]
    have : (if (len : Int) < 1 then (len : Int) else 1) = (m : Int) := by split at hm <;> split <;> omega
    rw [this]
  have hml : m ≤ len := by split at hm <;> omega
  have hm1 : m ≤ 1 := by split at hm <;> omega
  have hm0 : len ≠ 0 → m = 1 := by split at hm <;> omega
  clear h hm
  go_enter Try.func39, Try.ntmps39
  go_wp2_with fail
  go_step3
  go_wp2_with fail
  go_step3
  go_wp2_with fail
  go_loopw [3] (fun i wr => ∃ j : Nat, j ≤ len ∧ (len ≠ 0 → 1 ≤ j) ∧ i = .int .i64 j ∧ Hid (∀ i x y, i + 1 < j → l[i]? = some x → l[i + 1]? = some y → 0 ≤ Z.cv y x) ∧ Hid (Below w.heap.size w wr)) (fun i _ => len - (intOf i).toNat)
  case atStart => exact ⟨m, hml, fun h => by have := hm0 h; omega, rfl, hide (by intro i x y h; omega), hide (Below.refl _ _)⟩
  case round =>
    obtain ⟨j, hj, hj1, rfl, HR, HB⟩ := hrel
    by_cases hjl : j < len
    · obtain ⟨i, hi⟩ : ∃ i, j = i + 1 := ⟨j - 1, by omega⟩
      have hil : i < len := by omega
      obtain ⟨b, off, xk, xi, xs, rfl, hlt, hx, c1, c2, c3⟩ := HS.out.here hil
      obtain ⟨b', off', yk, yi, ys, e, _, hy, k1, k2, k3⟩ := HS.out.here hjl
      obtain ⟨rfl, rfl⟩ : b = b' ∧ off = off' := by injection e with e; injection e with e1 e2; exact ⟨e1, e2⟩
      have e1 : (j : Int) - 1 = (i : Int) := by omega
      have e3 : IntKind.i64.wrap (i : Int) = (i : Int) := by rw [IntKind.wrap_i64]; omega
      have hii : (i : Int) < (len : Int) := by omega
      have f1 : ∀ p : BBy wr, p.v.cell? ⟨b, off + i * 3, none⟩ = some (.int .i64 xk) := fun p => by rw [(bthen HB.out p.h).cell (p := ⟨b, off + i * 3, none⟩) hlt]; exact c1
      have f2 : ∀ p : BBy wr, p.v.cell? ⟨b, off + i * 3 + 1, none⟩ = some (.int .i64 xi) := fun p => by rw [(bthen HB.out p.h).cell (p := ⟨b, off + i * 3 + 1, none⟩) hlt]; exact c2
      have f3 : ∀ p : BBy wr, p.v.cell? ⟨b, off + i * 3 + 2, none⟩ = some (.string xs) := fun p => by rw [(bthen HB.out p.h).cell (p := ⟨b, off + i * 3 + 2, none⟩) hlt]; exact c3
      have g1 : ∀ p : BBy wr, p.v.cell? ⟨b, off + j * 3, none⟩ = some (.int .i64 yk) := fun p => by rw [(bthen HB.out p.h).cell (p := ⟨b, off + j * 3, none⟩) hlt]; exact k1
      have g2 : ∀ p : BBy wr, p.v.cell? ⟨b, off + j * 3 + 1, none⟩ = some (.int .i64 yi) := fun p => by rw [(bthen HB.out p.h).cell (p := ⟨b, off + j * 3 + 1, none⟩) hlt]; exact k2
      have g3 : ∀ p : BBy wr, p.v.cell? ⟨b, off + j * 3 + 2, none⟩ = some (.string ys) := fun p => by rw [(bthen HB.out p.h).cell (p := ⟨b, off + j * 3 + 2, none⟩) hlt]; exact k3
      have inh : Nonempty (BBy wr) := ⟨⟨wr, Below.refl _ _⟩⟩
      obtain ⟨c, hc⟩ : ∃ c, Z.cv ⟨xk, xi, xs⟩ ⟨yk, yi, ys⟩ = c := ⟨_, rfl⟩
      have HC : Hid (∀ p : BBy wr, Calls Try.prog 62 #[.agg #[.int .i64 xk, .int .i64 xi, .string xs], .agg #[.int .i64 yk, .int .i64 yi, .string ys]] p.v fun e w' => e = .returned (.int .i64 c) ∧ Below p.v.heap.size p.v w') := by
        intro p; rw [← hc]; exact vcompare_any xk xi xs yk yi ys p.v
      have hcr := Z.cv_range ⟨xk, xi, xs⟩ ⟨yk, yi, ys⟩
      have hca := cv_anti ⟨xk, xi, xs⟩ ⟨yk, yi, ys⟩
      rw [hc] at hcr hca
      have HCA := hide hca
      have HX := hide hx
      have HY := hide hy
      have HI := hide hi
      clear c1 c2 c3 k1 k2 k3 hx hy e hc hca hi
      go_wp2_with fail
      refine region_below (by kernel_rfl) ?_
      repeat (quiet_step (first | (go_at_call 62; refine Calls.below_of (HC.out _))))
      refine wpQuiet_nil ?_
      intro _ hw'
      obtain ⟨⟨w2, hb2⟩, hw''⟩ := hw'
      subst hw''
      have HB2 := hide (bthen HB.out hb2)
      clear hb2 HC f1 f2 f3 g1 g2 g3
      have hnext : c ≤ 0 → Hid (∀ i x y, i + 1 < j + 1 → l[i]? = some x → l[i + 1]? = some y → 0 ≤ Z.cv y x) := fun hc0 => hide (fun i' x y h h1 h2 => by
        by_cases hi : i' + 1 < j
        · exact HR.out i' x y hi h1 h2
        · have h3 := HI.out
          obtain rfl : i' = i := by omega
          rw [HX.out] at h1
          rw [← h3, HY.out] at h2
          injection h1 with h1
          injection h2 with h2
          subst h1 h2
          rw [HCA.out]
          omega)
      rcases hcr with rfl | rfl | rfl
      · have HN := hnext (by omega)
        clear hnext
        go_wp2
        go_roundw
        case rel => exact ⟨j + 1, hjl, fun _ => by omega, by go_num, HN, HB2⟩
        case measure => simp [intOf]; omega
      · have HN := hnext (by omega)
        clear hnext
        go_wp2
        go_roundw
        case rel => exact ⟨j + 1, hjl, fun _ => by omega, by go_num, HN, HB2⟩
        case measure => simp [intOf]; omega
      · have hup : Z.upB l = false := upB_no HX.out (by rw [← HI.out]; exact HY.out) (by rw [HCA.out]; omega)
        have FIN : Hid (∀ w' : World, Below w.heap.size w w' → RisenAns l w (.returned (.int .i64 (j : Int))) w') := fun w' h => ⟨j, rfl, by rw [hup, HL.out]; simp; omega, h⟩
        clear hnext hup
        go_wp2
        go_ret
        exact FIN.out _ HB2.out
    · obtain rfl : j = len := by omega
      have hup : Z.upB l = true := up_snoc HR.out (by rw [HL.out]; exact Nat.le_refl _)
      have FIN : Hid (RisenAns l w (.returned (.int .i64 (j : Int))) wr) := ⟨j, rfl, by rw [hup, HL.out]; simp, HB.out⟩
      clear hup
      go_wp2
      go_ret
      exact FIN.out
theorem sorted_any (ao : Option Addr) (len cap : Nat) (l : List Z.V) (w : World) (h : SlV w ao len cap l) (hl : len ≤ 140737488355328) :
    Calls Try.prog 17 #[.slice ao len cap] w fun e w' => e = .returned (.bool (Z.upB l)) ∧ Below w.heap.size w w' := by
  have HR := hide (risen_any ao len cap l w h hl)
  have HL := hide h.1
  clear h
  go_enter Try.func17, Try.ntmps17
  go_wp2_with fail
  refine HR.out.mono ?_
  rintro e w1 ⟨r, rfl, hr, hb⟩
  rw [HL.out] at hr
  have HB := hide hb
  obtain ⟨u, hu⟩ : ∃ u, Z.upB l = u := ⟨_, rfl⟩
  rw [hu] at hr
  have HU := hide hu
  clear hb HR hu
  go_wp2
  go_ret
  exact ⟨by rw [HU.out]; rfl, HB.out⟩
set_option maxHeartbeats 1000000 in
theorem rsorted_any (ao : Option Addr) (len cap : Nat) (l : List Z.V) (w : World) (h : SlV w ao len cap l) (hz : ∀ x ∈ l, x.s.size ≤ 9223372036854775807) (hl : len ≤ 140737488355328) :
    Calls Try.prog 18 #[.slice ao len cap] w fun e w' => e = .returned (.bool (Z.upB l)) ∧ Below w.heap.size w w' := by
  have HL := hide h.1
  have HS := hide h
  have HZ := hide hz
  clear h hz
  go_enter Try.func18, Try.ntmps18
  go_wp2_with fail
  go_loopw [3] (fun i wr => ∃ j : Nat, 1 ≤ j ∧ (j ≤ len ∨ j = 1) ∧ i = .int .i64 j ∧ Hid (∀ i x y, i + 1 < j → l[i]? = some x → l[i + 1]? = some y → 0 ≤ Z.cv y x) ∧ Hid (Below w.heap.size w wr)) (fun i _ => len - (intOf i).toNat)
  case atStart => exact ⟨1, Nat.le_refl _, .inr rfl, rfl, hide (by intro i x y h; omega), hide (Below.refl _ _)⟩
  case round =>
    obtain ⟨j, hj1, hj, rfl, HR, HB⟩ := hrel
    by_cases hjl : j < len
    · obtain ⟨i, hi⟩ : ∃ i, j = i + 1 := ⟨j - 1, by omega⟩
      have hil : i < len := by omega
      obtain ⟨b, off, xk, xi, xs, rfl, hlt, hx, c1, c2, c3⟩ := HS.out.here hil
      obtain ⟨b', off', yk, yi, ys, e, _, hy, k1, k2, k3⟩ := HS.out.here hjl
      obtain ⟨rfl, rfl⟩ : b = b' ∧ off = off' := by injection e with e; injection e with e1 e2; exact ⟨e1, e2⟩
      have e1 : (j : Int) - 1 = (i : Int) := by omega
      have e3 : IntKind.i64.wrap (i : Int) = (i : Int) := by rw [IntKind.wrap_i64]; omega
      have hii : (i : Int) < (len : Int) := by omega
      have f1 : ∀ p : BBy wr, p.v.cell? ⟨b, off + i * 3, none⟩ = some (.int .i64 xk) := fun p => by rw [(bthen HB.out p.h).cell (p := ⟨b, off + i * 3, none⟩) hlt]; exact c1
      have f2 : ∀ p : BBy wr, p.v.cell? ⟨b, off + i * 3 + 1, none⟩ = some (.int .i64 xi) := fun p => by rw [(bthen HB.out p.h).cell (p := ⟨b, off + i * 3 + 1, none⟩) hlt]; exact c2
      have f3 : ∀ p : BBy wr, p.v.cell? ⟨b, off + i * 3 + 2, none⟩ = some (.string xs) := fun p => by rw [(bthen HB.out p.h).cell (p := ⟨b, off + i * 3 + 2, none⟩) hlt]; exact c3
      have g1 : ∀ p : BBy wr, p.v.cell? ⟨b, off + j * 3, none⟩ = some (.int .i64 yk) := fun p => by rw [(bthen HB.out p.h).cell (p := ⟨b, off + j * 3, none⟩) hlt]; exact k1
      have g2 : ∀ p : BBy wr, p.v.cell? ⟨b, off + j * 3 + 1, none⟩ = some (.int .i64 yi) := fun p => by rw [(bthen HB.out p.h).cell (p := ⟨b, off + j * 3 + 1, none⟩) hlt]; exact k2
      have g3 : ∀ p : BBy wr, p.v.cell? ⟨b, off + j * 3 + 2, none⟩ = some (.string ys) := fun p => by rw [(bthen HB.out p.h).cell (p := ⟨b, off + j * 3 + 2, none⟩) hlt]; exact k3
      have inh : Nonempty (BBy wr) := ⟨⟨wr, Below.refl _ _⟩⟩
      obtain ⟨c, hc⟩ : ∃ c, Z.cv ⟨yk, yi, ys⟩ ⟨xk, xi, xs⟩ = c := ⟨_, rfl⟩
      have HC : Hid (∀ p : BBy wr, Calls Try.prog 40 #[.agg #[.int .i64 yk, .int .i64 yi, .string ys], .agg #[.int .i64 xk, .int .i64 xi, .string xs]] p.v fun e w' => e = .returned (.int .i64 c) ∧ Below p.v.heap.size p.v w') := by
        intro p
        have h1 := HZ.out _ (List.mem_of_getElem? hx)
        have h2 := HZ.out _ (List.mem_of_getElem? hy)
        rw [← hc]
        exact (ucompare_two yk yi ys xk xi xs p.v h2 h1).mono fun e w' h => h.below
      have HCC := hide hc
      have HX := hide hx
      have HY := hide hy
      have HI := hide hi
      clear c1 c2 c3 k1 k2 k3 hx hy e hc hi
      go_wp2_with fail
      refine region_below (by kernel_rfl) ?_
      repeat (quiet_step (first | (go_at_call 40; refine Calls.below_of (HC.out _))))
      refine wpQuiet_nil ?_
      intro _ hw'
      obtain ⟨⟨w2, hb2⟩, hw''⟩ := hw'
      subst hw''
      have HB2 := hide (bthen HB.out hb2)
      clear hb2 HC f1 f2 f3 g1 g2 g3
      by_cases hcn : c < 0
      · have hup : Z.upB l = false := upB_no HX.out (by rw [← HI.out]; exact HY.out) (by rw [HCC.out]; exact hcn)
        have HU := hide hup
        have hcd : decide (c < 0) = true := by simpa using hcn
        clear hup
        go_wp2
        go_ret
        exact ⟨by rw [HU.out]; rfl, HB2.out⟩
      · have hcd : decide (c < 0) = false := by simpa using hcn
        go_wp2
        go_roundw
        case rel =>
          refine ⟨j + 1, by omega, .inl hjl, by go_num, hide (fun i' x y h h1 h2 => ?_), HB2⟩
          by_cases hi : i' + 1 < j
          · exact HR.out i' x y hi h1 h2
          · have h3 := HI.out
            obtain rfl : i' = i := by omega
            rw [HX.out] at h1
            rw [← h3, HY.out] at h2
            injection h1 with h1
            injection h2 with h2
            subst h1 h2
            rw [HCC.out]
            omega
        case measure => simp [intOf]; omega
    · have hup : Z.upB l = true := up_snoc HR.out (by rw [HL.out]; omega)
      have HU := hide hup
      clear hup
      go_wp2
      go_ret
      exact ⟨by rw [HU.out]; rfl, HB.out⟩
end Go.Proofs.Ytkcpfgjkplailaa

/- Bytes: a column laid down in runs. -/
import Derived.Test.YtfggfmcbinhigaaBdR
import Derived.Test.YtfggfmcbinhigaaBdP
namespace Go.Proofs.Ytfggfmcbinhigaa
set_option linter.unusedVariables false
open Go.RowKit

/-- What Bytes answers. -/
def RunBytes (l : List Z.V) (kind : Int) (w : World) (e : Ending) (w' : World) : Prop := ∃ a c, e = .returned (.tuple #[.slice a (Z.rcb l kind).length c, .int .i64 (Z.chk l kind)]) ∧ Sl w' .u8 a (Z.rcb l kind).length c (ints (Z.rcb l kind)) ∧ Below w.heap.size w w'
theorem RunBytes.no {l : List Z.V} {kind E : Int} {w w' : World} (h : Z.chk l kind = E) (h0 : E ≠ 0) (hb : Below w.heap.size w w') : RunBytes l kind w (.returned (.tuple #[.slice none 0 0, .int .i64 E])) w' := by
  unfold RunBytes; rw [rcb_bad (by rw [h]; exact h0), h]
  exact ⟨none, 0, rfl, Sl.nil _ _, hb⟩
theorem RunBytes.yes {l : List Z.V} {kind : Int} {w w' : World} {B : Nat} {v : Value} (h : Z.chk l kind = 0) (ho : w'.ownsRow B 5 1 v (Z.rb (Z.runs l)).length (B8 (Z.rb (Z.runs l)))) (hb : Below w.heap.size w w') : RunBytes l kind w (.returned (.tuple #[v, .int .i64 0])) w' := by
  obtain ⟨a, c, rfl, hs, _⟩ := Sl.of_bytes ho
  unfold RunBytes; rw [rcb_ok h, h]
  exact ⟨a, c, rfl, hs, hb⟩
/-- A run of a column that may be. -/
def Z.RFit (r : Z.R) : Prop := 1 ≤ r.n ∧ r.n ≤ 4096 ∧ Z.may r.v = true ∧ Z.I64 r.v.i
theorem rfit_runs {l : List Z.V} {kind : Int} (hI : ∀ x ∈ l, Z.I64 x.i) (h : Z.chk l kind = 0) : ∀ r ∈ Z.runs l, Z.RFit r := fun r hr => by
  obtain ⟨_, h2, _, h4⟩ := chk_zero h
  have := run_n_le hr
  exact ⟨neat_pos (neat_runs l) r hr, by omega, h4 _ (run_mem hr), hI _ (run_mem hr)⟩
theorem rb_le : ∀ rs : List Z.R, (∀ r ∈ rs, Z.RFit r) → (Z.rb rs).length ≤ 1044 * rs.length
  | [], _ => by simp [Z.rb]
  | r :: rs, h => by
    obtain ⟨h1, h2, h3, h4⟩ := h r (by simp)
    have a1 := lb_le h4 h3
    have a2 := E.leb_ten r.n.toNat (by omega)
    have a3 := rb_le rs fun y hy => h y (by simp [hy])
    rw [rb_cons, List.length_append, List.length_append, List.length_cons]
    omega
theorem rb_take_le {rs : List Z.R} (h : ∀ r ∈ rs, Z.RFit r) (j : Nat) : (Z.rb (rs.take j)).length ≤ 1044 * rs.length := by
  have := rb_le (rs.take j) fun y hy => h y (List.mem_of_mem_take hy)
  rw [List.length_take] at this
  omega
theorem rb_take {rs : List Z.R} {j : Nat} {r : Z.R} (h : rs[j]? = some r) : (Z.rb (rs.take j) ++ E.leb r.n.toNat) ++ Z.lb r.v = Z.rb (rs.take (j + 1)) := by rw [take_snocR h, rb_snoc]

set_option maxHeartbeats 2000000 in
theorem rlbytes_some (ao : Option Addr) (len cap : Nat) (l : List Z.V) (kind : Int) (w : World) (h : SlV w ao len cap l) (hI : ∀ x ∈ l, Z.I64 x.i) (h0 : Z.chk l kind = 0) :
    Calls Try.prog 11 #[.slice ao len cap, .int .i64 kind] w (RunBytes l kind w) := by
  have HK := hide h0
  have hm : len ≤ 4096 := by rw [← h.1]; exact (chk_zero h0).2.1
  have HF := hide (rfit_runs hI h0)
  have HCK := hide (check_any _ _ _ l kind w h hI)
  have HS := hide h
  have HRL : Hid ((Z.runs l).length ≤ 4096) := by have := runs_few l; have := h.1; show _ ≤ _; omega
  clear hI h0 h
  go_enter Try.func11, Try.ntmps11
  go_wp2_with fail
  refine HCK.out.mono ?_
  rintro e w1 ⟨rfl, hb1⟩
  rw [HK.out]
  replace HS := hide (HS.out.below hb1)
  replace hb1 := hide hb1
  clear HCK
  go_wp2_with fail
  refine (runs_any ao len cap l w1 HS.out (by omega)).mono ?_
  rintro e w2 ⟨v, rfl, ho, hb2⟩
  obtain ⟨ra, rc, rfl, hsl, _⟩ := SlR.of_own ho
  obtain ⟨m, hmm⟩ : ∃ m, (Z.runs l).length = m := ⟨_, rfl⟩
  obtain ⟨rs, hrs⟩ : ∃ rs, Z.runs l = rs := ⟨_, rfl⟩
  rw [hrs] at HF HRL hsl hmm
  rw [hrs, hmm]
  rw [hmm] at hsl HRL
  have hm4 : m ≤ 4096 := HRL.out
  have HB2 := hide (bthen hb1.out hb2)
  have HSL := hide hsl
  have HMM := hide hmm
  have HRS := hide hrs
  clear ho hb2 hsl hmm hrs HS HRL
  go_wp2_with fail
  go_loopw [7, 21] (fun v i wr => ∃ j : Nat, j ≤ m ∧ i = .int .i64 j ∧ Hid (wr.ownsRow w2.heap.size 5 1 v (Z.rb (rs.take j)).length (B8 (Z.rb (rs.take j)))) ∧ Hid (Below w2.heap.size w2 wr)) (fun _ i _ => m - (intOf i).toNat)
  case atStart => exact ⟨0, Nat.zero_le _, rfl, hide (World.ownsRow_nil _ _ _ _), hide (Below.refl _ _)⟩
  case round =>
    obtain ⟨j, hj, rfl, hrow, hbw⟩ := hrel
    by_cases hjl : j < m
    · obtain ⟨⟨n, ⟨xk, xi, xs⟩⟩, hx⟩ : ∃ x, rs[j]? = some x := ⟨rs[j]'(by rw [HMM.out]; exact hjl), List.getElem?_eq_getElem _⟩
      rcases (HSL.out.below hbw.out).2.2.2.2 with h5 | ⟨b, off, rfl, hlt, h5⟩
      · omega
      · obtain ⟨d1, d2, d3, d4⟩ := h5 j _ hx
        obtain ⟨f1, f2, f3, f4⟩ := HF.out _ (List.mem_of_getElem? hx)
        replace f1 : 1 ≤ n := f1
        replace f2 : n ≤ 4096 := f2
        have HX := hide hx
        have HXM := hide f3
        have HXI := hide f4
        have HLE := hide (rb_take_le HF.out j)
        have b1 := below_one wr (.cells #[.int .i64 n, .int .i64 xk, .int .i64 xi, .string xs] 49)
        have hA := AtR.new wr 49 n xk xi xs
        obtain ⟨a0, a1, a2, a3⟩ := hA.cells
        have HA := hide hA
        have HB3 := hide (bthen hbw.out b1)
        have HR3 := hide (owns_below hrow.out b1)
        clear hx f3 f4 b1 hA h5
        go_wp2_with fail
        refine (put_any n _ (by omega) (by omega)).mono ?_
        rintro e w4 ⟨pv, rfl, hpo, hb4⟩
        have hten := E.leb_ten n.toNat (by omega)
        obtain ⟨k, hk⟩ : ∃ k, (E.leb n.toNat).length = k := ⟨_, rfl⟩
        obtain ⟨pa, pc, rfl, hps⟩ := Sl.of_own hpo hk
        rw [hk] at hten
        have HPS := hide hps
        have HB4 := hide (bthen HB3.out hb4)
        have HR4 := hide (owns_below HR3.out hb4)
        have HA4 := hide (HA.out.below hb4)
        have hsz4 := (bthen HB3.out hb4).size
        obtain ⟨pre, hpre⟩ : ∃ pre, Z.rb (rs.take j) ++ E.leb n.toNat = pre := ⟨_, rfl⟩
        have HP := hide hpre
        clear hps hpo hb4 hk a0 a1 a2 a3 d1 d2 d3 d4 hpre
        go_wp2_with (at_builtin; refine wpList_app rfl _ _ rfl w2.heap.size u7 (Z.rb (rs.take j)) rfl HR4.out pa k pc (E.leb n.toNat) rfl HPS.out ?c0 hsz4 pre HP.out ?_)
        case c0 =>
          have h1 := HLE.out
          rw [HMM.out] at h1
          omega
        intro v5 w5 ho5 has5
        have hb5 : Below w2.heap.size w2 w5 := HB4.out.trans (has5.below hsz4 (fun k hk => (owns_lt HR4.out hk).1))
        have hA5 : AtR w5 wr.heap.size 49 n xk xi xs := (has5.1.block _ (lt_of_block HA4.out) (owns_ne_block HR4.out HA4.out (by decide))).trans HA4.out
        obtain ⟨a0, a1, a2, a3⟩ := hA5.cells
        have HB5 := hide hb5
        have HO5 := hide ho5
        have HLB := hide (lb_le HXI.out HXM.out)
        clear hb5 ho5 has5 hA5
        go_wp2_with fail
        refine (vbytes_any _ _ _ _ HXI.out).mono ?_
        rintro e w6 ⟨qa, qc, rfl, hs6, hb6⟩
        rw [bl_may HXM.out]
        rw [bl_may HXM.out] at hs6
        obtain ⟨m6, hm6⟩ : ∃ m, (Z.lb ⟨xk, xi, xs⟩).length = m := ⟨_, rfl⟩
        rw [hm6]
        rw [hm6] at hs6 HLB
        have HB6 := hide (bthen HB5.out hb6)
        have hsz6 := HB6.out.size
        have HR6 := hide (owns_below HO5.out hb6)
        have HS6 := hide hs6
        have HT : Hid (pre ++ Z.lb ⟨xk, xi, xs⟩ = Z.rb (rs.take (j + 1))) := by show _ = _; rw [← HP.out]; exact rb_take HX.out
        have HPL : Hid (pre.length ≤ 4276224 + 10) := by
          have h1 := HLE.out
          have h3 := E.leb_ten n.toNat (by omega)
          rw [HMM.out] at h1
          show _ ≤ _
          rw [← HP.out, List.length_append]
          omega
        clear hm6 hs6 hb6 a0 a1 a2 a3 HO5
        go_wp2_with (at_builtin; refine wpList_app rfl _ _ rfl w2.heap.size v5 pre rfl HR6.out qa m6 qc (Z.lb ⟨xk, xi, xs⟩) rfl HS6.out ?c1 hsz6 (Z.rb (rs.take (j + 1))) HT.out ?_)
        case c1 =>
          have h1 := HPL.out
          have h2 := HLB.out
          omega
        intro v7 w7 ho7 has7
        have hb7 : Below w2.heap.size w2 w7 := HB6.out.trans (has7.below hsz6 (fun k hk => (owns_lt HR6.out hk).1))
        have HB7 := hide hb7
        have HO7 := hide ho7
        clear hb7 ho7 has7
        go_wp2
        go_roundw
        case rel => exact ⟨j + 1, hjl, by go_num, HO7, HB7⟩
        case measure => simp [intOf]; omega
    · obtain rfl : j = m := by omega
      have hll : rs.take j = rs := by rw [← HMM.out, List.take_length]
      have HR : Hid (wr.ownsRow w2.heap.size 5 1 u7 (Z.rb (Z.runs l)).length (B8 (Z.rb (Z.runs l)))) := by
        have := hrow.out
        rwa [hll, ← HRS.out] at this
      have HBE := hide (bthen HB2.out hbw.out)
      clear hll hrow
      go_wp2
      go_ret2
      exact RunBytes.yes HK.out HR.out HBE.out
theorem rlbytes_any (ao : Option Addr) (len cap : Nat) (l : List Z.V) (kind : Int) (w : World) (h : SlV w ao len cap l) (hI : ∀ x ∈ l, Z.I64 x.i) :
    Calls Try.prog 11 #[.slice ao len cap, .int .i64 kind] w (RunBytes l kind w) := by
  by_cases h0 : Z.chk l kind = 0
  · exact rlbytes_some ao len cap l kind w h hI h0
  · have HCK := hide (check_any _ _ _ l kind w h hI)
    obtain ⟨E, hE⟩ : ∃ E, Z.chk l kind = E := ⟨_, rfl⟩
    have HE := hide hE
    have hE0 : (E != 0) = true := by rw [← hE]; simpa using h0
    have HE0 := hide (show E ≠ 0 by rw [← hE]; exact h0)
    clear h hI hE h0
    go_enter Try.func11, Try.ntmps11
    go_wp2_with fail
    refine HCK.out.mono ?_
    rintro e w1 ⟨rfl, hb1⟩
    rw [HE.out]
    replace hb1 := hide hb1
    clear HCK
    go_wp2
    go_ret2
    exact RunBytes.no HE.out HE0.out hb1.out
end Go.Proofs.Ytfggfmcbinhigaa
/- Of: so many values, and nothing behind them. -/
namespace Go.Proofs.Ytfggfmcbinhigaa
set_option linter.unusedVariables false
open Go.RowKit

/-- What Of tells: the error, and the values; none beside an error. -/
def Z.cE (b : List Nat) (n kind : Int) : Int := if Z.kindOk kind = false then 1 else if n < 0 ∨ 4096 < n then 2 else if Z.pE kind n.toNat b ≠ 0 then ((Z.pE kind n.toNat b : Nat) : Int) else if Z.pR kind n.toNat b ≠ [] then 4 else 0
def Z.cL (b : List Nat) (n kind : Int) : List Z.V := if Z.cE b n kind = 0 then Z.pL kind n.toNat b else []
theorem cE_kind {b : List Nat} {n kind : Int} (h : Z.kindOk kind = false) : Z.cE b n kind = 1 := by unfold Z.cE; rw [if_pos h]
theorem cE_many {b : List Nat} {n kind : Int} (h : Z.kindOk kind = true) (h1 : n < 0 ∨ 4096 < n) : Z.cE b n kind = 2 := by unfold Z.cE; rw [h, if_neg (by decide), if_pos h1]
theorem cE_bad {b : List Nat} {N : Nat} {kind : Int} (h : Z.kindOk kind = true) (h1 : N ≤ 4096) (h2 : Z.pE kind N b ≠ 0) : Z.cE b (N : Int) kind = ((Z.pE kind N b : Nat) : Int) := by
  unfold Z.cE; rw [h, if_neg (by decide), if_neg (by omega), Int.toNat_natCast, if_pos h2]
theorem cE_behind {b : List Nat} {N : Nat} {kind : Int} (h : Z.kindOk kind = true) (h1 : N ≤ 4096) (h2 : Z.pE kind N b = 0) (h3 : Z.pR kind N b ≠ []) : Z.cE b (N : Int) kind = 4 := by
  unfold Z.cE; rw [h, if_neg (by decide), if_neg (by omega), Int.toNat_natCast, if_neg (by rw [h2]; simp), if_pos h3]
theorem cE_ok {b : List Nat} {N : Nat} {kind : Int} (h : Z.kindOk kind = true) (h1 : N ≤ 4096) (h2 : Z.pE kind N b = 0) (h3 : Z.pR kind N b = []) : Z.cE b (N : Int) kind = 0 := by
  unfold Z.cE; rw [h, if_neg (by decide), if_neg (by omega), Int.toNat_natCast, if_neg (by rw [h2]; simp), if_neg (by rw [h3]; simp)]
theorem kind_cases {kind : Int} (h : Z.kindOk kind = true) : kind = 1 ∨ kind = 2 ∨ kind = 3 := by
  unfold Z.kindOk at h
  simp only [Bool.or_eq_true, beq_iff_eq] at h
  rcases h with (h | h) | h
  · exact .inl h
  · exact .inr (.inl h)
  · exact .inr (.inr h)
/-- What Of answers. -/
def ColOf (b : List Nat) (n kind : Int) (w : World) (e : Ending) (w' : World) : Prop := ∃ a c, e = .returned (.tuple #[.slice a (Z.cL b n kind).length c, .int .i64 (Z.cE b n kind)]) ∧ SlV w' a (Z.cL b n kind).length c (Z.cL b n kind) ∧ Below w.heap.size w w'
theorem SlV.nil (w : World) : SlV w none 0 0 [] := ⟨rfl, Nat.le_refl _, by simp [maxLen], fun _ => rfl, .inl rfl⟩
theorem ColOf.no {b : List Nat} {n kind E : Int} {w w' : World} (h : Z.cE b n kind = E) (h0 : E ≠ 0) (hb : Below w.heap.size w w') : ColOf b n kind w (.returned (.tuple #[.slice none 0 0, .int .i64 E])) w' := by
  have h1 : Z.cL b n kind = [] := by unfold Z.cL; rw [if_neg (by rw [h]; exact h0)]
  unfold ColOf; rw [h1, h]
  exact ⟨none, 0, rfl, SlV.nil _, hb⟩
theorem ColOf.yes {b : List Nat} {N : Nat} {kind : Int} {w w' : World} {B : Nat} {v : Value} (h : Z.cE b (N : Int) kind = 0) (ho : OwnV w' B v (Z.pL kind N b)) (hb : Below w.heap.size w w') : ColOf b (N : Int) kind w (.returned (.tuple #[v, .int .i64 0])) w' := by
  have h1 : Z.cL b (N : Int) kind = Z.pL kind N b := by unfold Z.cL; rw [if_pos h, Int.toNat_natCast]
  obtain ⟨a, c, rfl, hs, _⟩ := SlV.of_own ho
  unfold ColOf; rw [h1, h]
  exact ⟨a, c, rfl, hs, hb⟩
/-- The values read, and room for the others. -/
def Z.pF (kind : Int) (b : List Nat) (N j : Nat) : List Z.V := Z.pL kind j b ++ List.replicate (N - j) Z.z0
theorem pF_length {kind : Int} {b : List Nat} {N j : Nat} (h : j ≤ N) : (Z.pF kind b N j).length = N := by
  unfold Z.pF; rw [List.length_append, pL_length, List.length_replicate]; omega
theorem pF_set {kind : Int} {b : List Nat} {N j : Nat} (h : j < N) {x : Z.V} (hx : Z.oV (Z.pR kind j b) kind = x) : (Z.pF kind b N j).set j x = Z.pF kind b N (j + 1) := by
  have h1 := pL_length kind j b
  unfold Z.pF
  rw [pL_succ, hx, show N - j = (N - (j + 1)) + 1 by omega, List.replicate_succ, List.set_append_right _ _ (by omega), h1, Nat.sub_self, List.set_cons_zero]
  simp
theorem pF_at {kind : Int} {b : List Nat} {N j : Nat} (h : j < N) : (Z.pF kind b N j)[j]? = some Z.z0 := by
  have h1 := pL_length kind j b
  unfold Z.pF
  rw [List.getElem?_append_right (by omega), h1, Nat.sub_self, show N - j = (N - (j + 1)) + 1 by omega, List.replicate_succ]
  rfl
/-- Bytes do not lie in a row of values. -/
theorem sl_off_row {w : World} {a : Option Addr} {n c : Nat} {l : List Int} (h : Sl w .u8 a n c l) {B R N : Nat} {m : List Z.V} (ho : OwnV w B (.slice (some ⟨R, 0, none⟩) N N) m) : n = 0 ∨ ∀ x, a = some x → x.block ≠ R := by
  by_cases h0 : n = 0
  · exact .inl h0
  · refine .inr fun x hx hB => ?_
    rcases h.2.2.2.2 with h5 | ⟨b, off, hao, hlt, h5⟩
    · exact h0 h5
    · rw [hao] at hx
      obtain rfl := Option.some.inj hx
      have hB' : b = R := hB
      subst hB'
      have h6 := h5 0 (by omega)
      rw [Nat.add_zero] at h6
      rcases ho.2 with ⟨h7, _⟩ | ⟨g, cap, cur, h7, _, hh, hc, _, hcs, ht⟩
      · simp at h7
      · injection h7 with e1 e2 e3
        simp at e1
        subst e1 e2 e3
        simp only [World.cell?, hh] at h6
        simp at h6
        have h8 : cur[off]? = some (.int .u8 (l.getD 0 0)) := by simpa using h6
        have h9 : off < cur.size := by
          rcases Nat.lt_or_ge off cur.size with h9 | h9
          · exact h9
          · rw [Array.getElem?_eq_none h9] at h8; simp at h8
        have h10 : (cellsV m)[off]? = some (.int .u8 (l.getD 0 0)) := by
          rw [← ht, List.getElem?_take, if_pos (by omega)]
          simpa using h8
        obtain ⟨y, _, hy⟩ := List.mem_flatMap.1 (List.mem_of_getElem? h10)
        simp at hy
theorem pR_len (kind : Int) : ∀ (n : Nat) (b : List Nat), (Z.pR kind n b).length ≤ b.length
  | 0, _ => Nat.le_refl _
  | n + 1, b => by
    have h1 := pR_len kind n (Z.oR b kind)
    have h2 : (Z.oR b kind).length ≤ b.length := by
      unfold Z.oR
      split
      · unfold Z.oS
        split
        · rw [List.length_drop]; omega
        · split
          · rw [List.length_drop]; omega
          · split
            · unfold E.xR; rw [List.length_drop, List.length_drop]; omega
            · exact Nat.le_refl _
      · simp
    rw [Z.pR]
    omega
/-- What the loop keeps: the bytes left in their box, the row that is filled. -/
structure OfLoop (w : World) (B R N : Nat) (b : List Nat) (kind : Int) (j : Nat) (wr : World) : Prop where
  low : Below w.heap.size w wr
  left : ∃ a n c, wr.heap[B]? = some (.cells #[.slice a n c] 23 (0, 0)) ∧ Sl wr .u8 a n c (ints (Z.pR kind j b)) ∧ n ≤ b.length
  most : wr.heap[B + 1 + 1]? = some (.cells #[.int .i64 ((Z.most kind : Nat) : Int)] 3 (0, 0))
  knd : wr.heap[B + 1]? = some (.cells #[.int .i64 kind] 3 (0, 0))
  row : OwnV wr w.heap.size (.slice (some ⟨R, 0, none⟩) N N) (Z.pF kind b N j)
  ok : Z.pE kind j b = 0

end Go.Proofs.Ytfggfmcbinhigaa
/- One run read. -/
namespace Go.Proofs.Ytfggfmcbinhigaa
set_option linter.unusedVariables false
open Go.RowKit

/-- The bytes ahead tell a value as all do. -/
theorem o_ahead4 {kind : Int} (hk : kind = 1 ∨ kind = 2 ∨ kind = 3) (l : List Nat) :
    Z.oE (l.take 1034) kind = Z.oE l kind ∧ Z.oV (l.take 1034) kind = Z.oV l kind ∧ (Z.oE l kind = 0 → l.drop ((l.take 1034).length - (Z.oR (l.take 1034) kind).length) = Z.oR l kind) ∧ (Z.oR (l.take 1034) kind).length ≤ (l.take 1034).length := by
  have hm : Z.most kind ≤ 1034 := by unfold Z.most; split <;> omega
  obtain ⟨a1, a2, a3, a4⟩ := o_ahead hk l
  obtain ⟨b1, b2, b3, b4⟩ := o_ahead hk (l.take 1034)
  rw [List.take_take, Nat.min_eq_left hm] at b1 b2 b3 b4
  obtain ⟨q, hq⟩ : ∃ q, l.take (Z.most kind) = q := ⟨_, rfl⟩
  have hql : q.length ≤ (l.take 1034).length := by rw [← hq, List.length_take, List.length_take]; omega
  rw [hq] at a1 a2 a3 a4 b1 b2 b3 b4
  have hE : Z.oE (l.take 1034) kind = Z.oE l kind := b1.symm.trans a1
  refine ⟨hE, b2.symm.trans a2, fun h0 => ?_, ?_⟩
  · have h1 := b3 (hE.trans h0)
    have h2 : (Z.oR (l.take 1034) kind).length = (l.take 1034).length - (q.length - (Z.oR q kind).length) := by rw [← h1, List.length_drop]
    rw [h2, show (l.take 1034).length - ((l.take 1034).length - (q.length - (Z.oR q kind).length)) = q.length - (Z.oR q kind).length by omega]
    exact a3 h0
  · by_cases h0 : Z.oE (l.take 1034) kind = 0
    · rw [← b3 h0, List.length_drop]; omega
    · unfold Z.oR; rw [if_neg h0]; simp
/-- A run, and two more, told. -/
theorem results_run2 {fn : Func} {p u v : Tmp} (h : fn.results = #[.cell p 49, .tmp u, .tmp v]) (tmps : Array Value) (w : World) (g : Nat) {n k i : Int} {s : ByteArray} (hp : tmps.getD p undef = .pointer (some ⟨g, 0, none⟩)) (hA : AtR w g 49 n k i s) :
    (results fn tmps).run Try.prog w = .ok (.tuple #[.agg #[.int .i64 n, .int .i64 k, .int .i64 i, .string s], tmps.getD u undef, tmps.getD v undef]) w := by
  have hp' : tmps[p]?.getD undef = .pointer (some ⟨g, 0, none⟩) := by simpa using hp
  unfold AtR at hA
  simp [results, h, hp', asAddr, run_loadVar_row w g 49 49 _ (0, 0) _ hA Try.underlying49 rfl (by kernel_rfl)]
/-- What toRun answers. The rest could be read in an elder world already. -/
def ToRunAns (W : World) (b : List Nat) (N : Nat) (kind : Int) (w : World) (e : Ending) (w' : World) : Prop :=
  Below w.heap.size w w' ∧ ((Z.r1 kind N b ≠ 0 ∧ e = .returned (.tuple #[.agg #[.int .i64 0, .int .i64 0, .int .i64 0, .string ⟨#[]⟩], .slice none 0 0, .int .i64 ((Z.r1 kind N b : Nat) : Int)])) ∨
    (Z.r1 kind N b = 0 ∧ ∃ a c, e = .returned (.tuple #[.agg #[.int .i64 ((E.gN b : Nat) : Int), .int .i64 (Z.rnV kind b).k, .int .i64 (Z.rnV kind b).i, .string (Z.rnV kind b).s], .slice a (Z.rnR kind b).length c, .int .i64 0]) ∧ Sl W .u8 a (Z.rnR kind b).length c (ints (Z.rnR kind b))))
theorem ToRunAns.no {W : World} {b : List Nat} {N : Nat} {kind E : Int} {w w' : World} (h : ((Z.r1 kind N b : Nat) : Int) = E) (h0 : E ≠ 0) (hb : Below w.heap.size w w') : ToRunAns W b N kind w (.returned (.tuple #[.agg #[.int .i64 0, .int .i64 0, .int .i64 0, .string ⟨#[]⟩], .slice none 0 0, .int .i64 E])) w' :=
  ⟨hb, .inl ⟨by omega, by rw [h]⟩⟩

set_option maxHeartbeats 2000000 in
theorem torun_any (ao : Option Addr) (len cap : Nat) (b : List Nat) (N : Nat) (kind : Int) (w W : World) (hW : Sl W .u8 ao len cap (ints b)) (h : Sl w .u8 ao len cap (ints b)) (h256 : ∀ x ∈ b, x < 256) (hm : len ≤ 140737488355328) (hN : N ≤ 4096) (hN0 : 1 ≤ N) (hk : Z.kindOk kind = true) :
    Calls Try.prog 29 #[.slice ao len cap, .int .i64 (N : Int), .int .i64 kind] w (ToRunAns W b N kind w) := by
  have hl : b.length = len := by rw [← h.1, ints_length]
  have hA := AtR.new w 49 0 0 0 ⟨#[]⟩
  have b0 := below_one w (.cells #[.int .i64 0, .int .i64 0, .int .i64 0, .string ⟨#[]⟩] 49)
  have HA := hide hA
  have HS := hide (h.below b0)
  have HW := hide hW
  have H256 := hide h256
  have HL := hide hl
  have HK := hide (kind_is hk)
  have HB0 := hide b0
  have hsz0 : w.heap.size ≤ w.heap.size := Nat.le_refl _
  clear h hW h256 hl hk hA b0
  go_enter Try.func29, Try.ntmps29
  go_wp2_with fail
  refine (get_any _ _ _ b _ HS.out H256.out hm).mono ?_
  rintro e w1 ⟨rfl, hb1⟩
  have hA1 := HA.out.below hb1
  have HA1 := hide hA1
  have HB1 := hide (bthen HB0.out hb1)
  have HS1 := hide (HS.out.below hb1)
  obtain ⟨a0, a1, a2, a3⟩ := hA1.cells
  obtain ⟨t0, t1, t2, t3⟩ := hA1.thawed
  obtain ⟨X, hX⟩ : ∃ X : Nat, E.gE b = X := ⟨_, rfl⟩
  obtain ⟨K, hK⟩ : ∃ K : Nat, E.gK b = K := ⟨_, rfl⟩
  obtain ⟨M, hM⟩ : ∃ M : Nat, E.gN b = M := ⟨_, rfl⟩
  have hMlt : M < 18446744073709551616 := by rw [← hM]; exact E.gN_lt H256.out
  rw [hX, hK, hM]
  have HE := hide hX
  have HKK := hide hK
  have HM := hide hM
  clear hb1 hA1 hX hK hM HA HS HB0
  by_cases hX0 : X = 0
  · subst hX0
    by_cases hbad : M = 0 ∨ N < M
    · have HP : Hid (((Z.r1 kind N b : Nat) : Int) = 4) := by show _ = _; rw [r1_form HE.out (by rw [HM.out]; exact hbad)]; rfl
      rcases hbad with rfl | hbad
      · go_wp2
        exact bodyPost_ret (results_run2 Try.results29 _ _ w.heap.size rfl (HA1.out.set 0 0 0 ⟨#[]⟩)) rfl (ToRunAns.no HP.out (by decide) (putR_below 0 0 0 ⟨#[]⟩ HB1.out (Nat.le_refl _)))
      · have hM0 : ((M : Int) == 0) = false := by simp; omega
        go_wp2
        exact bodyPost_ret (results_run2 Try.results29 _ _ w.heap.size rfl (HA1.out.set 0 0 0 ⟨#[]⟩)) rfl (ToRunAns.no HP.out (by decide) (putR_below 0 0 0 ⟨#[]⟩ HB1.out (Nat.le_refl _)))
    · have hM0 : ((M : Int) == 0) = false := by simp; omega
      have hMN : ¬ N < M := by omega
      have HBAD := hide hbad
      have hKl : K ≤ len := by rw [← HKK.out, ← HL.out]; exact (E.gE_zero HE.out H256.out).1
      obtain ⟨qa, hq, hr1, hr2⟩ := rest_of HS1.out hKl
      obtain ⟨qw, hqw, hw1, hw2⟩ := rest_of HW.out hKl
      have hqq : qw = qa := by
        have h1 := hw1 w
        rw [hr1 w] at h1
        injection h1 with h1
        injection h1 with h1
        exact h1.symm
      subst hqq
      obtain ⟨D, hD⟩ : ∃ D, len - K = D := ⟨_, rfl⟩
      obtain ⟨cp, hcp⟩ : ∃ c, cap - K = c := ⟨_, rfl⟩
      obtain ⟨bd, hbd⟩ : ∃ d, b.drop K = d := ⟨_, rfl⟩
      rw [hD, hcp, hbd] at hq hqw
      rw [hD, hcp] at hr1 hr2
      have hDm : D ≤ 140737488355328 := by omega
      have hbl : bd.length = D := by rw [← hq.1, ints_length]
      obtain ⟨o1, o2, o3, o4⟩ := o_ahead4 HK.out bd
      obtain ⟨Q, hQ⟩ : ∃ Q, min 1034 D = Q := ⟨_, rfl⟩
      have hQD : Q ≤ D := by omega
      have hQ4 : Q ≤ 1034 := by omega
      have hlt : bd.take Q = bd.take 1034 := by
        rw [← hQ]
        by_cases h5 : 1034 ≤ D
        · rw [Nat.min_eq_left h5]
        · rw [Nat.min_eq_right (by omega), List.take_of_length_le (by omega), List.take_of_length_le (by omega)]
      have hQl : (bd.take 1034).length = Q := by rw [List.length_take, hbl, hQ]
      obtain ⟨pa, hp, hp1, hp2⟩ := head_of hq hQD
      rw [hlt] at hp
      have hmin : ∀ (ts : Array TypeId) (t : TypeId) (w : World), (Builtin.min_ ts t #[.int .i64 1034, .int .i64 (D : Int)]).run Try.prog w = .ok (.int .i64 (Q : Int)) w := fun ts t w => by
        rw [run_min_int2]
        have : (if (D : Int) < 1034 then (D : Int) else 1034) = (Q : Int) := by split <;> omega
        rw [this]
      have HPS := hide hp
      have HO1 := hide o1
      have HO2 := hide o2
      have HO3 := hide o3
      have HO4 := hide o4
      have HQL := hide hQl
      have HQ := hide hq
      have HQW := hide hqw
      have HBD := hide hbd
      have HB256 : Hid (∀ x ∈ bd, x < 256) := fun x hx => H256.out x (by rw [← HBD.out] at hx; exact List.mem_of_mem_drop hx)
      clear hp o1 o2 o3 o4 hQl hlt hQ hq hqw hbl hD hcp hbd hw1 hw2 hbad
      go_wp2_with fail
      refine (vof_any _ _ _ (bd.take 1034) kind _ HPS.out (fun x hx => HB256.out x (List.mem_of_mem_take hx)) (by omega)).mono ?_
      rintro e w2 ⟨ra, rc, rfl, _, hb2⟩
      rw [HO1.out, HO2.out]
      obtain ⟨n, hn⟩ : ∃ n, (Z.oR (bd.take 1034) kind).length = n := ⟨_, rfl⟩
      obtain ⟨⟨vk, vi, vs⟩, hv⟩ : ∃ x, Z.oV bd kind = x := ⟨_, rfl⟩
      obtain ⟨Y, hY⟩ : ∃ Y : Nat, Z.oE bd kind = Y := ⟨_, rfl⟩
      have HR1 : Hid (Z.r1 kind N b = Y) := by
        show _ = _
        rw [r1_val HE.out (by rw [HM.out]; exact HBAD.out), HKK.out, HBD.out]
        exact hY
      rw [hn, hv, hY, show (Z.V.v ⟨vk, vi, vs⟩) = .agg #[.int .i64 vk, .int .i64 vi, .string vs] from rfl]
      have b2 := below_one w2 (.cells #[.int .i64 vk, .int .i64 vi, .string vs] 47)
      have hA2 := (HA1.out.below hb2).below b2
      have HA2 := hide hA2
      have HB2 := hide (bthen (bthen HB1.out hb2) b2)
      clear a0 a1 a2 a3 t0 t1 t2 t3
      obtain ⟨a0, a1, a2, a3⟩ := hA2.cells
      obtain ⟨t0, t1, t2, t3⟩ := hA2.thawed
      by_cases hY0 : Y = 0
      · subst hY0
        have hnQ : n ≤ Q := by have := HO4.out; rw [hn, HQL.out] at this; exact this
        obtain ⟨G, hG⟩ : ∃ G, Q - n = G := ⟨_, rfl⟩
        have hQG : (Q : Int) - (n : Int) = (G : Int) := by omega
        have hGD : G ≤ D := by omega
        obtain ⟨sa, hsa, hr3, hr4⟩ := rest_of HQ.out hGD
        obtain ⟨sw, hsw, hw3, hw4⟩ := rest_of HQW.out hGD
        have hss : sw = sa := by
          have h1 := hw3 w
          rw [hr3 w] at h1
          injection h1 with h1
          injection h1 with h1
          exact h1.symm
        subst hss
        have HSW : Hid (bd.drop G = Z.rnR kind b) := by
          have h1 := HO3.out hY
          rw [hn, HQL.out, hG] at h1
          show _ = _
          rw [h1]
          unfold Z.rnR
          rw [HKK.out, HBD.out]
        have HV : Hid (Z.rnV kind b = ⟨vk, vi, vs⟩) := by
          show _ = _
          unfold Z.rnV
          rw [HKK.out, HBD.out]
          exact hv
        have HSL := hide hsw
        have hM4 : M ≤ 4096 := by omega
        obtain ⟨v0, v1, v2⟩ := (At.new w2 vk vi vs).cells
        rw [← hQG] at hr3 hr4
        clear hY hn hv hb2 hA2 b2 hr1 hr2 hp1 hp2 hmin hsa hsw hw3 hw4 hG hQG
        obtain ⟨w3, hw3⟩ : ∃ w3, w2.alloc (.cells #[.int .i64 vk, .int .i64 vi, .string vs] 47) = w3 := ⟨_, rfl⟩
        go_wp2_with fail
        rw [hw3] at v0 v1 v2 a0 a1 a2 a3 t0 t1 t2 t3 HA2 HB2
        clear hw3
        go_region
        have hat : AtR (putR w3 w.heap.size (M : Int) vk vi vs).drew w.heap.size 49 (M : Int) vk vi vs := HA2.out.set (M : Int) vk vi vs
        have hbl : (Z.rnR kind b).length = D - G := by rw [← HSW.out, ← HSL.out.1, ints_length]
        have hsl := HSL.out
        rw [HSW.out, ← hbl] at hsl
        have HAT := hide hat
        have HBF := hide (putR_below (M : Int) vk vi vs HB2.out (Nat.le_refl _)).drew
        have HFI : Hid (ToRunAns W b N kind w (.returned (.tuple #[.agg #[.int .i64 (M : Int), .int .i64 vk, .int .i64 vi, .string vs], .slice sw (D - G) (cp - G), .int .i64 0])) (putR w3 w.heap.size (M : Int) vk vi vs).drew) :=
          ⟨HBF.out, .inr ⟨HR1.out, sw, cp - G, by rw [HM.out, HV.out, hbl], hsl⟩⟩
        clear hat hbl hsl
        go_wp2
        exact bodyPost_ret (results_run2 Try.results29 _ _ w.heap.size rfl HAT.out) rfl HFI.out
      · obtain ⟨y, hy⟩ : ∃ y : Int, ((Y : Nat) : Int) = y := ⟨_, rfl⟩
        have hy0 : y ≠ 0 := by omega
        have HY0 := hide hy0
        have hyb : (y != 0) = true := by simpa using hy0
        have HP : Hid (((Z.r1 kind N b : Nat) : Int) = y) := by show _ = _; rw [HR1.out]; exact hy
        rw [hy]
        clear hY hy hY0 hn hv hb2 hA2 b2 hr1 hr2 hp1 hp2 hmin
        go_wp2
        exact bodyPost_ret (results_run2 Try.results29 _ _ w.heap.size rfl (HA2.out.set 0 0 0 ⟨#[]⟩)) rfl (ToRunAns.no HP.out HY0.out (putR_below 0 0 0 ⟨#[]⟩ HB2.out (Nat.le_refl _)))
  · obtain ⟨y, hy⟩ : ∃ y : Int, ((X : Nat) : Int) = y := ⟨_, rfl⟩
    have hy0 : y ≠ 0 := by omega
    have HY0 := hide hy0
    have hyb : (y != 0) = true := by simpa using hy0
    have HP : Hid (((Z.r1 kind N b : Nat) : Int) = y) := by show _ = _; rw [r1_num (by rw [HE.out]; exact hX0), HE.out]; exact hy
    rw [hy]
    clear hy hX0
    go_wp2
    exact bodyPost_ret (results_run2 Try.results29 _ _ w.heap.size rfl (HA1.out.set 0 0 0 ⟨#[]⟩)) rfl (ToRunAns.no HP.out HY0.out (putR_below 0 0 0 ⟨#[]⟩ HB1.out (Nat.le_refl _)))
end Go.Proofs.Ytfggfmcbinhigaa

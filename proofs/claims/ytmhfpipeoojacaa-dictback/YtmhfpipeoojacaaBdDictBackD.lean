/- Of: so many values, and nothing behind them. -/
import Derived.Test.YtmhfpipeoojacaaBdDictBackC
import Derived.Test.YtmhfpipeoojacaaBdZ
import Derived.Test.YtmhfpipeoojacaaBdZC
namespace Go.Proofs.Ytmhfpipeoojacaa
set_option linter.unusedVariables false
open Go.RowKit

/-- What Of tells: the error, and the values; none beside an error. -/
def Z.cE (b : List Nat) (n kind : Int) : Int := if Z.kindOk kind = false then 1 else if n < 0 ∨ 4096 < n then 2 else if Z.pE kind n.toNat b ≠ 0 then ((Z.pE kind n.toNat b : Nat) : Int) else if Z.pR kind n.toNat b ≠ [] then 4 else 0
def Z.cL (b : List Nat) (n kind : Int) : List Z.V := if Z.cE b n kind = 0 then Z.pL kind n.toNat b else []
theorem cE_kind {b : List Nat} {n kind : Int} (h : Z.kindOk kind = false) : Z.cE b n kind = 1 := by unfold Z.cE; rw [if_pos h]
theorem cE_many {b : List Nat} {n kind : Int} (h : Z.kindOk kind = true) (h1 : n < 0 ∨ 4096 < n) : Z.cE b n kind = 2 := by unfold Z.cE; rw [h, if_neg (by decide), if_pos h1]
theorem cE_bad {b : List Nat} {N : Nat} {kind : Int} (h : Z.kindOk kind = true) (h1 : N ≤ 4096) (h2 : Z.pE kind N b ≠ 0) : Z.cE b (N : Int) kind = ((Z.pE kind N b : Nat) : Int) := by
  unfold Z.cE; rw [h, if_neg (by decide), if_neg (by omega), Int.toNat_natCast, if_pos h2]
theorem cE_behind {b : List Nat} {N : Nat} {kind : Int} (h : Z.kindOk kind = true) (h1 : N ≤ 4096) (h2 : Z.pE kind N b = 0) (h3 : Z.pR kind N b ≠ []) : Z.cE b (N : Int) kind = 4 := by
  unfold Z.cE; rw [h, if_neg (by decide), if_neg (by omega), Int.toNat_natCast, if_neg (by rw [h2]; simp), if_pos h3]
theorem cE_ok {b : List Nat} {N : Nat} {kind : Int} (h : Z.kindOk kind = true) (h1 : N ≤ 4096) (h2 : Z.pE kind N b = 0) (h3 : Z.pR kind N b = []) : Z.cE b (N : Int) kind = 0 := by
  unfold Z.cE; rw [h, if_neg (by decide), if_neg (by omega), Int.toNat_natCast, if_neg (by rw [h2]; simp), if_neg (by rw [h3]; simp)]
theorem kind_cases {kind : Int} (h : Z.kindOk kind = true) : kind = 1 ∨ kind = 2 ∨ kind = 3 := by
  unfold Z.kindOk at h
  simp only [Bool.or_eq_true, beq_iff_eq] at h
  rcases h with (h | h) | h
  · exact .inl h
  · exact .inr (.inl h)
  · exact .inr (.inr h)
/-- What Of answers. -/
def ColOf (b : List Nat) (n kind : Int) (w : World) (e : Ending) (w' : World) : Prop := ∃ a c, e = .returned (.tuple #[.slice a (Z.cL b n kind).length c, .int .i64 (Z.cE b n kind)]) ∧ SlV w' a (Z.cL b n kind).length c (Z.cL b n kind) ∧ Below w.heap.size w w'
theorem SlV.nil (w : World) : SlV w none 0 0 [] := ⟨rfl, Nat.le_refl _, by simp [maxLen], fun _ => rfl, .inl rfl⟩
theorem ColOf.no {b : List Nat} {n kind E : Int} {w w' : World} (h : Z.cE b n kind = E) (h0 : E ≠ 0) (hb : Below w.heap.size w w') : ColOf b n kind w (.returned (.tuple #[.slice none 0 0, .int .i64 E])) w' := by
  have h1 : Z.cL b n kind = [] := by unfold Z.cL; rw [if_neg (by rw [h]; exact h0)]
  unfold ColOf; rw [h1, h]
  exact ⟨none, 0, rfl, SlV.nil _, hb⟩
theorem ColOf.yes {b : List Nat} {N : Nat} {kind : Int} {w w' : World} {B : Nat} {v : Value} (h : Z.cE b (N : Int) kind = 0) (ho : OwnV w' B v (Z.pL kind N b)) (hb : Below w.heap.size w w') : ColOf b (N : Int) kind w (.returned (.tuple #[v, .int .i64 0])) w' := by
  have h1 : Z.cL b (N : Int) kind = Z.pL kind N b := by unfold Z.cL; rw [if_pos h, Int.toNat_natCast]
  obtain ⟨a, c, rfl, hs, _⟩ := SlV.of_own ho
  unfold ColOf; rw [h1, h]
  exact ⟨a, c, rfl, hs, hb⟩
/-- The values read, and room for the others. -/
def Z.pF (kind : Int) (b : List Nat) (N j : Nat) : List Z.V := Z.pL kind j b ++ List.replicate (N - j) Z.z0
theorem pF_length {kind : Int} {b : List Nat} {N j : Nat} (h : j ≤ N) : (Z.pF kind b N j).length = N := by
  unfold Z.pF; rw [List.length_append, pL_length, List.length_replicate]; omega
theorem pF_set {kind : Int} {b : List Nat} {N j : Nat} (h : j < N) {x : Z.V} (hx : Z.oV (Z.pR kind j b) kind = x) : (Z.pF kind b N j).set j x = Z.pF kind b N (j + 1) := by
  have h1 := pL_length kind j b
  unfold Z.pF
  rw [pL_succ, hx, show N - j = (N - (j + 1)) + 1 by omega, List.replicate_succ, List.set_append_right _ _ (by omega), h1, Nat.sub_self, List.set_cons_zero]
  simp
theorem pF_at {kind : Int} {b : List Nat} {N j : Nat} (h : j < N) : (Z.pF kind b N j)[j]? = some Z.z0 := by
  have h1 := pL_length kind j b
  unfold Z.pF
  rw [List.getElem?_append_right (by omega), h1, Nat.sub_self, show N - j = (N - (j + 1)) + 1 by omega, List.replicate_succ]
  rfl
/-- Bytes do not lie in a row of values. -/
theorem sl_off_row {w : World} {a : Option Addr} {n c : Nat} {l : List Int} (h : Sl w .u8 a n c l) {B R N : Nat} {m : List Z.V} (ho : OwnV w B (.slice (some ⟨R, 0, none⟩) N N) m) : n = 0 ∨ ∀ x, a = some x → x.block ≠ R := by
  by_cases h0 : n = 0
  · exact .inl h0
  · refine .inr fun x hx hB => ?_
    rcases h.2.2.2.2 with h5 | ⟨b, off, hao, hlt, h5⟩
    · exact h0 h5
    · rw [hao] at hx
      obtain rfl := Option.some.inj hx
      have hB' : b = R := hB
      subst hB'
      have h6 := h5 0 (by omega)
      rw [Nat.add_zero] at h6
      rcases ho.2 with ⟨h7, _⟩ | ⟨g, cap, cur, h7, _, hh, hc, _, hcs, ht⟩
      · simp at h7
      · injection h7 with e1 e2 e3
        simp at e1
        subst e1 e2 e3
        simp only [World.cell?, hh] at h6
        simp at h6
        have h8 : cur[off]? = some (.int .u8 (l.getD 0 0)) := by simpa using h6
        have h9 : off < cur.size := by
          rcases Nat.lt_or_ge off cur.size with h9 | h9
          · exact h9
          · rw [Array.getElem?_eq_none h9] at h8; simp at h8
        have h10 : (cellsV m)[off]? = some (.int .u8 (l.getD 0 0)) := by
          rw [← ht, List.getElem?_take, if_pos (by omega)]
          simpa using h8
        obtain ⟨y, _, hy⟩ := List.mem_flatMap.1 (List.mem_of_getElem? h10)
        simp at hy
theorem pR_len (kind : Int) : ∀ (n : Nat) (b : List Nat), (Z.pR kind n b).length ≤ b.length
  | 0, _ => Nat.le_refl _
  | n + 1, b => by
    have h1 := pR_len kind n (Z.oR b kind)
    have h2 : (Z.oR b kind).length ≤ b.length := by
      unfold Z.oR
      split
      · unfold Z.oS
        split
        · rw [List.length_drop]; omega
        · split
          · rw [List.length_drop]; omega
          · split
            · unfold E.xR; rw [List.length_drop, List.length_drop]; omega
            · exact Nat.le_refl _
      · simp
    rw [Z.pR]
    omega
/-- What the loop keeps: the bytes left in their box, the row that is filled. -/
structure OfLoop (w : World) (B R N : Nat) (b : List Nat) (kind : Int) (j : Nat) (wr : World) : Prop where
  low : Below w.heap.size w wr
  left : ∃ a n c, wr.heap[B]? = some (.cells #[.slice a n c] 36 (0, 0)) ∧ Sl wr .u8 a n c (ints (Z.pR kind j b)) ∧ n ≤ b.length
  most : wr.heap[B + 1 + 1]? = some (.cells #[.int .i64 ((Z.most kind : Nat) : Int)] 3 (0, 0))
  knd : wr.heap[B + 1]? = some (.cells #[.int .i64 kind] 3 (0, 0))
  row : OwnV wr w.heap.size (.slice (some ⟨R, 0, none⟩) N N) (Z.pF kind b N j)
  ok : Z.pE kind j b = 0

end Go.Proofs.Ytmhfpipeoojacaa
/- The first 1034 bytes tell a value as all do. -/
namespace Go.Proofs.Ytmhfpipeoojacaa
set_option linter.unusedVariables false
open Go.RowKit

/-- The bytes ahead tell a value as all do. -/
theorem o_ahead4 {kind : Int} (hk : kind = 1 ∨ kind = 2 ∨ kind = 3) (l : List Nat) :
    Z.oE (l.take 1034) kind = Z.oE l kind ∧ Z.oV (l.take 1034) kind = Z.oV l kind ∧ (Z.oE l kind = 0 → l.drop ((l.take 1034).length - (Z.oR (l.take 1034) kind).length) = Z.oR l kind) ∧ (Z.oR (l.take 1034) kind).length ≤ (l.take 1034).length := by
  have hm : Z.most kind ≤ 1034 := by unfold Z.most; split <;> omega
  obtain ⟨a1, a2, a3, a4⟩ := o_ahead hk l
  obtain ⟨b1, b2, b3, b4⟩ := o_ahead hk (l.take 1034)
  rw [List.take_take, Nat.min_eq_left hm] at b1 b2 b3 b4
  obtain ⟨q, hq⟩ : ∃ q, l.take (Z.most kind) = q := ⟨_, rfl⟩
  have hql : q.length ≤ (l.take 1034).length := by rw [← hq, List.length_take, List.length_take]; omega
  rw [hq] at a1 a2 a3 a4 b1 b2 b3 b4
  have hE : Z.oE (l.take 1034) kind = Z.oE l kind := b1.symm.trans a1
  refine ⟨hE, b2.symm.trans a2, fun h0 => ?_, ?_⟩
  · have h1 := b3 (hE.trans h0)
    have h2 : (Z.oR (l.take 1034) kind).length = (l.take 1034).length - (q.length - (Z.oR q kind).length) := by rw [← h1, List.length_drop]
    rw [h2, show (l.take 1034).length - ((l.take 1034).length - (q.length - (Z.oR q kind).length)) = q.length - (Z.oR q kind).length by omega]
    exact a3 h0
  · by_cases h0 : Z.oE (l.take 1034) kind = 0
    · rw [← b3 h0, List.length_drop]; omega
    · unfold Z.oR; rw [if_neg h0]; simp
end Go.Proofs.Ytmhfpipeoojacaa
/- dict.toWord: one word read, and what stands behind it. Conditions: fewer than 2^47 bytes. -/
namespace Go.Proofs.Ytmhfpipeoojacaa
set_option linter.unusedVariables false
set_option maxRecDepth 10000
open Go.RowKit
/-- A value, and two more, told. -/
theorem results_val2 {fn : Func} {p u v : Tmp} (h : fn.results = #[.cell p 24, .tmp u, .tmp v]) (tmps : Array Value) (w : World) (g : Nat) {k i : Int} {s : ByteArray} (hp : tmps.getD p undef = .pointer (some ⟨g, 0, none⟩)) (hA : At w g k i s) :
    (results fn tmps).run Try.prog w = .ok (.tuple #[.agg #[.int .i64 k, .int .i64 i, .string s], tmps.getD u undef, tmps.getD v undef]) w := by
  have hp' : tmps[p]?.getD undef = .pointer (some ⟨g, 0, none⟩) := by simpa using hp
  unfold At at hA
  simp [results, h, hp', asAddr, run_loadVar_row w g 24 24 _ (0, 0) _ hA Try.underlying24 rfl (by kernel_rfl)]
def ToWordAns (W : World) (b : List Nat) (kind : Int) (w : World) (e : Ending) (w' : World) : Prop :=
  Below w.heap.size w w' ∧ ∃ a n c, e = .returned (.tuple #[(Z.oV b kind).v, .slice a n c, .int .i64 ((Z.oE b kind : Nat) : Int)]) ∧ (Z.oE b kind = 0 → n = (Z.oR b kind).length ∧ Sl W .u8 a n c (ints (Z.oR b kind)))
set_option maxHeartbeats 1000000 in
theorem toword_any (ao : Option Addr) (len cap : Nat) (b : List Nat) (kind : Int) (w W : World) (hW : Sl W .u8 ao len cap (ints b)) (h : Sl w .u8 ao len cap (ints b)) (h256 : ∀ x ∈ b, x < 256) (hm : len ≤ 140737488355328) (hk : kind = 1 ∨ kind = 2 ∨ kind = 3) :
    Calls Try.prog 76 #[.slice ao len cap, .int .i64 kind] w (ToWordAns W b kind w) := by
  have hl : b.length = len := by rw [← h.1, ints_length]
  have hA := At.new w 0 0 ⟨#[]⟩
  have b0 := below_one w (.cells #[.int .i64 0, .int .i64 0, .string ⟨#[]⟩] 24)
  obtain ⟨o1, o2, o3, o4⟩ := o_ahead4 hk b
  obtain ⟨Q, hQ⟩ : ∃ Q, min 1034 len = Q := ⟨_, rfl⟩
  have hQD : Q ≤ len := by omega
  have hQ4 : Q ≤ 1034 := by omega
  have hlt : b.take Q = b.take 1034 := by
    rw [← hQ]
    by_cases h5 : 1034 ≤ len
    · rw [Nat.min_eq_left h5]
    · rw [Nat.min_eq_right (by omega), List.take_of_length_le (by omega), List.take_of_length_le (by omega)]
  have hQl : (b.take 1034).length = Q := by rw [List.length_take, hl, hQ]
  obtain ⟨pa, hp, hp1, hp2⟩ := head_of (h.below b0) hQD
  rw [hlt] at hp
  have hmin : ∀ (ts : Array TypeId) (t : TypeId) (w : World), (Builtin.min_ ts t #[.int .i64 1034, .int .i64 (len : Int)]).run Try.prog w = .ok (.int .i64 (Q : Int)) w := fun ts t w => by
    rw [run_min_int2]
    have : (if (len : Int) < 1034 then (len : Int) else 1034) = (Q : Int) := by split <;> omega
    rw [this]
  have HPS := hide hp
  have HO1 := hide o1
  have HO2 := hide o2
  have HO3 := hide o3
  have HO4 := hide o4
  have HQL := hide hQl
  have HA := hide hA
  have HS := hide (h.below b0)
  have HW := hide hW
  have H256 := hide h256
  have HL := hide hl
  have HB0 := hide b0
  clear h hW h256 hl hA b0 hp o1 o2 o3 o4 hQl hlt hQ hk
  go_enter Try.func76, Try.ntmps76
  go_wp2_with fail
  refine (vof_any _ _ _ (b.take 1034) kind _ HPS.out (fun x hx => H256.out x (List.mem_of_mem_take hx)) (by omega)).mono ?_
  rintro e w2 ⟨ra, rc, rfl, _, hb2⟩
  rw [HO1.out, HO2.out]
  obtain ⟨n, hn⟩ : ∃ n, (Z.oR (b.take 1034) kind).length = n := ⟨_, rfl⟩
  obtain ⟨⟨vk, vi, vs⟩, hv⟩ : ∃ x, Z.oV b kind = x := ⟨_, rfl⟩
  obtain ⟨y, hy⟩ : ∃ y : Int, ((Z.oE b kind : Nat) : Int) = y := ⟨_, rfl⟩
  have hnQ : n ≤ Q := by have := HO4.out; rw [hn, HQL.out] at this; exact this
  obtain ⟨G, hG⟩ : ∃ G, Q - n = G := ⟨_, rfl⟩
  have hQG : (Q : Int) - (n : Int) = (G : Int) := by omega
  have hGD : G ≤ len := by omega
  obtain ⟨sa, hsa, hr3, hr4⟩ := rest_of HS.out hGD
  obtain ⟨sw, hsw, hw3, hw4⟩ := rest_of HW.out hGD
  have hss : sw = sa := by
    have h1 := hw3 w
    rw [hr3 w] at h1
    injection h1 with h1
    injection h1 with h1
    exact h1.symm
  subst hss
  have HSW : Hid (Z.oE b kind = 0 → b.drop G = Z.oR b kind) := fun h0 => by
    have h1 := HO3.out h0
    rw [hn, HQL.out, hG] at h1
    exact h1
  have HSL := hide hsw
  have HV := hide hv
  have HY := hide hy
  rw [hn, hv, hy, show (Z.V.v ⟨vk, vi, vs⟩) = .agg #[.int .i64 vk, .int .i64 vi, .string vs] from rfl]
  have b2 := below_one w2 (.cells #[.int .i64 vk, .int .i64 vi, .string vs] 24)
  have hA2 := (HA.out.below hb2).below b2
  have HA2 := hide hA2
  have HB2 := hide (bthen (bthen HB0.out hb2) b2)
  obtain ⟨a0, a1, a2⟩ := hA2.cells
  obtain ⟨t0, t1, t2⟩ := hA2.thawed
  obtain ⟨v0, v1, v2⟩ := (At.new w2 vk vi vs).cells
  rw [← hQG] at hr3 hr4
  clear hn hv hy hb2 hA2 b2 hp1 hp2 hmin hsa hsw hw3 hw4 hG hQG HPS HO3 HS
  obtain ⟨w3, hw3⟩ : ∃ w3, w2.alloc (.cells #[.int .i64 vk, .int .i64 vi, .string vs] 24) = w3 := ⟨_, rfl⟩
  go_wp2_with fail
  rw [hw3] at v0 v1 v2 a0 a1 a2 t0 t1 t2 HA2 HB2
  clear hw3
  go_region
  have hat : At (putV w3 w.heap.size vk vi vs).drew w.heap.size vk vi vs := HA2.out.set vk vi vs
  have hbl : Z.oE b kind = 0 → len - G = (Z.oR b kind).length := fun h0 => by rw [← HSW.out h0, List.length_drop, HL.out]
  have HAT := hide hat
  have HBF := hide (putV_below vk vi vs HB2.out (Nat.le_refl _)).drew
  have HFI : Hid (ToWordAns W b kind w (.returned (.tuple #[.agg #[.int .i64 vk, .int .i64 vi, .string vs], .slice sw (len - G) (cap - G), .int .i64 y])) (putV w3 w.heap.size vk vi vs).drew) :=
    ⟨HBF.out, sw, len - G, cap - G, by rw [HV.out, HY.out]; rfl, fun h0 => ⟨hbl h0, by rw [← HSW.out h0]; exact HSL.out⟩⟩
  clear hat hbl
  go_wp2
  exact bodyPost_ret (results_val2 Try.results76 _ _ w.heap.size rfl HAT.out) rfl HFI.out
end Go.Proofs.Ytmhfpipeoojacaa
/- DictFinds: the codes of any values among any words, and how many words are below any value, are the document's, or refused. Conditions: none. -/
namespace Go.Proofs.Ytmhfpipeoojacaa
set_option linter.unusedVariables false
set_option maxRecDepth 10000
open Go.RowKit Go.Sort
/-- A world behind another one, all that was there still there. -/
structure BBy (w : World) where
  v : World
  h : Below w.heap.size w v
theorem region_below {id : Nat} {Q : Exit → Act → World → Prop} {a : Act} {w : World} {l : List Oper} (hB : Region.lexB .any l.toArray = true)
    (h : wpQuiet Try.prog l.toArray (fun w' => ∃ p : BBy w, w' = p.v) (fun a' => ∀ w', (∃ p : BBy w, w' = p.v) → Q .normal a' w') l a) : (Code.region id l.toArray true).wp Try.prog Q a w :=
  wp_region_quiet (C := fun w' => ∃ p : BBy w, w' = p.v) Try.mixed hB ⟨⟨{ w with drawn := w.drawn + 1 }, ⟨rfl, rfl, rfl, Nat.le_refl _, fun _ _ => rfl⟩⟩, rfl⟩ (by simpa using h)
theorem Calls.below_of {f : FuncId} {args : Array Value} {w : World} {p : BBy w} {v : Value} (h : Calls Try.prog f args p.v fun e w' => e = .returned v ∧ Below p.v.heap.size p.v w') : Calls Try.prog f args p.v fun e w'' => e = .returned v ∧ ∃ p' : BBy w, w'' = p'.v :=
  h.mono fun _ w' ⟨he, hb⟩ => ⟨he, ⟨w', bthen p.h hb⟩, rfl⟩
theorem Calls.kept_of {f : FuncId} {args : Array Value} {w : World} {p : BBy w} {v : Value} (h : Calls Try.prog f args p.v fun e w' => e = .returned v ∧ Kept (fun _ => False) p.v w') : Calls Try.prog f args p.v fun e w'' => e = .returned v ∧ ∃ p' : BBy w, w'' = p'.v :=
  Calls.below_of (h.mono fun _ w' ⟨he, hb⟩ => ⟨he, hb.below (Nat.le_refl _) (by simp)⟩)
set_option maxHeartbeats 2000000 in
theorem dictFinds_walk (w : World) (aw : Option Addr) (nw cw : Nat) (ws : List Z.V) (h1 : SlV w aw nw cw ws) (f1 : ∀ x ∈ ws, Z.Wf x) (r1 : cw * 32 ≤ 140737488351232) (al : Option Addr) (nl cl : Nat) (l : List Z.V) (h2 : SlV w al nl cl l) (f2 : ∀ x ∈ l, Z.Wf x) (r2 : cl * 32 ≤ 140737488351232) (vk vi : Int) (vs : ByteArray) (hvk : Z.I64 vk) (hvi : Z.I64 vi) (hv : vs.size ≤ maxLen) :
    Calls Try.prog 3 #[.slice aw nw cw, .slice al nl cl, .agg #[.int .i64 vk, .int .i64 vi, .string vs]] w fun e w' => e = .returned (.bool true) ∧ Below w.heap.size w w' := by
  have b1 : nw ≤ 140737488355328 := by have := h1.2.1; omega
  have b2 : nl ≤ 140737488355328 := by have := h2.2.1; omega
  obtain rfl : nw = ws.length := h1.1.symm
  obtain rfl : nl = l.length := h2.1.symm
  have H1 := hide h1
  have H2 := hide h2
  have S1 : Hid (∀ x ∈ ws, x.s.size ≤ 9223372036854775807) := fun x hx => (f1 x hx).2.2
  have S2 : Hid (∀ x ∈ l, x.s.size ≤ 9223372036854775807) := fun x hx => (f2 x hx).2.2
  have HV : Hid (vs.size ≤ 9223372036854775807) := hv
  obtain ⟨w1, hw1⟩ : ∃ w1, w.alloc (.cells #[.int .i64 vk, .int .i64 vi, .string vs] 24) = w1 := ⟨_, rfl⟩
  have hb1 : Below w.heap.size w w1 := by rw [← hw1]; exact below_one w _
  have hat : At w1 w.heap.size vk vi vs := by rw [← hw1]; exact At.new w vk vi vs
  have HW := hide hw1
  have HB1 := hide hb1
  have HA := hide hat
  clear h1 h2 f1 f2 hv hw1 hb1 hat
  go_enter Try.func3, Try.ntmps3
  go_wp2_with fail
  rw [HW.out]
  refine (dshown_any _).mono ?_
  rintro e w2 ⟨rfl, hb2⟩
  have HB2 := hide (HB1.out.trans (hb2.mono HB1.out.size))
  have HA2 := hide (HA.out.below hb2)
  clear hb2 HB1 HA HW
  go_wp2_with fail
  refine (dfew_any aw ws.length cw ws w2 (H1.out.below HB2.out) b1).mono ?_
  rintro e w3 ⟨q, rfl, hq, rfl⟩
  cases q with
  | false =>
    clear hq
    go_wp2
    go_ret
    exact ⟨rfl, HB2.out⟩
  | true =>
    have hq := hq rfl
    go_wp2_with fail
    refine (dfew_any al l.length cl l _ (H2.out.below HB2.out) b2).mono ?_
    rintro e w3 ⟨q, rfl, hq2, rfl⟩
    cases q with
    | false =>
      clear hq2
      go_wp2
      go_ret
      exact ⟨rfl, HB2.out⟩
    | true =>
      have hq2 := hq2 rfl
      go_wp2_with fail
      refine (codes_any aw cw ws al cl l _ (H1.out.below HB2.out) (H2.out.below HB2.out) (by omega) (by omega)).mono ?_
      rintro e w4 ⟨ac, nc, cc, rfl, hs4, hb4⟩
      have HB4 := hide (HB2.out.trans (hb4.mono HB2.out.size))
      have HA4 := hide (HA2.out.below hb4)
      obtain ⟨E, hE⟩ : ∃ E, Z.cdE ws l = E := ⟨_, rfl⟩
      rw [hE]
      have HE := hide hE
      have HS4 := hide hs4
      have HN4 := hide hs4.1
      clear hs4 hb4 hE HA2
      go_wp2_with fail
      refine (rcodes_any aw cw ws al cl l _ (H1.out.below HB4.out) (H2.out.below HB4.out) (by omega) (by omega) S1.out S2.out).mono ?_
      rintro e w5 ⟨ad, nd, cd, rfl, hs5, hb5⟩
      rw [HE.out]
      obtain rfl : nc = nd := by rw [← HN4.out, ← hs5.1]
      have HB5 := hide (HB4.out.trans (hb5.mono HB4.out.size))
      have HA5 := hide (HA4.out.below hb5)
      have hnc : nc ≤ 140737488355328 := by
        have := HN4.out
        have h3 : (Z.cdL ws l).length ≤ l.length := by unfold Z.cdL; split <;> simp
        simp [ints] at this
        omega
      have SAME : Hid (∀ p : BBy w5, Calls Try.prog 12 #[.slice ac nc cc, .slice ad nc cd] p.v fun e w' => e = .returned (.bool true) ∧ Kept (fun _ => False) p.v w') := fun p => u64same_yes ac ad nc cc cd _ p.v ((HS4.out.below hb5).below p.h) (hs5.below p.h) hnc
      have BL1 : Hid (∀ p : BBy w5, Calls Try.prog 13 #[.slice aw ws.length cw, .agg #[.int .i64 vk, .int .i64 vi, .string vs]] p.v fun e w' => e = .returned (.int .i64 (Z.blw ws ⟨vk, vi, vs⟩ : Nat)) ∧ Below p.v.heap.size p.v w') := fun p => dbelow_any aw _ cw ws vk vi vs p.v ((H1.out.below HB5.out).below p.h) b1
      have BL2 : Hid (∀ p : BBy w5, Calls Try.prog 14 #[.slice aw ws.length cw, .agg #[.int .i64 vk, .int .i64 vi, .string vs]] p.v fun e w' => e = .returned (.int .i64 (Z.blw ws ⟨vk, vi, vs⟩ : Nat)) ∧ Below p.v.heap.size p.v w') := fun p => rbelow_any aw _ cw ws vk vi vs p.v ((H1.out.below HB5.out).below p.h) S1.out HV.out b1
      have g1 : ∀ p : BBy w5, p.v.cell? ⟨w.heap.size, 0, none⟩ = some (.int .i64 vk) := fun p => (HA5.out.below p.h).cells.1
      have g2 : ∀ p : BBy w5, p.v.cell? ⟨w.heap.size, 1, none⟩ = some (.int .i64 vi) := fun p => (HA5.out.below p.h).cells.2.1
      have g3 : ∀ p : BBy w5, p.v.cell? ⟨w.heap.size, 2, none⟩ = some (.string vs) := fun p => (HA5.out.below p.h).cells.2.2
      obtain ⟨n, hn⟩ : ∃ n, Z.blw ws ⟨vk, vi, vs⟩ = n := ⟨_, rfl⟩
      rw [hn] at BL1 BL2
      clear hs5 hb5 hn HA4 HS4 HN4 HE
      have inh : Nonempty (BBy w5) := ⟨⟨w5, Below.refl _ _⟩⟩
      go_wp2_with fail
      refine region_below (by kernel_rfl) ?_
      repeat (quiet_step (first | (go_at_call 12; refine Calls.kept_of (SAME.out _)) | (go_at_call 13; refine Calls.below_of (BL1.out _)) | (go_at_call 14; refine Calls.below_of (BL2.out _))))
      refine wpQuiet_nil ?_
      intro _ hw'
      obtain ⟨⟨w6, hb6⟩, hw''⟩ := hw'
      subst hw''
      have HB6 := hide (HB5.out.trans (hb6.mono HB5.out.size))
      clear hb6 SAME BL1 BL2 g1 g2 g3
      go_wp2
      go_ret
      exact ⟨rfl, HB6.out⟩
end Go.Proofs.Ytmhfpipeoojacaa
/- dict.rise: do words rise? Conditions: fewer than 2^47 words. -/
namespace Go.Proofs.Ytmhfpipeoojacaa
set_option linter.unusedVariables false
set_option maxRecDepth 10000
open Go.RowKit Go.Sort
theorem rise_steps : ∀ ws : List Z.V, Z.Rise ws ↔ ∀ j x y, ws[j]? = some x → ws[j + 1]? = some y → Z.cv x y < 0
  | [] => by simp [Z.Rise]
  | [x] => by
    constructor
    · intro _ j a b _ h2; simp at h2
    · intro _; simp [Z.Rise]
  | x :: y :: t => by
    rw [← risB_iff, Z.risB, Bool.and_eq_true, decide_eq_true_eq, risB_iff (y :: t), rise_steps (y :: t)]
    constructor
    · rintro ⟨h1, h2⟩ j a b ha hb
      cases j with
      | zero => simp at ha hb; subst ha hb; exact h1
      | succ j => simp only [List.getElem?_cons_succ] at ha hb; exact h2 j a b ha (by simpa using hb)
    · intro h
      exact ⟨h 0 x y rfl rfl, fun j a b ha hb => h (j + 1) a b (by simpa using ha) (by simpa using hb)⟩
theorem risB_no {ws : List Z.V} {j : Nat} {x y : Z.V} (h1 : ws[j]? = some x) (h2 : ws[j + 1]? = some y) (h : 0 ≤ Z.cv x y) : Z.risB ws = false := by
  cases hb : Z.risB ws with
  | false => rfl
  | true =>
    have := (rise_steps ws).1 ((risB_iff ws).1 hb) j x y h1 h2
    omega
set_option maxHeartbeats 1000000 in
theorem drise_any (ao : Option Addr) (len cap : Nat) (ws : List Z.V) (w : World) (h : SlV w ao len cap ws) (hl : len ≤ 140737488355328) :
    Calls Try.prog 77 #[.slice ao len cap] w fun e w' => e = .returned (.bool (Z.risB ws)) ∧ Below w.heap.size w w' := by
  have HL := hide h.1
  have HS := hide h
  clear h
  go_enter Try.func77, Try.ntmps77
  go_wp2_with fail
  go_loopw [7] (fun i wr => ∃ j : Nat, j ≤ len ∧ i = .int .i64 j ∧ Hid (∀ i x y, i + 1 < j → ws[i]? = some x → ws[i + 1]? = some y → Z.cv x y < 0) ∧ Hid (Below w.heap.size w wr)) (fun i _ => len - (intOf i).toNat)
  case atStart => exact ⟨0, Nat.zero_le _, rfl, hide (by intro i x y h; omega), hide (Below.refl _ _)⟩
  case round =>
    obtain ⟨j, hj, rfl, HR, HB⟩ := hrel
    by_cases hjl : j < len
    · obtain ⟨b, off, xk, xi, xs, rfl, hlt, hx, c1, c2, c3⟩ := HS.out.at hjl
      have d1 : wr.cell? ⟨b, off + j * 3, none⟩ = some (.int .i64 xk) := by rw [HB.out.cell (p := ⟨b, off + j * 3, none⟩) hlt]; exact c1
      have d2 : wr.cell? ⟨b, off + j * 3 + 1, none⟩ = some (.int .i64 xi) := by rw [HB.out.cell (p := ⟨b, off + j * 3 + 1, none⟩) hlt]; exact c2
      have d3 : wr.cell? ⟨b, off + j * 3 + 2, none⟩ = some (.string xs) := by rw [HB.out.cell (p := ⟨b, off + j * 3 + 2, none⟩) hlt]; exact c3
      have HX := hide hx
      have b1 := below_one wr (.cells #[.int .i64 xk, .int .i64 xi, .string xs] 24)
      have HB1 := hide (bthen HB.out b1)
      have HA := hide (At.new wr xk xi xs)
      obtain ⟨w1, hw1⟩ : ∃ w1, wr.alloc (.cells #[.int .i64 xk, .int .i64 xi, .string xs] 24) = w1 := ⟨_, rfl⟩
      have HW := hide hw1
      rw [hw1] at HB1 HA
      have g1 : ∀ p : BBy w1, p.v.cell? ⟨wr.heap.size, 0, none⟩ = some (.int .i64 xk) := fun p => (HA.out.below p.h).cells.1
      have g2 : ∀ p : BBy w1, p.v.cell? ⟨wr.heap.size, 1, none⟩ = some (.int .i64 xi) := fun p => (HA.out.below p.h).cells.2.1
      have g3 : ∀ p : BBy w1, p.v.cell? ⟨wr.heap.size, 2, none⟩ = some (.string xs) := fun p => (HA.out.below p.h).cells.2.2
      have inh : Nonempty (BBy w1) := ⟨⟨w1, Below.refl _ _⟩⟩
      clear c1 c2 c3 hx b1 hw1
      rcases Nat.eq_zero_or_pos j with hj0 | hj0
      · have hpos : ¬ 0 < j := by omega
        have HJ := hide hj0
        clear g1 g2 g3 hj0
        go_wp2_with fail
        rw [HW.out]
        go_quiet (fail)
        have HBN := hide (bthen HB1.out (below_drewN (Below.refl _ _) nq))
        clear d1 d2 d3
        go_wp2
        go_roundw
        case rel => exact ⟨j + 1, by omega, by go_num, hide (by have := HJ.out; intro i x y h; omega), HBN⟩
        case measure => simp [intOf]; omega
      · obtain ⟨i, hi⟩ : ∃ i, j = i + 1 := ⟨j - 1, by omega⟩
        have e1 : (j : Int) - 1 = (i : Int) := by omega
        have hil : i < len := by omega
        have e3 : IntKind.i64.wrap (i : Int) = (i : Int) := by rw [IntKind.wrap_i64]; omega
        obtain ⟨b', off', yk, yi, ys, e, _, hy, k1, k2, k3⟩ := HS.out.at hil
        obtain ⟨rfl, rfl⟩ : b = b' ∧ off = off' := by injection e with e; injection e with e1 e2; exact ⟨e1, e2⟩
        have f1 : ∀ p : BBy w1, p.v.cell? ⟨b, off + i * 3, none⟩ = some (.int .i64 yk) := fun p => by rw [(bthen HB1.out p.h).cell (p := ⟨b, off + i * 3, none⟩) hlt]; exact k1
        have f2 : ∀ p : BBy w1, p.v.cell? ⟨b, off + i * 3 + 1, none⟩ = some (.int .i64 yi) := fun p => by rw [(bthen HB1.out p.h).cell (p := ⟨b, off + i * 3 + 1, none⟩) hlt]; exact k2
        have f3 : ∀ p : BBy w1, p.v.cell? ⟨b, off + i * 3 + 2, none⟩ = some (.string ys) := fun p => by rw [(bthen HB1.out p.h).cell (p := ⟨b, off + i * 3 + 2, none⟩) hlt]; exact k3
        obtain ⟨c, hc⟩ : ∃ c, Z.cv ⟨yk, yi, ys⟩ ⟨xk, xi, xs⟩ = c := ⟨_, rfl⟩
        have HC : Hid (∀ p : BBy w1, Calls Try.prog 23 #[.agg #[.int .i64 yk, .int .i64 yi, .string ys], .agg #[.int .i64 xk, .int .i64 xi, .string xs]] p.v fun e w' => e = .returned (.int .i64 c) ∧ Below p.v.heap.size p.v w') := by
          intro p; rw [← hc]; exact vcompare_any yk yi ys xk xi xs p.v
        have HY := hide hy
        have HCC := hide hc
        have HI := hide hi
        clear hy hc k1 k2 k3 e hi
        have hii : (i : Int) < (len : Int) := by omega
        go_wp2_with fail
        rw [HW.out]
        refine region_below (by kernel_rfl) ?_
        repeat (quiet_step (first | (go_at_call 23; refine Calls.below_of (HC.out _))))
        refine wpQuiet_nil ?_
        intro _ hw'
        obtain ⟨⟨w2, hb2⟩, hw''⟩ := hw'
        subst hw''
        have HB2 := hide (bthen HB1.out hb2)
        clear hb2 HC f1 f2 f3 g1 g2 g3 d1 d2 d3
        by_cases hcn : c < 0
        · go_wp2
          go_roundw
          case rel =>
            refine ⟨j + 1, by omega, by go_num, hide (fun i' x y h h1 h2 => ?_), HB2⟩
            by_cases hi : i' + 1 < j
            · exact HR.out i' x y hi h1 h2
            · have h3 := HI.out
              obtain rfl : i' = i := by omega
              rw [HY.out] at h1
              rw [← h3, HX.out] at h2
              injection h1 with h1
              injection h2 with h2
              subst h1 h2
              rw [HCC.out]
              exact hcn
          case measure => simp [intOf]; omega
        · have hc0 : 0 ≤ c := by omega
          have HN := hide (risB_no HY.out (by rw [← HI.out]; exact HX.out) (by rw [HCC.out]; exact hc0))
          go_wp2
          go_ret
          exact ⟨by rw [HN.out]; rfl, HB2.out⟩
    · obtain rfl : j = len := by omega
      have hr : Z.risB ws = true := by
        rw [risB_iff, rise_steps]
        intro i x y h1 h2
        have hlt := (List.getElem?_eq_some_iff.1 h2).1
        exact HR.out i x y (by rw [← HL.out]; exact hlt) h1 h2
      have HQ := hide hr
      clear hr
      go_wp2
      go_ret
      exact ⟨by rw [HQ.out]; rfl, HB.out⟩
end Go.Proofs.Ytmhfpipeoojacaa

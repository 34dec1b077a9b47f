/- Of: so many values, and nothing behind them. -/
import Derived.Test.YthcnfbjljkighaaBdQ
import Derived.Test.YthcnfbjljkighaaBdG
namespace Go.Proofs.Ythcnfbjljkighaa
set_option linter.unusedVariables false
open Go.RowKit

/-- What Of tells: the error, and the values; none beside an error. -/
def Z.cE (b : List Nat) (n kind : Int) : Int := if Z.kindOk kind = false then 1 else if n < 0 ∨ 4096 < n then 2 else if Z.pE kind n.toNat b ≠ 0 then ((Z.pE kind n.toNat b : Nat) : Int) else if Z.pR kind n.toNat b ≠ [] then 4 else 0
def Z.cL (b : List Nat) (n kind : Int) : List Z.V := if Z.cE b n kind = 0 then Z.pL kind n.toNat b else []
theorem cE_kind {b : List Nat} {n kind : Int} (h : Z.kindOk kind = false) : Z.cE b n kind = 1 := by unfold Z.cE; rw [if_pos h]
theorem cE_many {b : List Nat} {n kind : Int} (h : Z.kindOk kind = true) (h1 : n < 0 ∨ 4096 < n) : Z.cE b n kind = 2 := by unfold Z.cE; rw [h, if_neg (by decide), if_pos h1]
theorem cE_bad {b : List Nat} {N : Nat} {kind : Int} (h : Z.kindOk kind = true) (h1 : N ≤ 4096) (h2 : Z.pE kind N b ≠ 0) : Z.cE b (N : Int) kind = ((Z.pE kind N b : Nat) : Int) := by
  unfold Z.cE; rw [h, if_neg (by decide), if_neg (by omega), Int.toNat_natCast, if_pos h2]
theorem cE_behind {b : List Nat} {N : Nat} {kind : Int} (h : Z.kindOk kind = true) (h1 : N ≤ 4096) (h2 : Z.pE kind N b = 0) (h3 : Z.pR kind N b ≠ []) : Z.cE b (N : Int) kind = 4 := by
  unfold Z.cE; rw [h, if_neg (by decide), if_neg (by omega), Int.toNat_natCast, if_neg (by rw [h2]; simp), if_pos h3]
theorem cE_ok {b : List Nat} {N : Nat} {kind : Int} (h : Z.kindOk kind = true) (h1 : N ≤ 4096) (h2 : Z.pE kind N b = 0) (h3 : Z.pR kind N b = []) : Z.cE b (N : Int) kind = 0 := by
  unfold Z.cE; rw [h, if_neg (by decide), if_neg (by omega), Int.toNat_natCast, if_neg (by rw [h2]; simp), if_neg (by rw [h3]; simp)]
theorem kind_cases {kind : Int} (h : Z.kindOk kind = true) : kind = 1 ∨ kind = 2 ∨ kind = 3 := by
  unfold Z.kindOk at h
  simp only [Bool.or_eq_true, beq_iff_eq] at h
  rcases h with (h | h) | h
  · exact .inl h
  · exact .inr (.inl h)
  · exact .inr (.inr h)
/-- What Of answers. -/
def ColOf (b : List Nat) (n kind : Int) (w : World) (e : Ending) (w' : World) : Prop := ∃ a c, e = .returned (.tuple #[.slice a (Z.cL b n kind).length c, .int .i64 (Z.cE b n kind)]) ∧ SlV w' a (Z.cL b n kind).length c (Z.cL b n kind) ∧ Below w.heap.size w w'
theorem SlV.nil (w : World) : SlV w none 0 0 [] := ⟨rfl, Nat.le_refl _, by simp [maxLen], fun _ => rfl, .inl rfl⟩
theorem ColOf.no {b : List Nat} {n kind E : Int} {w w' : World} (h : Z.cE b n kind = E) (h0 : E ≠ 0) (hb : Below w.heap.size w w') : ColOf b n kind w (.returned (.tuple #[.slice none 0 0, .int .i64 E])) w' := by
  have h1 : Z.cL b n kind = [] := by unfold Z.cL; rw [if_neg (by rw [h]; exact h0)]
  unfold ColOf; rw [h1, h]
  exact ⟨none, 0, rfl, SlV.nil _, hb⟩
theorem ColOf.yes {b : List Nat} {N : Nat} {kind : Int} {w w' : World} {B : Nat} {v : Value} (h : Z.cE b (N : Int) kind = 0) (ho : OwnV w' B v (Z.pL kind N b)) (hb : Below w.heap.size w w') : ColOf b (N : Int) kind w (.returned (.tuple #[v, .int .i64 0])) w' := by
  have h1 : Z.cL b (N : Int) kind = Z.pL kind N b := by unfold Z.cL; rw [if_pos h, Int.toNat_natCast]
  obtain ⟨a, c, rfl, hs, _⟩ := SlV.of_own ho
  unfold ColOf; rw [h1, h]
  exact ⟨a, c, rfl, hs, hb⟩
theorem most_any (kind : Int) (w : World) : Calls Try.prog 20 #[.int .i64 kind] w fun e w' => e = .returned (.int .i64 ((Z.most kind : Nat) : Int)) ∧ w' = w := by
  by_cases k3 : kind = 3
  · subst k3
    go_enter Try.func20, Try.ntmps20
    go_wp2
    go_ret
    exact ⟨rfl, rfl⟩
  · have HM : Hid (Z.most kind = 10) := by show _ = _; unfold Z.most; rw [if_neg k3]
    have e3 : (kind == 3) = false := by simpa using k3
    go_enter Try.func20, Try.ntmps20
    go_wp2
    go_ret
    exact ⟨by rw [HM.out]; rfl, rfl⟩
/-- The values read, and room for the others. -/
def Z.pF (kind : Int) (b : List Nat) (N j : Nat) : List Z.V := Z.pL kind j b ++ List.replicate (N - j) Z.z0
theorem pF_length {kind : Int} {b : List Nat} {N j : Nat} (h : j ≤ N) : (Z.pF kind b N j).length = N := by
  unfold Z.pF; rw [List.length_append, pL_length, List.length_replicate]; omega
theorem pF_set {kind : Int} {b : List Nat} {N j : Nat} (h : j < N) {x : Z.V} (hx : Z.oV (Z.pR kind j b) kind = x) : (Z.pF kind b N j).set j x = Z.pF kind b N (j + 1) := by
  have h1 := pL_length kind j b
  unfold Z.pF
  rw [pL_succ, hx, show N - j = (N - (j + 1)) + 1 by omega, List.replicate_succ, List.set_append_right _ _ (by omega), h1, Nat.sub_self, List.set_cons_zero]
  simp
theorem pF_at {kind : Int} {b : List Nat} {N j : Nat} (h : j < N) : (Z.pF kind b N j)[j]? = some Z.z0 := by
  have h1 := pL_length kind j b
  unfold Z.pF
  rw [List.getElem?_append_right (by omega), h1, Nat.sub_self, show N - j = (N - (j + 1)) + 1 by omega, List.replicate_succ]
  rfl
/-- Bytes do not lie in a row of values. -/
theorem sl_off_row {w : World} {a : Option Addr} {n c : Nat} {l : List Int} (h : Sl w .u8 a n c l) {B R N : Nat} {m : List Z.V} (ho : OwnV w B (.slice (some ⟨R, 0, none⟩) N N) m) : n = 0 ∨ ∀ x, a = some x → x.block ≠ R := by
  by_cases h0 : n = 0
  · exact .inl h0
  · refine .inr fun x hx hB => ?_
    rcases h.2.2.2.2 with h5 | ⟨b, off, hao, hlt, h5⟩
    · exact h0 h5
    · rw [hao] at hx
      obtain rfl := Option.some.inj hx
      have hB' : b = R := hB
      subst hB'
      have h6 := h5 0 (by omega)
      rw [Nat.add_zero] at h6
      rcases ho.2 with ⟨h7, _⟩ | ⟨g, cap, cur, h7, _, hh, hc, _, hcs, ht⟩
      · simp at h7
      · injection h7 with e1 e2 e3
        simp at e1
        subst e1 e2 e3
        simp only [World.cell?, hh] at h6
        simp at h6
        have h8 : cur[off]? = some (.int .u8 (l.getD 0 0)) := by simpa using h6
        have h9 : off < cur.size := by
          rcases Nat.lt_or_ge off cur.size with h9 | h9
          · exact h9
          · rw [Array.getElem?_eq_none h9] at h8; simp at h8
        have h10 : (cellsV m)[off]? = some (.int .u8 (l.getD 0 0)) := by
          rw [← ht, List.getElem?_take, if_pos (by omega)]
          simpa using h8
        obtain ⟨y, _, hy⟩ := List.mem_flatMap.1 (List.mem_of_getElem? h10)
        simp at hy
theorem pR_len (kind : Int) : ∀ (n : Nat) (b : List Nat), (Z.pR kind n b).length ≤ b.length
  | 0, _ => Nat.le_refl _
  | n + 1, b => by
    have h1 := pR_len kind n (Z.oR b kind)
    have h2 : (Z.oR b kind).length ≤ b.length := by
      unfold Z.oR
      split
      · unfold Z.oS
        split
        · rw [List.length_drop]; omega
        · split
          · rw [List.length_drop]; omega
          · split
            · unfold E.xR; rw [List.length_drop, List.length_drop]; omega
            · exact Nat.le_refl _
      · simp
    rw [Z.pR]
    omega
/-- What the loop keeps: the bytes left in their box, the row that is filled. -/
structure OfLoop (w : World) (B R N : Nat) (b : List Nat) (kind : Int) (j : Nat) (wr : World) : Prop where
  low : Below w.heap.size w wr
  left : ∃ a n c, wr.heap[B]? = some (.cells #[.slice a n c] 23 (0, 0)) ∧ Sl wr .u8 a n c (ints (Z.pR kind j b)) ∧ n ≤ b.length
  most : wr.heap[B + 1 + 1]? = some (.cells #[.int .i64 ((Z.most kind : Nat) : Int)] 3 (0, 0))
  knd : wr.heap[B + 1]? = some (.cells #[.int .i64 kind] 3 (0, 0))
  row : OwnV wr w.heap.size (.slice (some ⟨R, 0, none⟩) N N) (Z.pF kind b N j)
  ok : Z.pE kind j b = 0

set_option maxHeartbeats 2000000 in
theorem pof_some (ao : Option Addr) (len cap : Nat) (b : List Nat) (N : Nat) (kind : Int) (w : World) (h : Sl w .u8 ao len cap (ints b)) (h256 : ∀ x ∈ b, x < 256) (hm : len ≤ 140737488355328) (hN : N ≤ 4096) (hk : Z.kindOk kind = true) :
    Calls Try.prog 12 #[.slice ao len cap, .int .i64 (N : Int), .int .i64 kind] w (ColOf b (N : Int) kind w) := by
  have hmf : ∀ (fn : Fn) (first cap : Array Value) (w : World), (Instr.makeFunc fn first cap).run Try.prog w = .ok (.func fn first cap) w := fun _ _ _ _ => rfl
  have hl : b.length = len := by rw [← h.1, ints_length]
  have hd1 : decide ((N : Int) < 0) = false := by simp
  have hd2 : decide ((4096 : Int) < (N : Int)) = false := by simp; omega
  have q0 := heap_alloc_new w (.cells #[.slice ao len cap] 23)
  have q1 := heap_alloc_new (w.alloc (.cells #[.slice ao len cap] 23)) (.cells #[.int .i64 kind] 3)
  have q2 := heap_alloc_new ((w.alloc (.cells #[.slice ao len cap] 23)).alloc (.cells #[.int .i64 kind] 3)) (.cells #[.int .i64 ((Z.most kind : Nat) : Int)] 3)
  have hbel : Below w.heap.size w (((w.alloc (.cells #[.slice ao len cap] 23)).alloc (.cells #[.int .i64 kind] 3)).alloc (.cells #[.int .i64 ((Z.most kind : Nat) : Int)] 3)) :=
    (((Below.refl _ _).alloc (Nat.le_refl _) _).alloc (by simp) _).alloc (by simp; omega) _
  have r0 := heap_alloc_keep (.cells #[.int .i64 ((Z.most kind : Nat) : Int)] 3) (heap_alloc_keep (.cells #[.int .i64 kind] 3) q0)
  have r1 := heap_alloc_keep (.cells #[.int .i64 ((Z.most kind : Nat) : Int)] 3) q1
  simp only [World.size_alloc] at r1 q2
  have HR0 := hide r0
  have HR1 := hide r1
  have HR2 := hide q2
  have HBEL := hide hbel
  obtain ⟨c0, _⟩ := cell_of_heap (heap_alloc_keep (.cells #[.int .i64 kind] 3) q0)
  obtain ⟨c1, _⟩ := cell_of_heap q1
  simp only [World.size_alloc] at c1
  have HH := hide h
  have H256 := hide h256
  have HK := hide hk
  have HL := hide hl
  clear h h256 hk hl q0 q1 q2 r0 r1 hbel
  obtain ⟨i0, hi0, hz0, hz1, hz2⟩ := info_parts Try.infoVal
  go_enter Try.func12, Try.ntmps12
  go_wp2_with fail
  refine (iscol_any _ _).mono ?_
  rintro e w2 ⟨rfl, rfl⟩
  rw [HK.out]
  go_wp2_with fail
  refine (most_any _ _).mono ?_
  rintro e w3 ⟨rfl, rfl⟩
  go_wp2_with (at_make; refine wpList_make_full _ rfl _ _ 22 rfl w.heap.size 41 i0 _ 3 Try.underlying22 hi0 hz0 hz1 _ _ _ _ N rfl rfl rfl rfl (by rw [hz2]; omega) (by unfold maxLen; omega) HBEL.out.size ?_)
  intro w4 ho hg
  obtain ⟨w3, hw3⟩ : ∃ w3, ((w.alloc (.cells #[.slice ao len cap] 23)).alloc (.cells #[.int .i64 kind] 3)).alloc (.cells #[.int .i64 ((Z.most kind : Nat) : Int)] 3) = w3 := ⟨_, rfl⟩
  rw [hw3] at hg HR0 HR1 HR2 HBEL
  have hb4 : Below w3.heap.size w3 w4 := (Below.refl _ _).grown hg (Nat.le_refl _) (by simp)
  have hstart : OfLoop w w.heap.size (w.heap.size + 1 + 1 + 1) N b kind 0 w4 := by
    refine ⟨bthen HBEL.out hb4, ⟨ao, len, cap, (hb4.block _ (lt_of_block HR0.out)).trans HR0.out, (HH.out.below HBEL.out).below hb4, by rw [HL.out]; exact Nat.le_refl _⟩, (hb4.block _ (lt_of_block HR2.out)).trans HR2.out, (hb4.block _ (lt_of_block HR1.out)).trans HR1.out, ?_, rfl⟩
    unfold OwnV
    rw [pF_length (Nat.zero_le _)]
    unfold Z.pF
    rw [show Z.pL kind 0 b = [] from rfl, List.nil_append, Nat.sub_zero, cellsV_replicate]
    exact ho
  obtain ⟨R, hR⟩ : ∃ R, w.heap.size + 1 + 1 + 1 = R := ⟨_, rfl⟩
  rw [hR] at hstart ⊢
  have HST := hide hstart
  obtain ⟨M, hM⟩ : ∃ M : Int, ((Z.most kind : Nat) : Int) = M := ⟨_, rfl⟩
  rw [hM]
  clear hstart ho hg hb4 hw3 hR HR0 HR1 HR2 HBEL c0 c1 hi0 hz0 hz1 hz2 hM
  go_wp2_with fail
  go_loopw [30] (fun i wr => ∃ j : Nat, j ≤ N ∧ i = .int .i64 j ∧ Hid (OfLoop w w.heap.size R N b kind j wr)) (fun i _ => N - (intOf i).toNat)
  case atStart => exact ⟨0, Nat.zero_le _, rfl, HST⟩
  case round =>
    obtain ⟨j, hj, rfl, HO⟩ := hrel
    by_cases hjl : j < N
    · obtain ⟨a, n, c, hbx, hs, hn⟩ := HO.out.left
      have hcl := next_any w.heap.size (w.heap.size + 1 + 1) (w.heap.size + 1) a n c (Z.pR kind j b) kind wr hbx HO.out.most HO.out.knd hs (pR_lt j b H256.out) (by rw [HL.out] at hn; omega) (kind_cases HK.out)
      have HCL := hide hcl
      clear hcl hbx hs hn
      go_wp2_with fail
      refine HCL.out.mono ?_
      rintro e w5 ⟨rfl, hleft, hkp⟩
      obtain ⟨E, hE⟩ : ∃ E : Nat, Z.oE (Z.pR kind j b) kind = E := ⟨_, rfl⟩
      obtain ⟨⟨vk, vi, vs⟩, hv⟩ : ∃ x, Z.oV (Z.pR kind j b) kind = x := ⟨_, rfl⟩
      rw [hE, hv, show (Z.V.v ⟨vk, vi, vs⟩) = .agg #[.int .i64 vk, .int .i64 vi, .string vs] from rfl]
      rw [hE] at hleft
      have hb5 : Below w.heap.size w w5 := HO.out.low.trans (hkp.below HO.out.low.size (by rintro k rfl; exact Nat.le_refl _))
      have hsz5 := hb5.size
      have hb6 : Below w.heap.size w (w5.alloc (.cells #[.int .i64 vk, .int .i64 vi, .string vs] 41)) := hb5.alloc hsz5 _
      have HB6 := hide hb6
      by_cases hE0 : E = 0
      · subst hE0
        have hA := At.new w5 vk vi vs
        obtain ⟨v0, v1, v2⟩ := hA.cells
        obtain ⟨a', n', c', hbx, hs⟩ := hleft
        obtain ⟨hn', hs⟩ := hs rfl
        have hlo : ∀ g, (Value.slice (some ⟨R, 0, none⟩) N N).ownBlock = some g → g ≠ w.heap.size := fun g hg e => by
          subst e
          obtain ⟨a, n, c, hbx, _⟩ := HO.out.left
          exact owns_ne_block HO.out.row hbx (by decide) hg
        have hrow5 : OwnV w5 w.heap.size (.slice (some ⟨R, 0, none⟩) N N) (Z.pF kind b N j) := owns_of_block HO.out.row fun g hg => hkp.block g (owns_lt HO.out.row hg).2 (hlo g hg)
        have hrow : OwnV (w5.alloc (.cells #[.int .i64 vk, .int .i64 vi, .string vs] 41)) w.heap.size (.slice (some ⟨R, 0, none⟩) N N) (Z.pF kind b N j) := World.ownsRow.alloc hrow5 _
        have hRB : R ≠ w.heap.size := hlo R rfl
        have hs6 : Sl (w5.alloc (.cells #[.int .i64 vk, .int .i64 vi, .string vs] 41)) .u8 a' n' c' (ints (Z.oR (Z.pR kind j b) kind)) := hs.below (below_one w5 _)
        have hbx6 := heap_alloc_keep (.cells #[.int .i64 vk, .int .i64 vi, .string vs] 41) hbx
        have hm6 : (w5.alloc (.cells #[.int .i64 vk, .int .i64 vi, .string vs] 41)).heap[w.heap.size + 1 + 1]? = some (.cells #[.int .i64 ((Z.most kind : Nat) : Int)] 3 (0, 0)) := heap_alloc_keep _ ((hkp.block _ (lt_of_block HO.out.most) (by omega)).trans HO.out.most)
        have hk6 : (w5.alloc (.cells #[.int .i64 vk, .int .i64 vi, .string vs] 41)).heap[w.heap.size + 1]? = some (.cells #[.int .i64 kind] 3 (0, 0)) := heap_alloc_keep _ ((hkp.block _ (lt_of_block HO.out.knd) (by omega)).trans HO.out.knd)
        have hoff := sl_off_row hs6 hrow
        have hRm : R ≠ w.heap.size + 1 + 1 := fun e => owns_ne_block hrow hm6 (by decide) (by rw [e]; rfl)
        have hRk : R ≠ w.heap.size + 1 := fun e => owns_ne_block hrow hk6 (by decide) (by rw [e]; rfl)
        have hr6 := hrow
        unfold OwnV at hr6
        rw [pF_length hj] at hr6
        obtain ⟨z0, z1, z2⟩ := cellsV_get _ j _ (pF_at (kind := kind) (b := b) hjl)
        have c0 := (hr6.cellAt (j * 3) (by omega)).trans z0
        have c1 := (hr6.cellAt (j * 3 + 1) (by omega)).trans z1
        have c2 := (hr6.cellAt (j * 3 + 2) (by omega)).trans z2
        have f0 := hr6.frozenAt (j * 3)
        have f1 := hr6.frozenAt (j * 3 + 1)
        have f2 := hr6.frozenAt (j * 3 + 2)
        have hlow : w.heap.size ≤ R := (owns_lt hrow (k := R) rfl).1
        have HR6 := hide hr6
        have HS6 := hide hs6
        have HX6 := hide hbx6
        have HM6 := hide hm6
        have HK6 := hide hk6
        have HOFF := hide hoff
        have HE := hide hE
        have HV := hide hv
        have HNL := hide (show n' ≤ b.length by
          have h2 := pR_len kind (j + 1) b
          rw [pR_succ] at h2
          omega)
        clear hr6 hs6 hbx6 hm6 hk6 hoff hE hv hrow hrow5 hlo hbx hs hn' hkp hb5 hb6 z0 z1 z2 hA HCL
        go_wp2
        go_roundw
        case rel =>
          have hk3 : Kept (fun k => k = R) (w5.alloc (.cells #[.int .i64 vk, .int .i64 vi, .string vs] 41)) ((((w5.alloc (.cells #[.int .i64 vk, .int .i64 vi, .string vs] 41)).setCell ⟨R, j * 3, none⟩ (.int .i64 vk)).setCell ⟨R, j * 3 + 1, none⟩ (.int .i64 vi)).setCell ⟨R, j * 3 + 2, none⟩ (.string vs)) :=
            Kept.setCell (F := fun k => k = R) (p := ⟨R, j * 3 + 2, none⟩) (Kept.setCell (F := fun k => k = R) (p := ⟨R, j * 3 + 1, none⟩) (Kept.setCell (F := fun k => k = R) (p := ⟨R, j * 3, none⟩) (Kept.refl _ _) (.inl rfl) _) (.inl rfl) _) (.inl rfl) _
          have hrb := ((((HR6.out.stored (j * 3) (.int .i64 vk)).1.stored (j * 3 + 1) (.int .i64 vi)).1).stored (j * 3 + 2) (.string vs)).1
          refine ⟨j + 1, hjl, by go_num, hide ⟨HB6.out.trans (hk3.below HB6.out.size (by rintro k rfl; exact hlow)), ⟨a', n', c', (hk3.block _ (lt_of_block HX6.out) (fun e => hRB e.symm)).trans HX6.out, ?_, HNL.out⟩, (hk3.block _ (lt_of_block HM6.out) (fun e => hRm e.symm)).trans HM6.out, (hk3.block _ (lt_of_block HK6.out) (fun e => hRk e.symm)).trans HK6.out, ?_, ?_⟩⟩
          · rw [pR_succ]
            exact HS6.out.kept0 hk3 HOFF.out
          · unfold OwnV
            rw [← pF_set hjl HV.out, cellsV_set _ _ _ (by rw [pF_length hj]; exact hjl), List.length_set, pF_length hj]
            exact hrb
          · rw [pE_succ kind j b HO.out.ok]
            exact HE.out
        case measure => simp [intOf]; omega
      · have hEi : ((E : Nat) : Int) ≠ 0 := by omega
        obtain ⟨e, he⟩ : ∃ e : Int, ((E : Nat) : Int) = e := ⟨_, rfl⟩
        rw [he] at hEi ⊢
        have HP : Hid (Z.cE b (N : Int) kind = e) := by
          show _ = _
          have h1 := pE_stop HO.out.ok hjl (by rw [hE]; exact hE0)
          rw [cE_bad HK.out hN (by rw [h1, hE]; exact hE0), h1, hE, he]
        have HEI := hide hEi
        clear hE hv hleft hkp hb5 hb6 hE0 he HCL
        go_wp2
        go_ret2
        exact ColOf.no HP.out HEI.out HB6.out
    · obtain rfl : j = N := by omega
      obtain ⟨a, n, c, hbx, hs, hn⟩ := HO.out.left
      have hnl : (Z.pR kind j b).length = n := by rw [← hs.1, ints_length]
      obtain ⟨c0, _⟩ := cell_of_heap hbx
      have hnm : n ≤ 140737488355328 := by rw [HL.out] at hn; omega
      have HROW : Hid (OwnV wr w.heap.size (.slice (some ⟨R, 0, none⟩) j j) (Z.pL kind j b)) := by
        have h1 := HO.out.row
        unfold Z.pF at h1
        rw [Nat.sub_self, List.replicate_zero, List.append_nil] at h1
        exact h1
      by_cases h0 : n = 0
      · subst h0
        have HP : Hid (Z.cE b (j : Int) kind = 0) := cE_ok HK.out hN HO.out.ok (List.eq_nil_of_length_eq_zero hnl)
        have HLOW := hide HO.out.low
        clear HO hs hbx hn hnl
        go_wp2
        go_ret2
        exact ColOf.yes HP.out HROW.out HLOW.out
      · have HP : Hid (Z.cE b (j : Int) kind = 4) := cE_behind HK.out hN HO.out.ok (fun e => by rw [e] at hnl; exact h0 hnl.symm)
        have HLOW := hide HO.out.low
        have hpos : 0 < n := by omega
        clear HO hs hbx hn hnl
        go_wp2
        go_ret2
        exact ColOf.no HP.out (by decide) HLOW.out
theorem pof_any (ao : Option Addr) (len cap : Nat) (b : List Nat) (n kind : Int) (w : World) (h : Sl w .u8 ao len cap (ints b)) (h256 : ∀ x ∈ b, x < 256) (hm : len ≤ 140737488355328) :
    Calls Try.prog 12 #[.slice ao len cap, .int .i64 n, .int .i64 kind] w (ColOf b n kind w) := by
  cases hk : Z.kindOk kind with
  | false =>
    have HK := hide hk
    have hbel : Below w.heap.size w ((w.alloc (.cells #[.slice ao len cap] 23)).alloc (.cells #[.int .i64 kind] 3)) := ((Below.refl _ _).alloc (Nat.le_refl _) _).alloc (by simp) _
    have HB := hide hbel
    have q1 := heap_alloc_new (w.alloc (.cells #[.slice ao len cap] 23)) (.cells #[.int .i64 kind] 3)
    obtain ⟨c1, _⟩ := cell_of_heap q1
    simp only [World.size_alloc] at c1
    clear hbel hk h h256 q1
    go_enter Try.func12, Try.ntmps12
    go_wp2_with fail
    refine (iscol_any _ _).mono ?_
    rintro e w2 ⟨rfl, rfl⟩
    rw [HK.out]
    go_wp2
    go_ret2
    exact ColOf.no (cE_kind HK.out) (by decide) HB.out
  | true =>
    by_cases hn : n < 0 ∨ 4096 < n
    · have HK := hide hk
      have HN := hide hn
      have hbel : Below w.heap.size w ((w.alloc (.cells #[.slice ao len cap] 23)).alloc (.cells #[.int .i64 kind] 3)) := ((Below.refl _ _).alloc (Nat.le_refl _) _).alloc (by simp) _
      have HB := hide hbel
      have q1 := heap_alloc_new (w.alloc (.cells #[.slice ao len cap] 23)) (.cells #[.int .i64 kind] 3)
      obtain ⟨c1, _⟩ := cell_of_heap q1
      simp only [World.size_alloc] at c1
      clear hbel hk h h256 q1
      rcases hn with hn | hn
      · have hd1 : decide (n < 0) = true := by simpa using hn
        go_enter Try.func12, Try.ntmps12
        go_wp2_with fail
        refine (iscol_any _ _).mono ?_
        rintro e w2 ⟨rfl, rfl⟩
        rw [HK.out]
        go_wp2
        go_ret2
        exact ColOf.no (cE_many HK.out HN.out) (by decide) HB.out
      · have hd1 : decide (n < 0) = false := by simp; omega
        have hd2 : decide (4096 < n) = true := by simpa using hn
        go_enter Try.func12, Try.ntmps12
        go_wp2_with fail
        refine (iscol_any _ _).mono ?_
        rintro e w2 ⟨rfl, rfl⟩
        rw [HK.out]
        go_wp2
        go_ret2
        exact ColOf.no (cE_many HK.out HN.out) (by decide) HB.out
    · obtain ⟨N, rfl⟩ : ∃ N : Nat, n = (N : Int) := ⟨n.toNat, by omega⟩
      exact pof_some ao len cap b N kind w h h256 hm (by omega) hk
end Go.Proofs.Ythcnfbjljkighaa
/- The document's answer for null: Same of bools, Same of values, Count. -/
namespace Go.Proofs.Ythcnfbjljkighaa
set_option linter.unusedVariables false
open Go.RowKit

theorem vsame_none (ao bo : Option Addr) (ca cb : Nat) (w : World) :
    Calls Try.prog 16 #[.slice ao 0 ca, .slice bo 0 cb] w fun e w' => e = .returned (.bool true) ∧ Below w.heap.size w w' := by
  go_enter Try.func16, Try.ntmps16
  go_wp2_with fail
  go_rounds 1
  go_ret
  exact ⟨rfl, Below.refl _ _⟩
set_option maxHeartbeats 1000000 in
theorem vsame_some (b1 o1 b2 o2 len ca cb : Nat) (l : List Z.V) (w : World) (hl : l.length = len) (hm : len ≤ 140737488355328) (h1 : b1 < w.heap.size) (h2 : b2 < w.heap.size)
    (hc1 : ∀ j x, l[j]? = some x → w.cell? ⟨b1, o1 + j * 3, none⟩ = some (.int .i64 x.k) ∧ w.cell? ⟨b1, o1 + j * 3 + 1, none⟩ = some (.int .i64 x.i) ∧ w.cell? ⟨b1, o1 + j * 3 + 2, none⟩ = some (.string x.s))
    (hc2 : ∀ j x, l[j]? = some x → w.cell? ⟨b2, o2 + j * 3, none⟩ = some (.int .i64 x.k) ∧ w.cell? ⟨b2, o2 + j * 3 + 1, none⟩ = some (.int .i64 x.i) ∧ w.cell? ⟨b2, o2 + j * 3 + 2, none⟩ = some (.string x.s)) :
    Calls Try.prog 16 #[.slice (some ⟨b1, o1, none⟩) len ca, .slice (some ⟨b2, o2, none⟩) len cb] w fun e w' => e = .returned (.bool true) ∧ Below w.heap.size w w' := by
  have hb : ((len : Int) != (len : Int)) = false := by simp
  have HC1 := hide hc1
  have HC2 := hide hc2
  have HL := hide hl
  clear hc1 hc2 hl
  go_enter Try.func16, Try.ntmps16
  go_wp2_with fail
  go_loopw [5] (fun i wr => ∃ k : Nat, k ≤ len ∧ i = .int .i64 k ∧ Hid (Below w.heap.size w wr)) (fun i _ => len - (intOf i).toNat)
  case atStart => exact ⟨0, Nat.zero_le _, rfl, hide (Below.refl _ _)⟩
  case round =>
    obtain ⟨k, hk, rfl, hkr⟩ := hrel
    by_cases hlt : k < len
    · obtain ⟨⟨xk, xi, xs⟩, hx⟩ : ∃ x, l[k]? = some x := ⟨l[k]'(by rw [HL.out]; exact hlt), List.getElem?_eq_getElem _⟩
      obtain ⟨c1, c2, c3⟩ := HC1.out k _ hx
      obtain ⟨d1, d2, d3⟩ := HC2.out k _ hx
      have e1 : wr.cell? ⟨b1, o1 + k * 3, none⟩ = some (.int .i64 xk) := by rw [hkr.out.cell (p := ⟨b1, o1 + k * 3, none⟩) h1]; exact c1
      have e2 : wr.cell? ⟨b1, o1 + k * 3 + 1, none⟩ = some (.int .i64 xi) := by rw [hkr.out.cell (p := ⟨b1, o1 + k * 3 + 1, none⟩) h1]; exact c2
      have e3 : wr.cell? ⟨b1, o1 + k * 3 + 2, none⟩ = some (.string xs) := by rw [hkr.out.cell (p := ⟨b1, o1 + k * 3 + 2, none⟩) h1]; exact c3
      have g1 : wr.cell? ⟨b2, o2 + k * 3, none⟩ = some (.int .i64 xk) := by rw [hkr.out.cell (p := ⟨b2, o2 + k * 3, none⟩) h2]; exact d1
      have g2 : wr.cell? ⟨b2, o2 + k * 3 + 1, none⟩ = some (.int .i64 xi) := by rw [hkr.out.cell (p := ⟨b2, o2 + k * 3 + 1, none⟩) h2]; exact d2
      have g3 : wr.cell? ⟨b2, o2 + k * 3 + 2, none⟩ = some (.string xs) := by rw [hkr.out.cell (p := ⟨b2, o2 + k * 3 + 2, none⟩) h2]; exact d3
      have hq : ∀ w : World, (binOp .neq 41 (.agg #[.int .i64 xk, .int .i64 xi, .string xs]) (.agg #[.int .i64 xk, .int .i64 xi, .string xs])).run Try.prog w = .ok (.bool false) w := fun w => by rw [vne_run, Z.same_self]; rfl
      clear c1 c2 c3 d1 d2 d3 hx
      go_wp2
      go_region
      all_goals go_wp2
      all_goals
        go_roundw
        case rel => exact ⟨k + 1, by omega, by go_num, hide hkr.out.drew⟩
        case measure => simp [intOf]; omega
    · go_wp2
      go_ret
      exact ⟨rfl, hkr.out⟩
/-- The reference's Same, of two lists of values that are the same. -/
theorem vsame_yes (ao bo : Option Addr) (len ca cb : Nat) (l : List Z.V) (w : World) (h1 : SlV w ao len ca l) (h2 : SlV w bo len cb l) (hm : len ≤ 140737488355328) :
    Calls Try.prog 16 #[.slice ao len ca, .slice bo len cb] w fun e w' => e = .returned (.bool true) ∧ Below w.heap.size w w' := by
  by_cases h0 : len = 0
  · subst h0; exact vsame_none ao bo ca cb w
  · rcases h1.2.2.2.2 with h | ⟨b1, o1, rfl, hb1, hc1⟩
    · omega
    · rcases h2.2.2.2.2 with h | ⟨b2, o2, rfl, hb2, hc2⟩
      · omega
      · exact vsame_some b1 o1 b2 o2 len ca cb l w h1.1 hm hb1 hb2 hc1 hc2

theorem cntT_le (bs : List Bool) (k : Nat) : cntT (bs.take k) ≤ k := by
  unfold cntT
  exact Nat.le_trans List.count_le_length (by rw [List.length_take]; omega)
end Go.Proofs.Ythcnfbjljkighaa
/- The document's answer for null: Split. -/
namespace Go.Proofs.Ythcnfbjljkighaa
set_option linter.unusedVariables false
open Go.RowKit

/-- One value, in new memory. -/
theorem slV_one (w : World) (k i : Int) (s : ByteArray) : SlV (w.alloc (.cells #[.int .i64 k, .int .i64 i, .string s] 41)) (some ⟨w.heap.size, 0, none⟩) 1 1 [⟨k, i, s⟩] := by
  refine ⟨rfl, Nat.le_refl _, by decide, by simp, .inr ⟨w.heap.size, 0, rfl, by simp, fun j x hx => ?_⟩⟩
  match j, hx with
  | 0, hx => simp at hx; subst hx; simp
/-- A row stays, whatever is appended to a row of another kind. -/
theorem keep_kind {w w' : World} {B B' s s' n n' : Nat} {e e' : TypeId} {v u : Value} {xs ys : List Value} (h : w.ownsRow B e s v n xs) (hu : w.ownsRow B' e' s' u n' ys) (hne : e ≠ e') (hk : Kept (fun k => u.ownBlock = some k) w w') : w'.ownsRow B e s v n xs :=
  owns_of_block h fun g hg => hk.block g (owns_lt h hg).2 (fun e => owns_ne h hu hne hg e)
theorem nus_snoc {l : List Z.V} {j : Nat} {x : Z.V} (h : l[j]? = some x) : nus (l.take (j + 1)) = nus (l.take j) ++ [x.k == 0] := by
  rw [take_snocV h]; simp [nus]
theorem oth_yes {l : List Z.V} {j : Nat} {x : Z.V} (h : l[j]? = some x) (hk : (x.k == 0) = true) : oth (l.take (j + 1)) = oth (l.take j) := by
  rw [take_snocV h]; simp [oth, hk]
theorem oth_no {l : List Z.V} {j : Nat} {x : Z.V} (h : l[j]? = some x) (hk : (x.k == 0) = false) : oth (l.take (j + 1)) = oth (l.take j) ++ [x] := by
  rw [take_snocV h]; simp [oth, hk]
theorem oth_le (l : List Z.V) (j : Nat) : (oth (l.take j)).length ≤ j := by
  unfold oth
  exact Nat.le_trans (List.length_filter_le _ _) (by rw [List.length_take]; omega)

end Go.Proofs.Ythcnfbjljkighaa
/- The document's Some, Of. -/
namespace Go.Proofs.Ythcnfbjljkighaa
set_option linter.unusedVariables false
open Go.RowKit

/-- What Some answers. -/
def SomeAns (b : List Nat) (N : Nat) (kind : Int) (w : World) (e : Ending) (w' : World) : Prop :=
  Below w.heap.size w w' ∧ ((Z.pE kind N b = 0 ∧ ∃ v a c, e = .returned (.tuple #[v, .slice a (Z.pR kind N b).length c, .int .i64 0]) ∧ OwnV w' w.heap.size v (Z.pL kind N b)) ∨
    (Z.pE kind N b ≠ 0 ∧ e = .returned (.tuple #[.slice none 0 0, .slice none 0 0, .int .i64 ((Z.pE kind N b : Nat) : Int)])))

set_option maxHeartbeats 2000000 in
theorem some_any (ao : Option Addr) (len cap : Nat) (b : List Nat) (N : Nat) (kind : Int) (w : World) (h : Sl w .u8 ao len cap (ints b)) (h256 : ∀ x ∈ b, x < 256) (hm : len ≤ 140737488355328) (hN : N ≤ 4096) :
    Calls Try.prog 24 #[.slice ao len cap, .int .i64 (N : Int), .int .i64 kind] w (SomeAns b N kind w) := by
  have hl : b.length = len := by rw [← h.1, ints_length]
  have HH := hide h
  have H256 := hide h256
  have HL := hide hl
  clear h h256 hl
  go_enter Try.func24, Try.ntmps24
  go_wp2_with fail
  go_loopw [0, 9, 10] (fun s v i wr => ∃ j n : Nat, ∃ a c, j ≤ N ∧ i = .int .i64 j ∧ s = .slice a n c ∧ Hid (Sl w .u8 a n c (ints (Z.pR kind j b))) ∧ Hid (OwnV wr w.heap.size v (Z.pL kind j b)) ∧ Hid (Z.pE kind j b = 0) ∧ n ≤ 140737488355328 ∧ Hid (Below w.heap.size w wr)) (fun _ _ i _ => N - (intOf i).toNat)
  case atStart => exact ⟨0, len, ao, cap, Nat.zero_le _, rfl, rfl, HH, hide (World.ownsRow_nil _ _ _ _), hide rfl, hm, hide (Below.refl _ _)⟩
  case round =>
    obtain ⟨j, n, a, c, hj, rfl, rfl, hs, hrow, hok, hn, hbw⟩ := hrel
    by_cases hjl : j < N
    · have HCL := hide (uofAt_any a n c (Z.pR kind j b) kind wr w hs.out (hs.out.below hbw.out) (pR_lt j b H256.out) hn)
      have HNN := hide (pL_length kind j b)
      go_wp2_with fail
      refine HCL.out.mono ?_
      rintro e w1 ⟨ra, rc, rfl, hs1, hb1⟩
      obtain ⟨E, hE⟩ : ∃ E : Nat, Z.oE (Z.pR kind j b) kind = E := ⟨_, rfl⟩
      obtain ⟨⟨vk, vi, vs⟩, hv⟩ : ∃ x, Z.oV (Z.pR kind j b) kind = x := ⟨_, rfl⟩
      obtain ⟨m, hmm⟩ : ∃ m, (Z.oR (Z.pR kind j b) kind).length = m := ⟨_, rfl⟩
      rw [hE, hv, hmm, show (Z.V.v ⟨vk, vi, vs⟩) = .agg #[.int .i64 vk, .int .i64 vi, .string vs] from rfl]
      rw [hmm] at hs1
      have hb2 := bthen (bthen hbw.out hb1) (below_one w1 (.cells #[.int .i64 vk, .int .i64 vi, .string vs] 41))
      have HB2 := hide hb2
      by_cases hE0 : E = 0
      · subst hE0
        obtain ⟨v0, v1, v2⟩ := (At.new w1 vk vi vs).cells
        have hrow2 : OwnV (w1.alloc (.cells #[.int .i64 vk, .int .i64 vi, .string vs] 41)) w.heap.size u9 (Z.pL kind j b) := World.ownsRow.alloc (OwnV.below hrow.out hb1) _
        have hml : m ≤ 140737488355328 := by
          have h2 := pR_len kind (j + 1) b
          rw [pR_succ, hmm, HL.out] at h2
          omega
        have HR2 := hide hrow2
        have HE := hide hE
        have HV := hide hv
        have hsz2 := hb2.size
        have hone : SlV ((w1.alloc (.cells #[.int .i64 vk, .int .i64 vi, .string vs] 41)).alloc (.cells #[.int .i64 vk, .int .i64 vi, .string vs] 41)) (some ⟨w1.heap.size + 1, 0, none⟩) 1 1 [⟨vk, vi, vs⟩] := by
          have := slV_one (w1.alloc (.cells #[.int .i64 vk, .int .i64 vi, .string vs] 41)) vk vi vs
          simpa only [World.size_alloc] using this
        have hrow3 : OwnV ((w1.alloc (.cells #[.int .i64 vk, .int .i64 vi, .string vs] 41)).alloc (.cells #[.int .i64 vk, .int .i64 vi, .string vs] 41)) w.heap.size u9 (Z.pL kind j b) := World.ownsRow.alloc hrow2 _
        have hb3 := bthen hb2 (below_one (w1.alloc (.cells #[.int .i64 vk, .int .i64 vi, .string vs] 41)) (.cells #[.int .i64 vk, .int .i64 vi, .string vs] 41))
        have H1 := hide hone
        have H2 := hide hrow3
        have H3 := hide hs1
        have H4 := hide hb3
        have hsz3 := hb3.size
        clear hone hrow3 hb3 hrow2 hE hv hmm hb2 hb1 hs1 HCL
        go_wp2_with (at_builtin; refine wpList_appV rfl _ _ rfl w.heap.size u9 (Z.pL kind j b) rfl H2.out (some ⟨w1.heap.size + 1, 0, none⟩) 1 1 [⟨vk, vi, vs⟩] rfl H1.out (by rw [HNN.out]; omega) hsz3 ?_)
        intro v5 w4 ho4 has _
        have hb4 : Below w.heap.size w w4 := H4.out.trans (has.below hsz3 (fun k hk => (owns_lt H2.out hk).1))
        have hs4 : Sl w .u8 ra m rc (ints (Z.pR kind (j + 1) b)) := by
          rw [pR_succ]
          exact H3.out
        have ho5 : OwnV w4 w.heap.size v5 (Z.pL kind (j + 1) b) := by
          rw [pL_succ, HV.out]
          exact ho4
        have HO5 := hide ho5
        have HS4 := hide hs4
        have HB4 := hide hb4
        have HOK : Hid (Z.pE kind (j + 1) b = 0) := by show _ = _; rw [pE_succ kind j b hok.out]; exact HE.out
        clear ho4 has hb4 hs4 ho5
        go_wp2
        go_roundw
        case rel => exact ⟨j + 1, m, ra, rc, hjl, by go_num, rfl, HS4, HO5, HOK, hml, HB4⟩
        case measure => simp [intOf]; omega
      · have hEi : ((E : Nat) : Int) ≠ 0 := by omega
        obtain ⟨e, he⟩ : ∃ e : Int, ((E : Nat) : Int) = e := ⟨_, rfl⟩
        rw [he] at hEi ⊢
        have HP : Hid (Z.pE kind N b = E) := by
          show _ = _
          rw [pE_stop hok.out hjl (by rw [hE]; exact hE0), hE]
        have HEI := hide hE0
        have HEE := hide he
        clear hE hv hmm hb2 hb1 hs1 hE0 he HCL
        go_wp2
        go_ret3
        exact ⟨HB2.out, .inr ⟨by rw [HP.out]; exact HEI.out, by rw [HP.out, HEE.out]; rfl⟩⟩
    · obtain rfl : j = N := by omega
      have HN2 : Hid ((Z.pR kind j b).length = n) := by show _ = _; rw [← hs.out.1, ints_length]
      go_wp2
      go_ret3
      exact ⟨hbw.out, .inl ⟨hok.out, u9, a, c, by rw [HN2.out]; rfl, hrow.out⟩⟩
end Go.Proofs.Ythcnfbjljkighaa

/- Plain facts: a column laid down as words and codes is read; what is read is laid down as the very bytes. Nothing of the program. -/
import Derived.Test.YtmhfpipeoojacaaBdV
import Derived.Test.YtmhfpipeoojacaaBdDictBackD
import Derived.Test.YtmhfpipeoojacaaBdL
import Derived.Test.YtmhfpipeoojacaaBdC
import Derived.Test.YtmhfpipeoojacaaBdZA
import Derived.Test.YtmhfpipeoojacaaBdZC
import Derived.Maps.OwnOps
import Derived.Maps.OwnSet
import Derived.Maps.RangeWalk
namespace Go.Proofs.Ytmhfpipeoojacaa
set_option linter.unusedVariables false
open Go.RowKit

theorem nums_nat (r : List Nat) (n k : Nat) : ints ((nums r n k).map Int.toNat) = nums r n k := by
  unfold ints nums
  rw [List.map_map, List.map_map]
  apply List.map_congr_left
  intro i _
  simp
theorem dC_length (kind : Int) (n : Nat) (b : List Nat) : (Z.dC kind n b).length = n := by unfold Z.dC; rw [List.length_map, nums_length]
theorem dW_length (kind : Int) (b : List Nat) : (Z.dW kind b).length = E.gN b := pL_length _ _ _
theorem dV_length (ws : List Z.V) (c : List Nat) : (Z.dV ws c).length = c.length := by simp [Z.dV]
/-- What is read is laid down as the very bytes. -/
theorem d_two {kind : Int} (hk : kind = 1 ∨ kind = 2 ∨ kind = 3) {n : Nat} (hn : n ≤ 4096) {b : List Nat} (h256 : ∀ x ∈ b, x < 256) (h : Z.DOk kind n b) :
    (Z.dV (Z.dW kind b) (Z.dC kind n b)).length = n ∧ Z.chk (Z.dV (Z.dW kind b) (Z.dC kind n b)) kind = 0 ∧ Z.db (Z.dV (Z.dW kind b) (Z.dC kind n b)) = b := by
  have hd : ∀ x ∈ b.drop (E.gK b), x < 256 := fun x hx => h256 x (List.mem_of_mem_drop hx)
  obtain ⟨p1, p2⟩ := p_two hk (E.gN b) (b.drop (E.gK b)) hd h.vals
  obtain ⟨c1, c2⟩ := cdOk_iff.1 h.code
  obtain ⟨w1, w2⟩ := code_words h.rise (c := Z.dC kind n b) (by rw [dW_length]; exact c1) (by rw [dW_length]; exact c2)
  have hl : (Z.dV (Z.dW kind b) (Z.dC kind n b)).length = n := by rw [dV_length, dC_length]
  have hm : ∀ x ∈ Z.dV (Z.dW kind b) (Z.dC kind n b), x ∈ Z.dW kind b := fun x hx => by
    obtain ⟨j, hj, rfl⟩ := List.mem_map.1 hx
    exact List.mem_of_getElem? (get_lt (by rw [dW_length]; exact c1 j hj))
  refine ⟨hl, chk_of hk (by rw [hl]; exact hn) (fun x hx => (p1 x (hm x hx)).1) (fun x hx => (p1 x (hm x hx)).2), ?_⟩
  unfold Z.db
  rw [w1, w2, dW_length]
  have e1 : bitsAll (ints (Z.dC kind n b)) (Z.dwd (E.gN b)) = bitsAll (nums (Z.dR kind b) n (Z.dwd (E.gN b))) (Z.dwd (E.gN b)) := by
    unfold Z.dC
    rw [nums_nat]
  have hr : ∀ x ∈ Z.dR kind b, x < 256 := pR_lt _ _ hd
  rw [e1, bytes_nums _ _ _ hr h.bits]
  have e2 : Z.pb (Z.dW kind b) ++ Z.dR kind b = b.drop (E.gK b) := p2
  rw [e2, E.g_ones h.num h256, List.take_append_drop]
theorem kind_i64 {kind : Int} (h : kind = 1 ∨ kind = 2 ∨ kind = 3) : Z.I64 kind := by unfold Z.I64; omega
/-- What was laid down is read. -/
theorem d_back {l : List Z.V} {kind : Int} (hI : ∀ x ∈ l, Z.I64 x.i) (h : Z.chk l kind = 0) :
    Z.DOk kind l.length (Z.db l) ∧ Z.dV (Z.dW kind (Z.db l)) (Z.dC kind l.length (Z.db l)) = l := by
  obtain ⟨hk, hn, h1, h2⟩ := chk_zero h
  have hwl := wds_len l
  have hfit : ∀ x ∈ Z.wds l, Z.Fit kind x := fun x hx => by
    have hm := words_mem (words_of l) hx
    exact ⟨h1 x hm, h2 x hm, hI x hm⟩
  obtain ⟨c1, c2⟩ := cdOk_iff.1 (codes_ok l)
  obtain ⟨C, hC⟩ : ∃ C, Z.cdL (Z.wds l) l = C := ⟨_, rfl⟩
  obtain ⟨m, hm⟩ : ∃ m, (Z.wds l).length = m := ⟨_, rfl⟩
  have hCl : C.length = l.length := by rw [← hC, cdL_ok (words_cdE l), List.length_map]
  have hb := codes_back (l := l) fun x hx y hy e => Z.cv_may (a := x) (b := y) ⟨by rw [h1 x hx]; exact kind_i64 hk, hI x hx⟩ ⟨by rw [h1 y hy]; exact kind_i64 hk, hI y hy⟩ (h2 x hx) (h2 y hy) e
  have hok := codes_ok l
  rw [hC, hm] at c1 c2 hok
  rw [hC] at hb
  have hd : Z.db l = E.leb m ++ (Z.pb (Z.wds l) ++ A.bytesOf (bitsAll (ints C) (Z.dwd m))) := by unfold Z.db; rw [hC, hm]
  obtain ⟨g1, g2, g3⟩ := E.g_put m (by omega) (Z.pb (Z.wds l) ++ A.bytesOf (bitsAll (ints C) (Z.dwd m)))
  rw [← hd] at g1 g2 g3
  have hdrop : (Z.db l).drop (E.gK (Z.db l)) = Z.pb (Z.wds l) ++ A.bytesOf (bitsAll (ints C) (Z.dwd m)) := by rw [g2, hd, List.drop_left]
  obtain ⟨q1, q2, q3⟩ := p_back kind (A.bytesOf (bitsAll (ints C) (Z.dwd m))) (Z.wds l) hfit
  rw [hm] at q1 q2 q3
  have hW : Z.dW kind (Z.db l) = Z.wds l := by unfold Z.dW; rw [hdrop, g3]; exact q2
  have hR : Z.dR kind (Z.db l) = A.bytesOf (bitsAll (ints C) (Z.dwd m)) := by unfold Z.dR; rw [hdrop, g3]; exact q3
  have hin : In64 (ints C) := cI_in (m := m) (by omega) c1
  have hft : Fit (ints C) (Z.dwd m) := cI_fit c1
  have hCC : Z.dC kind l.length (Z.db l) = C := by
    unfold Z.dC
    rw [hR, g3, ← hCl]
    have := nums_pack (ints C) (Z.dwd m) hin hft
    rw [ints_length] at this
    rw [this]
    simp [ints, List.map_map, Function.comp_def]
  refine ⟨⟨g1, by rw [g3]; omega, by rw [hdrop, g3]; exact q1, by rw [hW]; exact wds_rise l, ?_, by rw [g3, hCC]; exact hok⟩, by rw [hW, hCC]; exact hb⟩
  rw [hR, g3]
  have := jb_bytes (bitsAll (ints C) (Z.dwd m))
  rw [bitsAll_length, ints_length, hCl] at this
  exact this
/-- What ToCodes tells: the error, the words, the codes; what Of tells. -/
def Z.dE (b : List Nat) (n kind : Int) : Int := if Z.kindOk kind = false then 1 else if n < 0 ∨ 4096 < n then 2 else ((Z.dN kind n.toNat b : Nat) : Int)
def Z.dWs (b : List Nat) (n kind : Int) : List Z.V := if Z.dE b n kind = 0 then Z.dW kind b else []
def Z.dCs (b : List Nat) (n kind : Int) : List Nat := if Z.dE b n kind = 0 then Z.dC kind n.toNat b else []
def Z.dVs (b : List Nat) (n kind : Int) : List Z.V := Z.dV (Z.dWs b n kind) (Z.dCs b n kind)
theorem dE_kind {b : List Nat} {n kind : Int} (h : Z.kindOk kind = false) : Z.dE b n kind = 1 := by unfold Z.dE; rw [if_pos h]
theorem dE_many {b : List Nat} {n kind : Int} (h : Z.kindOk kind = true) (h1 : n < 0 ∨ 4096 < n) : Z.dE b n kind = 2 := by unfold Z.dE; rw [h, if_neg (by decide), if_pos h1]
theorem dE_is {b : List Nat} {N : Nat} {kind : Int} (h : Z.kindOk kind = true) (hN : N ≤ 4096) : Z.dE b (N : Int) kind = ((Z.dN kind N b : Nat) : Int) := by
  unfold Z.dE
  rw [h, if_neg (by decide), if_neg (by omega), Int.toNat_natCast]
theorem dE_zero {b : List Nat} {n kind : Int} (h : Z.dE b n kind = 0) : Z.kindOk kind = true ∧ 0 ≤ n ∧ n ≤ 4096 ∧ Z.DOk kind n.toNat b := by
  unfold Z.dE at h
  split at h
  · exact absurd h (by decide)
  · rename_i h1
    split at h
    · exact absurd h (by decide)
    · rename_i h2
      exact ⟨by simpa using h1, by omega, by omega, dN_zero (by omega)⟩
theorem dWs_bad {b : List Nat} {n kind : Int} (h : Z.dE b n kind ≠ 0) : Z.dWs b n kind = [] ∧ Z.dCs b n kind = [] ∧ Z.dVs b n kind = [] := by
  have e1 : Z.dWs b n kind = [] := by unfold Z.dWs; rw [if_neg h]
  have e2 : Z.dCs b n kind = [] := by unfold Z.dCs; rw [if_neg h]
  exact ⟨e1, e2, by unfold Z.dVs; rw [e1, e2]; rfl⟩
end Go.Proofs.Ytmhfpipeoojacaa
/- dict.toWords: the words that bytes begin with, and what stands behind them. Conditions: at most 4096 words, fewer than 2^47 bytes. -/
namespace Go.Proofs.Ytmhfpipeoojacaa
set_option linter.unusedVariables false
set_option maxRecDepth 10000
open Go.RowKit
/-- What is wrong with the words. -/
def Z.dX (kind : Int) (n : Nat) (b : List Nat) : Nat :=
  if E.gE b ≠ 0 then E.gE b else if n < E.gN b then 4 else if Z.pE kind (E.gN b) (b.drop (E.gK b)) ≠ 0 then Z.pE kind (E.gN b) (b.drop (E.gK b)) else if Z.risB (Z.dW kind b) = false then 4 else 0
theorem dN_words {kind : Int} {n : Nat} {b : List Nat} (h : Z.dX kind n b ≠ 0) : Z.dN kind n b = Z.dX kind n b := by
  unfold Z.dX at h ⊢
  unfold Z.dN
  repeat' split
  all_goals first | rfl | simp_all
theorem dN_codes {kind : Int} {n : Nat} {b : List Nat} (h : Z.dX kind n b = 0) : Z.dN kind n b = if jb (Z.dR kind b) (n * Z.dwd (E.gN b)) ≠ 0 then jb (Z.dR kind b) (n * Z.dwd (E.gN b)) else if Z.cdOk (E.gN b) (Z.dC kind n b) = false then 4 else 0 := by
  unfold Z.dX at h
  unfold Z.dN
  split at h
  · omega
  · split at h
    · omega
    · split at h
      · omega
      · split at h
        · omega
        · rename_i h1 h2 h3 h4
          rw [if_neg h1, if_neg h2, if_neg h3, if_neg h4]
theorem dX_num {kind : Int} {n : Nat} {b : List Nat} (h : E.gE b ≠ 0) : Z.dX kind n b = E.gE b := by unfold Z.dX; rw [if_pos h]
theorem dX_many {kind : Int} {n : Nat} {b : List Nat} (h : E.gE b = 0) (h1 : n < E.gN b) : Z.dX kind n b = 4 := by unfold Z.dX; rw [if_neg (by omega), if_pos h1]
theorem dX_val {kind : Int} {n : Nat} {b : List Nat} (h : E.gE b = 0) (h1 : E.gN b ≤ n) (h2 : Z.pE kind (E.gN b) (b.drop (E.gK b)) ≠ 0) : Z.dX kind n b = Z.pE kind (E.gN b) (b.drop (E.gK b)) := by
  unfold Z.dX; rw [if_neg (by omega), if_neg (by omega), if_pos h2]
theorem dX_rise {kind : Int} {n : Nat} {b : List Nat} (h : E.gE b = 0) (h1 : E.gN b ≤ n) (h2 : Z.pE kind (E.gN b) (b.drop (E.gK b)) = 0) (h3 : Z.risB (Z.dW kind b) = false) : Z.dX kind n b = 4 := by
  unfold Z.dX; rw [if_neg (by omega), if_neg (by omega), if_neg (by omega), if_pos h3]
theorem dX_ok {kind : Int} {n : Nat} {b : List Nat} (h : E.gE b = 0) (h1 : E.gN b ≤ n) (h2 : Z.pE kind (E.gN b) (b.drop (E.gK b)) = 0) (h3 : Z.risB (Z.dW kind b) = true) : Z.dX kind n b = 0 := by
  unfold Z.dX; rw [if_neg (by omega), if_neg (by omega), if_neg (by omega), if_neg (by rw [h3]; decide)]
theorem dX_zero {kind : Int} {n : Nat} {b : List Nat} (h : Z.dX kind n b = 0) : E.gN b ≤ n := by
  unfold Z.dX at h
  split at h
  · omega
  · split at h
    · omega
    · omega
def ToWordsAns (b : List Nat) (N : Nat) (kind : Int) (w : World) (e : Ending) (w' : World) : Prop :=
  Below w.heap.size w w' ∧ ((Z.dX kind N b ≠ 0 ∧ e = .returned (.tuple #[.slice none 0 0, .slice none 0 0, .int .i64 ((Z.dX kind N b : Nat) : Int)])) ∨
    (Z.dX kind N b = 0 ∧ ∃ v a c, e = .returned (.tuple #[v, .slice a (Z.dR kind b).length c, .int .i64 0]) ∧ OwnV w' w.heap.size v (Z.dW kind b) ∧ Sl w .u8 a (Z.dR kind b).length c (ints (Z.dR kind b))))
theorem ToWordsAns.no {b : List Nat} {N : Nat} {kind E : Int} {w w' : World} (h : ((Z.dX kind N b : Nat) : Int) = E) (h0 : E ≠ 0) (hb : Below w.heap.size w w') : ToWordsAns b N kind w (.returned (.tuple #[.slice none 0 0, .slice none 0 0, .int .i64 E])) w' :=
  ⟨hb, .inl ⟨by omega, by rw [h]⟩⟩
set_option maxHeartbeats 2000000 in
theorem towords_any (ao : Option Addr) (len cap : Nat) (b : List Nat) (N : Nat) (kind : Int) (w : World) (h : Sl w .u8 ao len cap (ints b)) (h256 : ∀ x ∈ b, x < 256) (hm : len ≤ 140737488355328) (hN : N ≤ 4096) (hk : kind = 1 ∨ kind = 2 ∨ kind = 3) :
    Calls Try.prog 57 #[.slice ao len cap, .int .i64 (N : Int), .int .i64 kind] w (ToWordsAns b N kind w) := by
  have hl : b.length = len := by rw [← h.1, ints_length]
  obtain ⟨i0, hi0, hz0, hz1, hz2⟩ := info_parts Try.infoVal
  have HS := hide h
  have H256 := hide h256
  have HL := hide hl
  have HK := hide hk
  have eN : IntKind.u64.wrap (N : Int) = (N : Int) := by rw [u64_wrap]; omega
  clear h h256 hl hk
  go_enter Try.func57, Try.ntmps57
  go_wp2_with fail
  refine (get_any _ _ _ b _ HS.out H256.out hm).mono ?_
  rintro e w1 ⟨rfl, hb1⟩
  have HB1 := hide hb1
  obtain ⟨X, hX⟩ : ∃ X : Nat, E.gE b = X := ⟨_, rfl⟩
  obtain ⟨K, hK⟩ : ∃ K : Nat, E.gK b = K := ⟨_, rfl⟩
  obtain ⟨M, hM⟩ : ∃ M : Nat, E.gN b = M := ⟨_, rfl⟩
  rw [hX, hK, hM]
  have HE := hide hX
  have HKK := hide hK
  have HM := hide hM
  clear hb1 hX hK hM
  by_cases hX0 : X = 0
  · subst hX0
    by_cases hbad : N < M
    · have HP : Hid (((Z.dX kind N b : Nat) : Int) = 4) := by show _ = _; rw [dX_many HE.out (by rw [HM.out]; exact hbad)]; rfl
      go_wp2
      go_ret3
      exact ToWordsAns.no HP.out (by decide) HB1.out
    · have hMN : M ≤ N := by omega
      have hKl : K ≤ len := by rw [← HKK.out, ← HL.out]; exact (E.gE_zero HE.out H256.out).1
      obtain ⟨qa, hq, hr1, hr2⟩ := rest_of HS.out hKl
      obtain ⟨bd, hbd⟩ : ∃ d, b.drop K = d := ⟨_, rfl⟩
      rw [hbd] at hq
      have HQ := hide hq
      have HBD := hide hbd
      have HD256 : Hid (∀ x ∈ bd, x < 256) := fun x hx => H256.out x (by rw [← HBD.out] at hx; exact List.mem_of_mem_drop hx)
      have hdl : bd.length ≤ len := by rw [← hbd, List.length_drop, HL.out]; omega
      have HDL := hide hdl
      clear hq hbd hdl
      go_wp2_with (at_make; refine wpList_make_full _ rfl _ _ 22 rfl w.heap.size 24 i0 _ 3 Try.underlying22 hi0 hz0 hz1 _ _ _ _ M rfl rfl rfl rfl (by rw [hz2]; omega) (by unfold maxLen; omega) HB1.out.size ?_)
      intro w4 ho hg
      have hb4 : Below w1.heap.size w1 w4 := (Below.refl _ _).grown hg (Nat.le_refl _) (by simp)
      have HB4 := hide (bthen HB1.out hb4)
      have hrow0 : OwnV w4 w.heap.size (.slice (some ⟨w1.heap.size, 0, none⟩) M M) (Z.pF kind bd M 0) := by
        unfold OwnV
        rw [pF_length (Nat.zero_le _)]
        unfold Z.pF
        rw [show Z.pL kind 0 bd = [] from rfl, List.nil_append, Nat.sub_zero, cellsV_replicate]
        exact ho
      obtain ⟨R, hR⟩ : ∃ R, w1.heap.size = R := ⟨_, rfl⟩
      have hRl : w.heap.size ≤ R := by rw [← hR]; exact HB1.out.size
      rw [hR] at hrow0 ⊢
      have HR0 := hide hrow0
      clear hrow0 ho hg hb4 hR hi0 hz0 hz1 hz2 hr1 hr2
      go_wp2_with fail
      go_loopw [0, 34] (fun s i wr => ∃ j n : Nat, ∃ a c, j ≤ M ∧ i = .int .i64 j ∧ s = .slice a n c ∧ n ≤ 140737488355328 ∧ Hid (Sl w .u8 a n c (ints (Z.pR kind j bd))) ∧ Hid (OwnV wr w.heap.size (.slice (some ⟨R, 0, none⟩) M M) (Z.pF kind bd M j)) ∧ Hid (Z.pE kind j bd = 0) ∧ Hid (Below w.heap.size w wr)) (fun _ i _ => M - (intOf i).toNat)
      case atStart => exact ⟨0, len - K, qa, cap - K, Nat.zero_le _, rfl, rfl, by omega, HQ, HR0, hide rfl, HB4⟩
      case round =>
        obtain ⟨j, n, a, c, hj, rfl, rfl, hn, hs, hrow, hok, hbw⟩ := hrel
        by_cases hjl : j < M
        · have HCL := hide (toword_any a n c (Z.pR kind j bd) kind wr w hs.out (hs.out.below hbw.out) (pR_lt j bd HD256.out) hn HK.out)
          go_wp2_with fail
          refine HCL.out.mono ?_
          rintro e w5 ⟨hb5, a', n', c', rfl, hrest⟩
          obtain ⟨Y, hE⟩ : ∃ Y : Nat, Z.oE (Z.pR kind j bd) kind = Y := ⟨_, rfl⟩
          obtain ⟨⟨vk, vi, vs⟩, hv⟩ : ∃ x, Z.oV (Z.pR kind j bd) kind = x := ⟨_, rfl⟩
          rw [hE, hv, show (Z.V.v ⟨vk, vi, vs⟩) = .agg #[.int .i64 vk, .int .i64 vi, .string vs] from rfl]
          rw [hE] at hrest
          have HB5 := hide (bthen hbw.out hb5)
          have hrow5 : OwnV w5 w.heap.size (.slice (some ⟨R, 0, none⟩) M M) (Z.pF kind bd M j) := hrow.out.below hb5
          have hr6 := hrow5
          unfold OwnV at hr6
          rw [pF_length hj] at hr6
          obtain ⟨z0, z1, z2⟩ := cellsV_get _ j _ (pF_at (kind := kind) (b := bd) hjl)
          have c0 := (hr6.cellAt (j * 3) (by omega)).trans z0
          have c1 := (hr6.cellAt (j * 3 + 1) (by omega)).trans z1
          have c2 := (hr6.cellAt (j * 3 + 2) (by omega)).trans z2
          have f0 := hr6.frozenAt (j * 3)
          have f1 := hr6.frozenAt (j * 3 + 1)
          have f2 := hr6.frozenAt (j * 3 + 2)
          have HR6 := hide hr6
          have HE' := hide hE
          have HV := hide hv
          have HREST := hide hrest
          clear hr6 hE hv hrow5 hrest hb5 z0 z1 z2 HCL hrow
          have hk3 : Kept (fun k => k = R) w5 (((w5.setCell ⟨R, j * 3, none⟩ (.int .i64 vk)).setCell ⟨R, j * 3 + 1, none⟩ (.int .i64 vi)).setCell ⟨R, j * 3 + 2, none⟩ (.string vs)) :=
            Kept.setCell (F := fun k => k = R) (p := ⟨R, j * 3 + 2, none⟩) (Kept.setCell (F := fun k => k = R) (p := ⟨R, j * 3 + 1, none⟩) (Kept.setCell (F := fun k => k = R) (p := ⟨R, j * 3, none⟩) (Kept.refl _ _) (.inl rfl) _) (.inl rfl) _) (.inl rfl) _
          have HB6 := hide (HB5.out.trans (hk3.below HB5.out.size (by rintro k rfl; exact hRl)))
          by_cases hE0 : Y = 0
          · subst hE0
            obtain ⟨hn', hs'⟩ := HREST.out rfl
            have HS' := hide hs'
            have hn5 : n' ≤ 140737488355328 := by
              have h2 := pR_len kind (j + 1) bd
              rw [pR_succ] at h2
              have := HDL.out
              omega
            clear hn' hs' HREST hk3
            go_wp2
            go_roundw
            case rel =>
              have hrb := ((((HR6.out.stored (j * 3) (.int .i64 vk)).1.stored (j * 3 + 1) (.int .i64 vi)).1).stored (j * 3 + 2) (.string vs)).1
              refine ⟨j + 1, n', a', c', hjl, by go_num, rfl, hn5, ?_, ?_, ?_, HB6⟩
              · rw [pR_succ]; exact HS'
              · show OwnV _ _ _ _
                unfold OwnV
                rw [← pF_set hjl HV.out, cellsV_set _ _ _ (by rw [pF_length hj]; exact hjl), List.length_set, pF_length hj]
                exact hrb
              · rw [pE_succ kind j bd hok.out]
                exact HE'
            case measure => simp [intOf]; omega
          · obtain ⟨y, hy⟩ : ∃ y : Int, ((Y : Nat) : Int) = y := ⟨_, rfl⟩
            have hy0 : y ≠ 0 := by omega
            have HY0 := hide hy0
            have hyb : (y != 0) = true := by simpa using hy0
            have HP : Hid (((Z.dX kind N b : Nat) : Int) = y) := by
              show _ = _
              have h1 := pE_stop hok.out hjl (by rw [HE'.out]; exact hE0)
              rw [HE'.out] at h1
              have h2 : Z.pE kind (E.gN b) (b.drop (E.gK b)) = Y := by rw [HM.out, HKK.out, HBD.out]; exact h1
              rw [dX_val HE.out (by rw [HM.out]; exact hMN) (by rw [h2]; exact hE0), h2, hy]
            rw [hy]
            clear hy hE0 HREST hk3 hy0
            go_wp2
            go_ret3
            exact ToWordsAns.no HP.out HY0.out HB6.out
        · obtain rfl : j = M := by omega
          have hpl : Z.pF kind bd j j = Z.dW kind b := by
            unfold Z.pF Z.dW
            rw [Nat.sub_self, List.replicate_zero, List.append_nil, HM.out, HKK.out, HBD.out]
          have hpr : Z.pR kind j bd = Z.dR kind b := by unfold Z.dR; rw [HM.out, HKK.out, HBD.out]
          have hpe : Z.pE kind (E.gN b) (b.drop (E.gK b)) = 0 := by rw [HM.out, HKK.out, HBD.out]; exact hok.out
          have hrow1 := hrow.out
          rw [hpl] at hrow1
          have hs1 := hs.out
          rw [hpr] at hs1
          have hnr : n = (Z.dR kind b).length := by rw [← hs1.1, ints_length]
          have hwl : (Z.dW kind b).length = j := by rw [← hpl, pF_length (Nat.le_refl _)]
          obtain ⟨ra, rc, hv, hsl, _⟩ := SlV.of_own hrow1
          rw [hwl] at hv hsl
          injection hv with hv1 _ hv3
          subst hv1 hv3
          have HRS := hide (drise_any _ _ _ _ wr hsl (by omega))
          have HROW := hide hrow1
          have HS1 := hide hs1
          have HPE := hide hpe
          have HNR := hide hnr
          clear hpl hpr hpe hrow1 hs1 hnr hwl hsl hrow hs hok
          go_wp2_with fail
          refine HRS.out.mono ?_
          rintro e w5 ⟨rfl, hb5⟩
          have HB5 := hide (bthen hbw.out hb5)
          have HROW5 := hide (HROW.out.below hb5)
          clear hb5 HRS HROW
          cases hr : Z.risB (Z.dW kind b) with
          | true =>
            have HP : Hid (Z.dX kind N b = 0) := dX_ok HE.out (by rw [HM.out]; exact hMN) HPE.out hr
            clear hr
            go_wp2
            go_ret3
            refine ⟨HB5.out, .inr ⟨HP.out, _, a, c, by rw [← HNR.out]; rfl, HROW5.out, by rw [← HNR.out]; exact HS1.out⟩⟩
          | false =>
            have HP : Hid (((Z.dX kind N b : Nat) : Int) = 4) := by show _ = _; rw [dX_rise HE.out (by rw [HM.out]; exact hMN) HPE.out hr]; rfl
            clear hr
            go_wp2
            go_ret3
            exact ToWordsAns.no HP.out (by decide) HB5.out
  · obtain ⟨y, hy⟩ : ∃ y : Int, ((X : Nat) : Int) = y := ⟨_, rfl⟩
    have hy0 : y ≠ 0 := by omega
    have HY0 := hide hy0
    have hyb : (y != 0) = true := by simpa using hy0
    have HP : Hid (((Z.dX kind N b : Nat) : Int) = y) := by show _ = _; rw [dX_num (by rw [HE.out]; exact hX0), HE.out]; exact hy
    rw [hy]
    clear hy hX0 hy0
    go_wp2
    go_ret3
    exact ToWordsAns.no HP.out HY0.out HB1.out
end Go.Proofs.Ytmhfpipeoojacaa
/- dict.width: the bits of the greatest place. Conditions: fewer than 2^47 words. -/
namespace Go.Proofs.Ytmhfpipeoojacaa
set_option linter.unusedVariables false
set_option maxRecDepth 10000
open Go.RowKit
theorem dwidth_none (ao : Option Addr) (cap : Nat) (w : World) : Calls Try.prog 28 #[.slice ao 0 cap] w fun e w' => e = .returned (.int .i64 0) ∧ w' = w := by
  go_enter Try.func28, Try.ntmps28
  go_wp2
  go_ret
  exact ⟨rfl, rfl⟩
theorem dwidth_some (ao : Option Addr) (n cap : Nat) (w : World) (hl : n + 1 ≤ 140737488355328) : Calls Try.prog 28 #[.slice ao (n + 1) cap] w fun e w' => e = .returned (.int .i64 (Z.dwd (n + 1) : Nat)) ∧ Below w.heap.size w w' := by
  obtain ⟨m, hm⟩ : ∃ m, n + 1 = m := ⟨_, rfl⟩
  rw [hm]
  have e0 : ((m : Int) == 0) = false := by simp; omega
  have e1 : (m : Int) - 1 = (n : Int) := by omega
  have e2 : IntKind.u64.wrap (n : Int) = (n : Int) := by rw [u64_wrap]; omega
  have hs := Sl.one w 44 .u64 (n : Int)
  have hb := below_one w (.cells #[.int .u64 (n : Int)] 44)
  have HW : Hid (Calls Try.prog 54 #[.slice (some ⟨w.heap.size, 0, none⟩) 1 1] (w.alloc (.cells #[.int .u64 (n : Int)] 44)) fun e w' => e = .returned (.int .i64 (Z.dwd m : Nat)) ∧ w' = w.alloc (.cells #[.int .u64 (n : Int)] 44)) := by
    have := width_any _ 1 1 [(n : Int)] _ hs (by omega) (by intro x hx; simp at hx; omega)
    rw [show orAll [(n : Int)] = m - 1 by simp [orAll]; omega] at this
    exact this
  have HB := hide hb
  clear hs hb
  go_enter Try.func28, Try.ntmps28
  go_wp2_with fail
  refine HW.out.mono ?_
  rintro e w2 ⟨rfl, rfl⟩
  clear HW
  go_wp2
  go_ret
  exact ⟨rfl, HB.out⟩
theorem dwidth_any (ao : Option Addr) (len cap : Nat) (w : World) (hl : len ≤ 140737488355328) : Calls Try.prog 28 #[.slice ao len cap] w fun e w' => e = .returned (.int .i64 (Z.dwd len : Nat)) ∧ Below w.heap.size w w' := by
  cases len with
  | zero =>
    refine (dwidth_none ao cap w).mono ?_
    rintro e w' ⟨rfl, rfl⟩
    exact ⟨rfl, Below.refl _ _⟩
  | succ n => exact dwidth_some ao n cap w hl
end Go.Proofs.Ytmhfpipeoojacaa
/- dict.areJustPlaces: are codes places below n, and each of these a code? Conditions: fewer than 2^40 codes. -/
namespace Go.Proofs.Ytmhfpipeoojacaa
set_option linter.unusedVariables false
set_option maxRecDepth 10000
open Go.RowKit Go.Maps
theorem sub_len : ∀ {a b : List Nat}, a.Nodup → (∀ x ∈ a, x ∈ b) → a.length ≤ b.length
  | [], b, _, _ => Nat.zero_le _
  | x :: a, b, h, hs => by
    obtain ⟨hx, ha⟩ := List.nodup_cons.1 h
    have hxb := hs x (by simp)
    have := sub_len (b := b.erase x) ha fun y hy => (List.mem_erase_of_ne (fun e => by subst e; exact hx hy)).2 (hs y (by simp [hy]))
    rw [List.length_erase_of_mem hxb] at this
    have hp := List.length_pos_of_mem hxb
    simp only [List.length_cons]
    omega
/-- So many unlike codes, all of them places, are all places. -/
theorem just_iff {ks c : List Nat} {n : Nat} (hn : ks.Nodup) (hm : ∀ x, x ∈ ks ↔ x ∈ c) (hl : ∀ x ∈ ks, x < n) : ((ks.length : Int) == (n : Int)) = Z.cdOk n c := by
  have h1 : ks.length ≤ n := by
    have := sub_len (b := List.range n) hn fun x hx => List.mem_range.2 (hl x hx)
    simpa using this
  rw [Bool.eq_iff_iff, cdOk_iff, beq_iff_eq]
  constructor
  · intro h
    refine ⟨fun x hx => hl x ((hm x).2 hx), fun j hj => ?_⟩
    rw [← hm j]
    by_cases hjk : j ∈ ks
    · exact hjk
    · have := sub_len (a := j :: ks) (b := List.range n) (List.nodup_cons.2 ⟨hjk, hn⟩) fun x hx => by
        rcases List.mem_cons.1 hx with rfl | hx
        · exact List.mem_range.2 hj
        · exact List.mem_range.2 (hl x hx)
      simp at this
      omega
  · rintro ⟨_, h2⟩
    have := sub_len (a := List.range n) (b := ks) List.nodup_range fun x hx => (hm x).2 (h2 x (List.mem_range.1 hx))
    simp at this
    omega
/-- A map whose keys are these numbers. -/
structure MapOf (D : DataW Nat) (ks : List Nat) : Prop where
  tidy : Maps.Tidy D
  nod : ks.Nodup
  has : ∀ x : Nat, Maps.has D (.int .u64 (x : Int)) = decide (x ∈ ks)
  size : Maps.size D = ks.length
theorem MapOf.put {D : DataW Nat} {ks : List Nat} (h : MapOf D ks) (x : Nat) (hk : WideAt.IsKeyLit (.int .u64 (x : Int))) (d : DataW Nat) : ∃ ls, MapOf (D.put (.int .u64 (x : Int)) d) ls ∧ ∀ y, y ∈ ls ↔ (y ∈ ks ∨ y = x) := by
  have hh : ∀ y : Nat, Maps.has (D.put (.int .u64 (x : Int)) d) (.int .u64 (y : Int)) = (decide (y ∈ ks) || decide (y = x)) := fun y => by
    by_cases hy : y = x
    · subst hy; rw [Maps.has_put_same h.tidy.isMap hk]; simp
    · rw [Maps.has_put_other (fun e => hy (by injection e with _ e; omega)), h.has]; simp [hy]
  have hz := Maps.size_put (k := .int .u64 (x : Int)) h.tidy d
  by_cases hx : x ∈ ks
  · refine ⟨ks, ⟨h.tidy.put hk d, h.nod, fun y => ?_, ?_⟩, fun y => ?_⟩
    · rw [hh y]
      by_cases hy : y = x
      · subst hy; simp [hx]
      · simp [hy]
    · rw [hz, h.has, decide_eq_true hx, if_pos rfl, h.size]
    · constructor
      · exact .inl
      · rintro (hy | rfl)
        · exact hy
        · exact hx
  · refine ⟨x :: ks, ⟨h.tidy.put hk d, List.nodup_cons.2 ⟨hx, h.nod⟩, fun y => ?_, ?_⟩, fun y => ?_⟩
    · rw [hh y, Bool.eq_iff_iff]; simp [or_comm]
    · rw [hz, h.has, decide_eq_false hx, if_neg (by decide), h.size]; rfl
    · rw [List.mem_cons, or_comm]
theorem mapOf_nil : MapOf (.map []) [] := ⟨Maps.tidy_empty, List.nodup_nil, fun x => by simp [Maps.has_eq], rfl⟩
theorem lawU64 : Keyed Try.prog 44 := int_keyed Try.underlying44
theorem zeroInt (w : World) : (zeroValue 3).run Try.prog w = .ok (.int .i64 0) w := by kernel_rfl
set_option maxHeartbeats 1000000 in
theorem djust_any (ao : Option Addr) (len cap : Nat) (c : List Nat) (n : Nat) (w : World) (h : Sl w .u64 ao len cap (ints c)) (h64 : ∀ x ∈ c, x < 18446744073709551616) (hl : len ≤ 1099511627776) (hn : n ≤ 1099511627776) :
    Calls Try.prog 59 #[.slice ao len cap, .int .i64 (n : Int)] w fun e w' => e = .returned (.bool (Z.cdOk n c)) ∧ Below w.heap.size w w' := by
  have hmm := @run_makeMap Try.prog
  have hlc : c.length = len := by rw [← h.1, ints_length]
  have HL := hide hlc
  have HS := hide h
  have H64 := hide h64
  have e1 : IntKind.u64.wrap (n : Int) = (n : Int) := by rw [u64_wrap]; omega
  clear h h64 hlc
  go_enter Try.func59, Try.ntmps59
  go_wp2_with fail
  go_loopw [12] (fun i wr => ∃ (j : Nat) (D : DataW Nat) (ks : List Nat), j ≤ len ∧ i = .int .i64 j ∧ Hid (wr.ownsMap Try.prog 44 (plainElem Try.prog 3) w.heap.size j D) ∧ Hid (MapOf D ks) ∧ Hid (∀ x, x ∈ ks ↔ x ∈ c.take j) ∧ Hid (Below w.heap.size w wr)) (fun i _ => len - (intOf i).toNat)
  case atStart => exact ⟨0, _, [], Nat.zero_le _, rfl, World.ownsMap_made _ _ _ _, mapOf_nil, hide (by simp), (Below.refl _ _).alloc (Nat.le_refl _) _⟩
  case round =>
    obtain ⟨j, D, ks, hj, rfl, HO, HM, HK, HB⟩ := hrel
    by_cases hjl : j < len
    · obtain ⟨b, off, rfl, hlt, d0⟩ := HS.out.at hjl
      obtain ⟨x, hx⟩ : ∃ x, c[j]? = some x := ⟨c[j]'(by rw [HL.out]; exact hjl), List.getElem?_eq_getElem _⟩
      have hxg : (ints c).getD j 0 = (x : Int) := by rw [ints_getD, List.getD_eq_getElem?_getD, hx]; rfl
      rw [hxg] at d0
      have d1 : wr.cell? ⟨b, off + j, none⟩ = some (.int .u64 (x : Int)) := by rw [HB.out.cell (p := ⟨b, off + j, none⟩) hlt]; exact d0
      have hx64 := H64.out x (List.mem_of_getElem? hx)
      have hkey : keyOf Try.prog 44 (.int .u64 (x : Int)) = some (.int .u64 (x : Int)) := keyOf_int_mk Try.underlying44 (WalkArith.wf_u64 (by omega))
      have HKEY := hide hkey
      have HX := hide hx
      have hsz := HB.out.size
      clear d0 hxg hx hx64 hkey
      go_wp2_with (first
        | (at_lookup; refine wpList_lookup_own_int _ rfl _ _ 107 rfl 44 3 .i64 lawU64 Try.underlying107 Try.underlying3 (zeroInt _) w.heap.size j _ rfl HO.out _ _ rfl HKEY.out ?_; intro q hat hwc)
        | (at_mapUpdate; refine wpList_mapUpdate_own _ rfl _ _ _ 107 rfl 44 3 lawU64 Try.underlying107 _ w.heap.size j _ rfl HO.out (by unfold maxLen; omega) _ _ _ rfl rfl HKEY.out _ [] (plainElem_int Try.underlying3 (wrap64_wf _)) ?_; intro w1 hown1 hgrow1)
        | go_in)
      obtain ⟨ls, hM2, hmem⟩ := HM.out.put x (lawU64.key HKEY.out) (DataW.lit (Lit.int .i64 (wrap64 (q + 1))))
      have HK2 : Hid (∀ y, y ∈ ls ↔ y ∈ c.take (j + 1)) := fun y => by rw [hmem, HK.out, List.take_add_one, HX.out]; simp
      have HB2 := hide (HB.out.grown hgrow1 hsz (fun j hj => by cases hj; exact Nat.le_refl _))
      go_roundw
      case rel => exact ⟨j + 1, _, ls, by omega, by go_num, hown1, hM2, HK2, HB2⟩
      case measure => simp [intOf]; omega
    · obtain rfl : j = len := by omega
      have HK2 : Hid (∀ x, x ∈ ks ↔ x ∈ c) := fun x => by rw [HK.out, ← HL.out, List.take_length]
      have hlow := HB.out.size
      clear HK
      go_wp2_with (first
        | (at_range; refine wpList_range_own _ rfl _ 107 rfl 44 3 lawU64 Try.underlying107 _ w.heap.size j _ rfl HO.out ?_; intro w0 hrg0 hg0 hs0)
        | go_in)
      go_frame
      have HB0 := hide (HB.out.grown hg0 hlow (fun j hj => by cases hj))
      obtain ⟨r, hr⟩ : ∃ r, wr.heap.size = r := ⟨_, rfl⟩
      rw [hr] at hrg0 ⊢
      have HG0 := hide hrg0
      have hrl : w.heap.size ≤ r := by omega
      clear hg0 hs0 hrg0
      have HSTART : Hid (∀ x ∈ ks, Maps.has D (.int .u64 (x : Int)) = false → x < n) := fun x hx h => by rw [HM.out.has, decide_eq_true hx] at h; cases h
      go_loopw [8] (fun _ w2 => ∃ (left : Lit → Bool) (cnt : Nat), Hid (w2.ranges Try.prog 44 (plainElem Try.prog 3) w.heap.size r j D left cnt) ∧ Hid (∀ x ∈ ks, left (.int .u64 (x : Int)) = false → x < n) ∧ Hid (Below w.heap.size w w2)) (fun _ w2 => w2.rangeLeft w.heap.size r)
      case atStart => exact ⟨_, _, HG0, HSTART, HB0⟩
      case round =>
        obtain ⟨left, cnt, HRG, HLF, HBW⟩ := hrel
        go_wp2_with (first
          | (at_next; refine wpList_next_ranges_ii _ rfl _ rfl 44 3 .u64 .i64 lawU64 Try.underlying44 Try.underlying3 w.heap.size r j D left cnt rfl HRG.out ?_ ?_)
          | go_in)
        · intro _ hl0
          have HOW := hide HRG.out.owns
          have HRES := hide (just_iff HM.out.nod HK2.out fun x hx => HLF.out x hx (hl0 _))
          have HSZ := hide HM.out.size
          clear hl0 HRG HLF
          go_wp2_with (first
            | (at_len; refine wpList_len_own _ rfl _ 107 rfl 44 3 Try.underlying107 _ w.heap.size j D rfl HOW.out ?_)
            | go_in)
          go_ret
          exact ⟨by rw [← HRES.out, ← HSZ.out]; rfl, HBW.out⟩
        · intro x q2 w3 cnt1 hwx hwq hlx hat hrg1 hlt1 hg1 hs1 hen
          obtain ⟨hx0, hx1⟩ := wf_u64 hwx
          obtain ⟨y, rfl⟩ := Int.eq_ofNat_of_zero_le hx0
          have hyk : y ∈ ks := by
            have h1 := Maps.has_true_of_atKey hat
            rw [HM.out.has] at h1
            exact of_decide_eq_true h1
          have HB3 := hide (HBW.out.grown hg1 HBW.out.size (fun k hk => by cases hk; exact hrl))
          have HRG1 := hide hrg1
          have HLT := hide hlt1
          by_cases hyn : y < n
          · have HY := hide hyn
            have hyn2 : ¬ n ≤ y := by omega
            clear hwx hwq hlx hat hrg1 hg1 hs1 hlt1 hx0 hx1
            go_wp2
            go_roundw
            case rel =>
              refine ⟨_, cnt1, HRG1, hide (fun z hz h => ?_), HB3⟩
              by_cases hzy : z = y
              · subst hzy; exact HY.out
              · refine HLF.out z hz ?_
                rw [Maps.sameKey_ne (fun e => hzy (by injection e with _ e; omega))] at h
                simpa using h
            case measure => rw [HRG1.out.left_eq, HRG.out.left_eq]; exact HLT.out
          · have hyn2 : n ≤ y := by omega
            have hno : Z.cdOk n c = false := by
              cases hq : Z.cdOk n c with
              | false => rfl
              | true => exact absurd ((cdOk_iff.1 hq).1 y ((HK2.out y).1 hyk)) hyn
            have HNO := hide hno
            clear hwx hwq hlx hat hrg1 hg1 hs1 hlt1 hx0 hx1 hno
            go_wp2
            go_ret
            exact ⟨by rw [HNO.out]; rfl, HB3.out⟩
end Go.Proofs.Ytmhfpipeoojacaa

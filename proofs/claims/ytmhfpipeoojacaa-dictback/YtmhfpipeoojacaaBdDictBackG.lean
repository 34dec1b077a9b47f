/- dict.ToCodes: words and codes, of bytes. Conditions: fewer than 2^47 bytes. -/
import Derived.Test.YtmhfpipeoojacaaBdDictBackE
import Derived.Test.YtmhfpipeoojacaaBdDictBackF
import Derived.Test.YtmhfpipeoojacaaBdDictBackD
import Derived.Test.YtmhfpipeoojacaaBdDictBackB
import Derived.Test.YtmhfpipeoojacaaBdF
import Derived.Lib.AppendZeros
namespace Go.Proofs.Ytmhfpipeoojacaa
set_option linter.unusedVariables false
set_option maxRecDepth 10000
open Go.RowKit
def ToCodesAns (b : List Nat) (n kind : Int) (w : World) (e : Ending) (w' : World) : Prop := ∃ a1 c1 a2 c2, e = .returned (.tuple #[.slice a1 (Z.dWs b n kind).length c1, .slice a2 (Z.dCs b n kind).length c2, .int .i64 (Z.dE b n kind)]) ∧
  SlV w' a1 (Z.dWs b n kind).length c1 (Z.dWs b n kind) ∧ Sl w' .u64 a2 (Z.dCs b n kind).length c2 (ints (Z.dCs b n kind)) ∧ Below w.heap.size w w'
theorem ToCodesAns.no {b : List Nat} {n kind E : Int} {w w' : World} (h : Z.dE b n kind = E) (h0 : E ≠ 0) (hb : Below w.heap.size w w') : ToCodesAns b n kind w (.returned (.tuple #[.slice none 0 0, .slice none 0 0, .int .i64 E])) w' := by
  obtain ⟨h1, h2, _⟩ := dWs_bad (b := b) (n := n) (kind := kind) (by rw [h]; exact h0)
  unfold ToCodesAns; rw [h1, h2, h]
  exact ⟨none, 0, none, 0, rfl, SlV.nil _, Sl.nil _ _, hb⟩
theorem dE_words {b : List Nat} {N : Nat} {kind : Int} (h : Z.kindOk kind = true) (hN : N ≤ 4096) (h1 : Z.dX kind N b ≠ 0) : Z.dE b (N : Int) kind = ((Z.dX kind N b : Nat) : Int) := by rw [dE_is h hN, dN_words h1]
theorem unp_dwd {b : List Nat} {N M : Nat} (hN : N ≤ 4096) (hM : M ≤ 4096) : unpArg (N : Int) ((Z.dwd M : Nat) : Int) = true := by
  rw [unpArg_iff]
  have := dwd_le hM
  omega
theorem dE_bits {b : List Nat} {N : Nat} {kind : Int} (h : Z.kindOk kind = true) (hN : N ≤ 4096) (h1 : Z.dX kind N b = 0) (h2 : unpC (Z.dR kind b) (N : Int) ((Z.dwd (E.gN b) : Nat) : Int) ≠ 0) : Z.dE b (N : Int) kind = unpC (Z.dR kind b) (N : Int) ((Z.dwd (E.gN b) : Nat) : Int) := by
  have hM := dX_zero h1
  unfold unpC at h2 ⊢
  rw [unp_dwd (b := b) hN (by omega), if_pos rfl, Int.toNat_natCast, Int.toNat_natCast] at h2 ⊢
  rw [dE_is h hN, dN_codes h1, if_pos (by omega)]
theorem unp_zero {b : List Nat} {N : Nat} {kind : Int} (hN : N ≤ 4096) (h1 : Z.dX kind N b = 0) (h2 : unpC (Z.dR kind b) (N : Int) ((Z.dwd (E.gN b) : Nat) : Int) = 0) : jb (Z.dR kind b) (N * Z.dwd (E.gN b)) = 0 ∧ unpL (Z.dR kind b) (N : Int) ((Z.dwd (E.gN b) : Nat) : Int) = ints (Z.dC kind N b) := by
  have hM := dX_zero h1
  unfold unpC at h2
  rw [unp_dwd (b := b) hN (by omega), if_pos rfl, Int.toNat_natCast, Int.toNat_natCast] at h2
  have hj : jb (Z.dR kind b) (N * Z.dwd (E.gN b)) = 0 := by omega
  refine ⟨hj, ?_⟩
  unfold unpL Z.dC
  rw [unp_dwd (b := b) hN (by omega), Int.toNat_natCast, Int.toNat_natCast, hj, if_pos (by decide), nums_nat]
theorem dE_codes {b : List Nat} {N : Nat} {kind : Int} (h : Z.kindOk kind = true) (hN : N ≤ 4096) (h1 : Z.dX kind N b = 0) (h2 : unpC (Z.dR kind b) (N : Int) ((Z.dwd (E.gN b) : Nat) : Int) = 0) : Z.dE b (N : Int) kind = if Z.cdOk (E.gN b) (Z.dC kind N b) = false then 4 else 0 := by
  rw [dE_is h hN, dN_codes h1, if_neg (by rw [(unp_zero hN h1 h2).1]; simp)]
  split <;> rfl
theorem dC_lt {kind : Int} {N : Nat} {b : List Nat} (hM : E.gN b ≤ 4096) : ∀ x ∈ Z.dC kind N b, x < 18446744073709551616 := by
  intro x hx
  unfold Z.dC at hx
  obtain ⟨y, hy, rfl⟩ := List.mem_map.1 hx
  have := (In64_nums (Z.dR kind b) N (Z.dwd (E.gN b)) (by have := dwd_le hM; omega)).1 y hy
  omega
set_option maxHeartbeats 2000000 in
theorem tocodes_some (ao : Option Addr) (len cap : Nat) (b : List Nat) (N : Nat) (kind : Int) (w : World) (h : Sl w .u8 ao len cap (ints b)) (h256 : ∀ x ∈ b, x < 256) (hm : len ≤ 140737488355328) (hN : N ≤ 4096) (hk : Z.kindOk kind = true) :
    Calls Try.prog 31 #[.slice ao len cap, .int .i64 (N : Int), .int .i64 kind] w (ToCodesAns b (N : Int) kind w) := by
  have HS := hide h
  have H256 := hide h256
  have HK := hide hk
  have HCK : Hid (Calls Try.prog 25 #[.slice none 0 0, .int .i64 kind] w fun e w' => e = .returned (.int .i64 0) ∧ Below w.heap.size w w') := by
    have := check_any none 0 0 [] kind w (SlV.nil _) (by simp)
    rwa [chk_yes hk (by simp) rfl rfl] at this
  have hd1 : decide ((N : Int) < 0) = false := by simp
  have hd2 : decide ((4096 : Int) < (N : Int)) = false := by simp; omega
  clear h h256 hk
  go_enter Try.func31, Try.ntmps31
  go_wp2_with fail
  refine HCK.out.mono ?_
  rintro e w1 ⟨rfl, hb1⟩
  have HB1 := hide hb1
  have HTW := hide (towords_any ao len cap b N kind w1 (HS.out.below hb1) H256.out (by omega) hN (kind_cases HK.out))
  clear hb1 HCK
  go_wp2_with fail
  refine HTW.out.mono ?_
  rintro e w2 ⟨hb2, hh⟩
  have HB2 := hide (bthen HB1.out hb2)
  have HB12 := hide hb2
  clear hb2 HTW
  rcases hh with ⟨hx, rfl⟩ | ⟨hx, v, a, c, rfl, ho, hs⟩
  · obtain ⟨y, hy⟩ : ∃ y : Int, ((Z.dX kind N b : Nat) : Int) = y := ⟨_, rfl⟩
    have hy0 : y ≠ 0 := by omega
    have HY0 := hide hy0
    have hyb : (y != 0) = true := by simpa using hy0
    have HP : Hid (Z.dE b (N : Int) kind = y) := by show _ = _; rw [dE_words HK.out hN hx, hy]
    rw [hy]
    clear hy hx hy0
    go_wp2
    go_ret3
    exact ToCodesAns.no HP.out HY0.out HB2.out
  · have hM : E.gN b ≤ N := dX_zero hx
    have hwl : (Z.dW kind b).length = E.gN b := dW_length kind b
    obtain ⟨ra, rc, hv, hsl, _⟩ := SlV.of_own ho
    rw [hwl] at hv hsl
    subst hv
    obtain ⟨M, hMM⟩ : ∃ M, E.gN b = M := ⟨_, rfl⟩
    rw [hMM] at hM hsl ⊢
    have hrl : (Z.dR kind b).length ≤ 140737488355328 := by
      unfold Z.dR
      have h1 := pR_len kind (E.gN b) (b.drop (E.gK b))
      rw [List.length_drop] at h1
      have h2 : b.length = len := by rw [← HS.out.1, ints_length]
      omega
    have hr256 : ∀ x ∈ Z.dR kind b, x < 256 := pR_lt _ _ fun x hx => H256.out x (List.mem_of_mem_drop hx)
    have HX := hide hx
    have HMM := hide hMM
    have HSL := hide hsl
    have HRS := hide (hs.below HB12.out)
    have HR2 := hide hr256
    have HWL := hide (hwl.trans hMM)
    obtain ⟨bl, hbl⟩ : ∃ bl, (Z.dR kind b).length = bl := ⟨_, rfl⟩
    rw [hbl] at HRS hrl ⊢
    obtain ⟨k, hk⟩ : ∃ k : Nat, Z.dwd M = k := ⟨_, rfl⟩
    have HKW := hide hk
    have HDW : Hid (∀ w : World, Calls Try.prog 28 #[.slice ra M rc] w fun e w' => e = .returned (.int .i64 (k : Int)) ∧ Below w.heap.size w w') := by
      intro w; rw [← hk]; exact dwidth_any ra M rc w (by omega)
    clear hsl hs hr256 hwl hx hMM ho hbl hk
    go_wp2_with fail
    refine (HDW.out _).mono ?_
    rintro e w3 ⟨rfl, hb3⟩
    have HRS3 := hide (HRS.out.below hb3)
    have HSL3 := hide (HSL.out.below hb3)
    have HB3 := hide (bthen HB2.out hb3)
    clear hb3 HDW HRS HSL
    go_wp2_with fail
    refine (unpack_u a bl c (Z.dR kind b) (N : Int) (k : Int) w3 HRS3.out HR2.out hrl).mono ?_
    rintro e w4 ⟨v4, rfl, ho4, hb4⟩
    have HSL4 := hide (HSL3.out.below hb4)
    have HB4 := hide (bthen HB3.out hb4)
    obtain ⟨C, hC⟩ : ∃ C, unpC (Z.dR kind b) (N : Int) (k : Int) = C := ⟨_, rfl⟩
    rw [hC]
    have HCC : Hid (unpC (Z.dR kind b) (N : Int) ((Z.dwd (E.gN b) : Nat) : Int) = C) := by show _ = _; rw [HMM.out, HKW.out]; exact hC
    by_cases hC0 : C = 0
    · subst hC0
      obtain ⟨hj, hl⟩ := unp_zero hN HX.out HCC.out
      rw [HMM.out, HKW.out] at hl
      rw [hl] at ho4
      obtain ⟨ax, cx, hv, hsx, _⟩ := Sl.of_owns ho4
      have hcl : (ints (Z.dC kind N b)).length = N := by rw [ints_length, dC_length]
      rw [hcl] at hv hsx
      subst hv
      have HSX := hide hsx
      have HJA := hide (djust_any ax N cx (Z.dC kind N b) M w4 hsx (dC_lt (by rw [HMM.out]; omega)) (by omega) (by omega))
      have HDE : Hid (Z.dE b (N : Int) kind = if Z.cdOk M (Z.dC kind N b) = false then 4 else 0) := by
        have := dE_codes HK.out hN HX.out HCC.out
        rwa [HMM.out] at this
      clear hj hl ho4 hsx hcl hb4 hC HSL3 HRS3
      go_wp2_with fail
      refine HJA.out.mono ?_
      rintro e w5 ⟨rfl, hb5⟩
      have HSL5 := hide (HSL4.out.below hb5)
      have HSX5 := hide (HSX.out.below hb5)
      have HB5 := hide (bthen HB4.out hb5)
      clear hb5 HJA HSL4 HSX HB4 HB3 HB2
      cases hq : Z.cdOk M (Z.dC kind N b) with
      | true =>
        have HP : Hid (Z.dE b (N : Int) kind = 0) := by show _ = _; rw [HDE.out, hq]; rfl
        have hw : Z.dWs b (N : Int) kind = Z.dW kind b := by unfold Z.dWs; rw [if_pos HP.out]
        have hc : Z.dCs b (N : Int) kind = Z.dC kind N b := by unfold Z.dCs; rw [if_pos HP.out, Int.toNat_natCast]
        have FIN : Hid (ToCodesAns b (N : Int) kind w (.returned (.tuple #[.slice ra M rc, .slice ax N cx, .int .i64 0])) w5) := by
          refine ⟨ra, rc, ax, cx, ?_, ?_, ?_, HB5.out⟩
          · rw [hw, hc, HWL.out, dC_length, HP.out]
          · rw [hw, HWL.out]; exact HSL5.out
          · rw [hc, dC_length]; exact HSX5.out
        clear hq hw hc
        go_wp2
        go_ret3
        exact FIN.out
      | false =>
        have HP : Hid (Z.dE b (N : Int) kind = 4) := by show _ = _; rw [HDE.out, hq]; rfl
        clear hq
        go_wp2
        go_ret3
        exact ToCodesAns.no HP.out (by decide) HB5.out
    · have hyb : (C != 0) = true := by simpa using hC0
      have HC0 := hide hC0
      have HP : Hid (Z.dE b (N : Int) kind = C) := by show _ = _; rw [dE_bits HK.out hN HX.out (by rw [HCC.out]; exact hC0), HCC.out]
      clear hC hC0 ho4 hb4
      go_wp2
      go_ret3
      exact ToCodesAns.no HP.out HC0.out HB4.out
theorem tocodes_any (ao : Option Addr) (len cap : Nat) (b : List Nat) (n kind : Int) (w : World) (h : Sl w .u8 ao len cap (ints b)) (h256 : ∀ x ∈ b, x < 256) (hm : len ≤ 140737488355328) :
    Calls Try.prog 31 #[.slice ao len cap, .int .i64 n, .int .i64 kind] w (ToCodesAns b n kind w) := by
  cases hk : Z.kindOk kind with
  | false =>
    have HP : Hid (Z.dE b n kind = 1) := dE_kind hk
    have HCK : Hid (Calls Try.prog 25 #[.slice none 0 0, .int .i64 kind] w fun e w' => e = .returned (.int .i64 1) ∧ Below w.heap.size w w') := by
      have := check_any none 0 0 [] kind w (SlV.nil _) (by simp)
      rwa [chk_kind hk] at this
    clear hk h h256
    go_enter Try.func31, Try.ntmps31
    go_wp2_with fail
    refine HCK.out.mono ?_
    rintro e w1 ⟨rfl, hb1⟩
    have HB1 := hide hb1
    clear hb1 HCK
    go_wp2
    go_ret3
    exact ToCodesAns.no HP.out (by decide) HB1.out
  | true =>
    by_cases hn : n < 0 ∨ 4096 < n
    · have HP : Hid (Z.dE b n kind = 2) := dE_many hk hn
      have HCK : Hid (Calls Try.prog 25 #[.slice none 0 0, .int .i64 kind] w fun e w' => e = .returned (.int .i64 0) ∧ Below w.heap.size w w') := by
        have := check_any none 0 0 [] kind w (SlV.nil _) (by simp)
        rwa [chk_yes hk (by simp) rfl rfl] at this
      clear hk h h256
      rcases hn with hn | hn
      · go_enter Try.func31, Try.ntmps31
        go_wp2_with fail
        refine HCK.out.mono ?_
        rintro e w1 ⟨rfl, hb1⟩
        have HB1 := hide hb1
        clear hb1 HCK
        go_wp2
        go_ret3
        exact ToCodesAns.no HP.out (by decide) HB1.out
      · have hn0 : ¬ n < 0 := by omega
        go_enter Try.func31, Try.ntmps31
        go_wp2_with fail
        refine HCK.out.mono ?_
        rintro e w1 ⟨rfl, hb1⟩
        have HB1 := hide hb1
        clear hb1 HCK
        go_wp2
        go_ret3
        exact ToCodesAns.no HP.out (by decide) HB1.out
    · obtain ⟨N, rfl⟩ := Int.eq_ofNat_of_zero_le (show 0 ≤ n by omega)
      exact tocodes_some ao len cap b N kind w h h256 hm (by omega) hk
end Go.Proofs.Ytmhfpipeoojacaa
/- dict.Of: a column's values, of bytes. Conditions: fewer than 2^47 bytes. -/
namespace Go.Proofs.Ytmhfpipeoojacaa
set_option linter.unusedVariables false
set_option maxRecDepth 10000
open Go.RowKit
def DictOfAns (b : List Nat) (n kind : Int) (w : World) (e : Ending) (w' : World) : Prop := ∃ a c, e = .returned (.tuple #[.slice a (Z.dVs b n kind).length c, .int .i64 (Z.dE b n kind)]) ∧ SlV w' a (Z.dVs b n kind).length c (Z.dVs b n kind) ∧ Below w.heap.size w w'
theorem DictOfAns.no {b : List Nat} {n kind E : Int} {w w' : World} (h : Z.dE b n kind = E) (h0 : E ≠ 0) (hb : Below w.heap.size w w') : DictOfAns b n kind w (.returned (.tuple #[.slice none 0 0, .int .i64 E])) w' := by
  obtain ⟨_, _, h3⟩ := dWs_bad (b := b) (n := n) (kind := kind) (by rw [h]; exact h0)
  unfold DictOfAns; rw [h3, h]
  exact ⟨none, 0, rfl, SlV.nil _, hb⟩
/-- The values of the first codes, and room for the others. -/
def Z.dF (ws : List Z.V) (cs : List Nat) (N j : Nat) : List Z.V := Z.dV ws (cs.take j) ++ List.replicate (N - j) Z.z0
theorem dF_length {ws : List Z.V} {cs : List Nat} {N j : Nat} (hc : cs.length = N) (h : j ≤ N) : (Z.dF ws cs N j).length = N := by
  unfold Z.dF; rw [List.length_append, dV_length, List.length_take, List.length_replicate]; omega
theorem dF_at {ws : List Z.V} {cs : List Nat} {N j : Nat} (hc : cs.length = N) (h : j < N) : (Z.dF ws cs N j)[j]? = some Z.z0 := by
  unfold Z.dF
  have h1 : (Z.dV ws (cs.take j)).length = j := by rw [dV_length, List.length_take]; omega
  rw [List.getElem?_append_right (by omega), h1, Nat.sub_self, show N - j = (N - (j + 1)) + 1 by omega, List.replicate_succ]
  rfl
theorem dF_set {ws : List Z.V} {cs : List Nat} {N j x : Nat} {y : Z.V} (hc : cs.length = N) (h : j < N) (hx : cs[j]? = some x) (hy : ws[x]? = some y) : (Z.dF ws cs N j).set j y = Z.dF ws cs N (j + 1) := by
  unfold Z.dF
  have h1 : (Z.dV ws (cs.take j)).length = j := by rw [dV_length, List.length_take]; omega
  rw [show N - j = (N - (j + 1)) + 1 by omega, List.replicate_succ, List.set_append_right _ _ (by omega), h1, Nat.sub_self, List.set_cons_zero, List.take_add_one, hx]
  unfold Z.dV
  rw [List.map_append]
  simp [hy]
theorem dE_ok {b : List Nat} {n kind : Int} (h : Z.dE b n kind = 0) : 0 ≤ n ∧ n ≤ 4096 ∧ (Z.dWs b n kind).length ≤ 4096 ∧ ((Z.dCs b n kind).length : Int) = n ∧ ∀ x ∈ Z.dCs b n kind, x < (Z.dWs b n kind).length := by
  obtain ⟨h1, h2, h3, h4⟩ := dE_zero h
  have hw : Z.dWs b n kind = Z.dW kind b := by unfold Z.dWs; rw [if_pos h]
  have hc : Z.dCs b n kind = Z.dC kind n.toNat b := by unfold Z.dCs; rw [if_pos h]
  have hm := h4.most
  refine ⟨h2, h3, by rw [hw, dW_length]; omega, by rw [hc, dC_length]; omega, ?_⟩
  rw [hc, hw, dW_length]
  exact (cdOk_iff.1 h4.code).1
set_option maxHeartbeats 2000000 in
theorem dof_any (ao : Option Addr) (len cap : Nat) (b : List Nat) (n kind : Int) (w : World) (h : Sl w .u8 ao len cap (ints b)) (h256 : ∀ x ∈ b, x < 256) (hm : len ≤ 140737488355328) :
    Calls Try.prog 16 #[.slice ao len cap, .int .i64 n, .int .i64 kind] w (DictOfAns b n kind w) := by
  obtain ⟨i0, hi0, hz0, hz1, hz2⟩ := info_parts Try.infoVal
  have HTC := hide (tocodes_any ao len cap b n kind w h h256 hm)
  clear h h256
  go_enter Try.func16, Try.ntmps16
  go_wp2_with fail
  refine HTC.out.mono ?_
  rintro e w1 ⟨a1, c1, a2, c2, rfl, hs1, hs2, hb1⟩
  have HB1 := hide hb1
  clear hb1 HTC
  obtain ⟨X, hX⟩ : ∃ X, Z.dE b n kind = X := ⟨_, rfl⟩
  rw [hX]
  have HX := hide hX
  by_cases hX0 : X = 0
  · subst hX0
    obtain ⟨g0, g1, g2, g3, g4⟩ := dE_ok hX
    obtain ⟨N, rfl⟩ := Int.eq_ofNat_of_zero_le g0
    have hN : N ≤ 4096 := by omega
    obtain ⟨ws, hws⟩ : ∃ ws, Z.dWs b (N : Int) kind = ws := ⟨_, rfl⟩
    obtain ⟨cs, hcs⟩ : ∃ cs, Z.dCs b (N : Int) kind = cs := ⟨_, rfl⟩
    have hdv : Z.dVs b (N : Int) kind = Z.dV ws cs := by unfold Z.dVs; rw [hws, hcs]
    rw [hws] at hs1 g2 g4 ⊢
    rw [hcs] at hs2 g3 g4 ⊢
    have hcn : cs.length = N := by omega
    rw [hcn] at hs2 ⊢
    obtain ⟨M, hM⟩ : ∃ M, ws.length = M := ⟨_, rfl⟩
    rw [hM] at hs1 g2 g4 ⊢
    have HS1 := hide hs1
    have HS2 := hide hs2
    have HG := hide g4
    have HCN := hide hcn
    have HDV := hide hdv
    clear hs1 hs2 g0 g1 g3 g4 hws hcs hcn hdv hX hM
    go_wp2_with (at_make; refine wpList_make_full _ rfl _ _ 22 rfl w.heap.size 24 i0 _ 3 Try.underlying22 hi0 hz0 hz1 _ _ _ _ N rfl rfl rfl rfl (by rw [hz2]; omega) (by unfold maxLen; omega) HB1.out.size ?_)
    intro w4 ho hg
    have hb4 : Below w1.heap.size w1 w4 := (Below.refl _ _).grown hg (Nat.le_refl _) (by simp)
    have hrow0 : OwnV w4 w.heap.size (.slice (some ⟨w1.heap.size, 0, none⟩) N N) (Z.dF ws cs N 0) := by
      unfold OwnV
      rw [dF_length HCN.out (Nat.zero_le _)]
      unfold Z.dF
      rw [show Z.dV ws (cs.take 0) = [] from rfl, List.nil_append, Nat.sub_zero, cellsV_replicate]
      exact ho
    obtain ⟨R, hR⟩ : ∃ R, w1.heap.size = R := ⟨_, rfl⟩
    have hRl : w.heap.size ≤ R := by rw [← hR]; exact HB1.out.size
    have HR0 := hide hrow0
    have HB4 := hide hb4
    rw [hR] at HR0 ⊢
    have HRR := hide hR
    clear hrow0 ho hg hb4 hR hi0 hz0 hz1 hz2
    go_wp2_with fail
    go_loopw [29] (fun i wr => ∃ j : Nat, j ≤ N ∧ i = .int .i64 j ∧ Hid (OwnV wr w.heap.size (.slice (some ⟨R, 0, none⟩) N N) (Z.dF ws cs N j)) ∧ Hid (Below w1.heap.size w1 wr)) (fun i _ => N - (intOf i).toNat)
    case atStart => exact ⟨0, Nat.zero_le _, rfl, HR0, HB4⟩
    case round =>
      obtain ⟨j, hj, rfl, hrow, hbw⟩ := hrel
      by_cases hjl : j < N
      · obtain ⟨bc, oc, rfl, hltc, d0⟩ := HS2.out.at hjl
        obtain ⟨x, hx⟩ : ∃ x, cs[j]? = some x := ⟨cs[j]'(by rw [HCN.out]; exact hjl), List.getElem?_eq_getElem _⟩
        have hxg : (ints cs).getD j 0 = (x : Int) := by rw [ints_getD, List.getD_eq_getElem?_getD, hx]; rfl
        rw [hxg] at d0
        have d1 : wr.cell? ⟨bc, oc + j, none⟩ = some (.int .u64 (x : Int)) := by rw [hbw.out.cell (p := ⟨bc, oc + j, none⟩) hltc]; exact d0
        have hxM : x < M := HG.out x (List.mem_of_getElem? hx)
        obtain ⟨bv, ov, vk, vi, vs, rfl, hltv, hy, k1, k2, k3⟩ := HS1.out.at hxM
        have e1 : wr.cell? ⟨bv, ov + x * 3, none⟩ = some (.int .i64 vk) := by rw [hbw.out.cell (p := ⟨bv, ov + x * 3, none⟩) hltv]; exact k1
        have e2 : wr.cell? ⟨bv, ov + x * 3 + 1, none⟩ = some (.int .i64 vi) := by rw [hbw.out.cell (p := ⟨bv, ov + x * 3 + 1, none⟩) hltv]; exact k2
        have e3 : wr.cell? ⟨bv, ov + x * 3 + 2, none⟩ = some (.string vs) := by rw [hbw.out.cell (p := ⟨bv, ov + x * 3 + 2, none⟩) hltv]; exact k3
        have hr6 := hrow.out
        unfold OwnV at hr6
        rw [dF_length HCN.out hj] at hr6
        obtain ⟨z0, z1, z2⟩ := cellsV_get _ j _ (dF_at (ws := ws) HCN.out hjl)
        have c0 := (hr6.cellAt (j * 3) (by omega)).trans z0
        have c1 := (hr6.cellAt (j * 3 + 1) (by omega)).trans z1
        have c2 := (hr6.cellAt (j * 3 + 2) (by omega)).trans z2
        have f0 := hr6.frozenAt (j * 3)
        have f1 := hr6.frozenAt (j * 3 + 1)
        have f2 := hr6.frozenAt (j * 3 + 2)
        have HR6 := hide hr6
        have HX := hide hx
        have HY := hide hy
        clear hr6 z0 z1 z2 d0 k1 k2 k3 hx hy hxg hrow
        go_wp2
        go_roundw
        case rel =>
          have hk3 : Kept (fun k => k = R) wr (((wr.setCell ⟨R, j * 3, none⟩ (.int .i64 vk)).setCell ⟨R, j * 3 + 1, none⟩ (.int .i64 vi)).setCell ⟨R, j * 3 + 2, none⟩ (.string vs)) :=
            Kept.setCell (F := fun k => k = R) (p := ⟨R, j * 3 + 2, none⟩) (Kept.setCell (F := fun k => k = R) (p := ⟨R, j * 3 + 1, none⟩) (Kept.setCell (F := fun k => k = R) (p := ⟨R, j * 3, none⟩) (Kept.refl _ _) (.inl rfl) _) (.inl rfl) _) (.inl rfl) _
          have hrb := ((((HR6.out.stored (j * 3) (.int .i64 vk)).1.stored (j * 3 + 1) (.int .i64 vi)).1).stored (j * 3 + 2) (.string vs)).1
          refine ⟨j + 1, hjl, by go_num, ?_, hide (hbw.out.trans (hk3.below hbw.out.size (by rintro k rfl; rw [HRR.out]; exact Nat.le_refl _)))⟩
          show OwnV _ _ _ _
          unfold OwnV
          rw [← dF_set HCN.out hjl HX.out HY.out, cellsV_set _ _ _ (by rw [dF_length HCN.out hj]; exact hjl), List.length_set, dF_length HCN.out hj]
          exact hrb
        case measure => simp [intOf]; omega
      · obtain rfl : j = N := by omega
        have hfull : Z.dF ws cs j j = Z.dVs b (j : Int) kind := by
          rw [HDV.out]
          unfold Z.dF
          rw [Nat.sub_self, List.replicate_zero, List.append_nil, ← HCN.out, List.take_length]
        have hrow1 := hrow.out
        rw [hfull] at hrow1
        have hlen : (Z.dVs b (j : Int) kind).length = j := by rw [HDV.out, dV_length]; exact HCN.out
        obtain ⟨ra, rc, hv, hsl, _⟩ := SlV.of_own hrow1
        rw [hlen] at hv hsl
        injection hv with hv1 _ hv3
        subst hv1 hv3
        have FIN : Hid (DictOfAns b (j : Int) kind w (.returned (.tuple #[.slice (some ⟨R, 0, none⟩) j j, .int .i64 0])) wr) := ⟨_, j, by rw [hlen, HX.out], by rw [hlen]; exact hsl, bthen HB1.out hbw.out⟩
        clear hfull hrow1 hlen hsl hrow
        go_wp2
        go_ret2
        exact FIN.out
  · have hyb : (X != 0) = true := by simpa using hX0
    have HX0 := hide hX0
    clear hX hX0 hs1 hs2
    go_wp2
    go_ret2
    exact DictOfAns.no HX.out HX0.out HB1.out
end Go.Proofs.Ytmhfpipeoojacaa
/- slices.Concat of three rows of bytes. Conditions: at most 2^46 bytes together. -/
namespace Go.Proofs.Ytmhfpipeoojacaa
set_option linter.unusedVariables false
set_option maxRecDepth 10000
open Go.RowKit
theorem grow_none (w : World) : Calls Try.prog 55 #[.slice none 0 0, .int .i64 0] w fun e w' => e = .returned (.slice none 0 0) ∧ w' = w := by
  go_enter Try.func55, Try.ntmps55
  go_wp2
  go_ret
  exact ⟨rfl, rfl⟩
theorem cut_made (g : Nat) (n C : Nat) (w : World) : (Instr.slice 36 (.slice (some ⟨g, 0, none⟩) n C) none (some (.int .i64 0)) none).run Try.prog w = .ok (.slice (some ⟨g, 0, none⟩) 0 C) w := by
  have hr := run_slice_h (P := Try.prog) w 36 (some ⟨g, 0, none⟩) n C Try.underlying36 .i64 (0 : Int) (by omega) (by omega)
  have e1 : Try.prog.elem 36 = 5 := by kernel_rfl
  have e2 : (sizeOf 5).run Try.prog w = .ok 1 w := by kernel_rfl
  rw [e1, e2] at hr
  simp only [Result.andThen_ok, sliced, Nat.sub_zero] at hr
  rw [show (0 : Int) = ((0 : Nat) : Int) from rfl] at *
  simpa [Addr.add] using hr
theorem grow_some (n : Nat) (w : World) (h0 : 0 < n) (hn : n ≤ 70368744177664) : Calls Try.prog 55 #[.slice none 0 0, .int .i64 (n : Int)] w fun e w' => ∃ v, e = .returned v ∧ w'.ownsRow w.heap.size 5 1 v 0 [] ∧ Below w.heap.size w w' := by
  obtain ⟨i0, hi, hz0, hz1, hz2⟩ := info_parts Try.infoU8
  have e1 : decide ((n : Int) < 0) = false := by simp
  have e2 : decide (0 < (n : Int)) = true := by simp; omega
  obtain ⟨C, hC⟩ : ∃ C, grownCap w n 0 5 = C := ⟨_, rfl⟩
  have happ : ∀ ty, (Builtin.append_ #[36, 3] ty #[.slice none 0 0, .int .i64 (n : Int)]).run Try.prog w = .ok (.slice (some ⟨w.heap.size, 0, none⟩) n C) (w.drew.alloc (.cells (Builtin.zeroCells #[.int .u8 0] n ++ Builtin.zeroCells #[.int .u8 0] (C - n)) 5)) := fun ty => by
    rw [← hC]; exact Lib.run_append_nil_zeros w 36 3 ty 5 i0 (.int .u8 0) .i64 .i64 Try.underlying36 Try.underlying3 hi hz0 n h0 (by rw [hz1]; decide) (by omega) (by rw [hz2]; omega)
  go_enter Try.func55, Try.ntmps55
  go_wp2_with (at_builtin; refine Lib.wpList_append_run _ rfl _ _ 36 3 rfl _ _ rfl rfl _ _ (happ _) ?_)
  have HC : Hid (n ≤ C ∧ C ≤ maxLen) := by show _ ∧ _; rw [← hC]; exact ⟨grownCap_ge w n 0 5, grownCap_le_maxLen w n 0 5 (by unfold maxLen; omega)⟩
  have hc := cut_made w.heap.size n C
  clear hC happ hi hz0 hz1 hz2
  go_wp2
  go_ret
  refine ⟨_, rfl, ⟨by simp, .inr ⟨w.heap.size, C, Builtin.zeroCells #[.int .u8 0] n ++ Builtin.zeroCells #[.int .u8 0] (C - n), rfl, Nat.le_refl _, heap_alloc_new w _, Nat.zero_le _, HC.out.2, ?_, by simp⟩⟩, ((below_one w _)).drew⟩
  have := HC.out.1
  simp [Builtin.zeroCells]
  omega
theorem grow_any (n : Nat) (w : World) (hn : n ≤ 70368744177664) : Calls Try.prog 55 #[.slice none 0 0, .int .i64 (n : Int)] w fun e w' => ∃ v, e = .returned v ∧ w'.ownsRow w.heap.size 5 1 v ([] : List Nat).length (B8 []) ∧ Below w.heap.size w w' := by
  rcases Nat.eq_zero_or_pos n with rfl | h0
  · refine (grow_none w).mono ?_
    rintro e w' ⟨rfl, rfl⟩
    exact ⟨_, rfl, World.ownsRow_nil _ _ _ _, Below.refl _ _⟩
  · exact grow_some n w h0 hn
/-- Three rows of bytes, as a row of slices. -/
structure Three (w : World) (g : Nat) (l1 l2 l3 : List Nat) : Prop where
  lt : g < w.heap.size
  fst : ∃ a c, w.cell? ⟨g, 0, none⟩ = some (.slice a l1.length c) ∧ Sl w .u8 a l1.length c (ints l1)
  snd : ∃ a c, w.cell? ⟨g, 1, none⟩ = some (.slice a l2.length c) ∧ Sl w .u8 a l2.length c (ints l2)
  thd : ∃ a c, w.cell? ⟨g, 2, none⟩ = some (.slice a l3.length c) ∧ Sl w .u8 a l3.length c (ints l3)
def upTo (l1 l2 l3 : List Nat) : Nat → List Nat
  | 0 => []
  | 1 => l1
  | 2 => l1 ++ l2
  | _ => l1 ++ l2 ++ l3
theorem Three.at {w : World} {g : Nat} {l1 l2 l3 : List Nat} (h : Three w g l1 l2 l3) {j : Nat} (hj : j < 3) : ∃ a n c l, w.cell? ⟨g, j, none⟩ = some (.slice a n c) ∧ Sl w .u8 a n c (ints l) ∧ upTo l1 l2 l3 j ++ l = upTo l1 l2 l3 (j + 1) := by
  match j, hj with
  | 0, _ => obtain ⟨a, c, h1, h2⟩ := h.fst; exact ⟨a, _, c, l1, h1, h2, rfl⟩
  | 1, _ => obtain ⟨a, c, h1, h2⟩ := h.snd; exact ⟨a, _, c, l2, h1, h2, rfl⟩
  | 2, _ => obtain ⟨a, c, h1, h2⟩ := h.thd; exact ⟨a, _, c, l3, h1, h2, rfl⟩
theorem upTo_le (l1 l2 l3 : List Nat) (j : Nat) : (upTo l1 l2 l3 j).length ≤ (l1 ++ l2 ++ l3).length := by
  match j with
  | 0 => simp [upTo]
  | 1 => simp [upTo]
  | 2 => simp [upTo]
  | j + 3 => simp [upTo]
set_option maxHeartbeats 1000000 in
theorem concat_any (g : Nat) (l1 l2 l3 : List Nat) (w : World) (h : Three w g l1 l2 l3) (hn : (l1 ++ l2 ++ l3).length ≤ 70368744177664) :
    Calls Try.prog 29 #[.slice (some ⟨g, 0, none⟩) 3 3] w fun e w' => ∃ v, e = .returned v ∧ w'.ownsRow w.heap.size 5 1 v (l1 ++ l2 ++ l3).length (B8 (l1 ++ l2 ++ l3)) ∧ Below w.heap.size w w' := by
  have HT := hide h
  have HU : Hid (∀ j, (upTo l1 l2 l3 j).length ≤ 70368744177664) := fun j => Nat.le_trans (upTo_le l1 l2 l3 j) hn
  have HG := h.lt
  clear h hn
  go_enter Try.func29, Try.ntmps29
  go_wp2_with fail
  go_loopw [3, 11] (fun s i wr => ∃ j m : Nat, j ≤ 3 ∧ i = .int .i64 j ∧ s = .int .i64 m ∧ Hid (m = (upTo l1 l2 l3 j).length) ∧ m ≤ 70368744177664 ∧ wr = w) (fun _ i _ => 3 - (intOf i).toNat)
  case atStart => exact ⟨0, 0, by omega, rfl, rfl, hide rfl, by omega, rfl⟩
  case round =>
    obtain ⟨j, m, hj, rfl, rfl, HM, hm, hww⟩ := hrel
    obtain rfl : w = wr := hww.symm
    by_cases hjl : j < 3
    · obtain ⟨a, n, c, l, d1, hs, hup⟩ := HT.out.at hjl
      have hnl : l.length = n := by rw [← hs.1, ints_length]
      have hmn : m + n = (upTo l1 l2 l3 (j + 1)).length := by rw [← hup, List.length_append, HM.out, hnl]
      have hmb : m + n ≤ 70368744177664 := by rw [hmn]; exact HU.out _
      have HMN := hide hmn
      have e1 : decide ((m : Int) + (n : Int) < 0) = false := by simp; omega
      clear hs hup hnl hmn
      go_wp2
      go_round
      · exact ⟨j + 1, m + n, by omega, by go_num, by go_num, HMN, hmb, trivial⟩
      · simp [intOf]; omega
    · obtain rfl : j = 3 := by omega
      have HM3 : m = (upTo l1 l2 l3 3).length := HM.out
      have HGR := hide (grow_any m w hm)
      clear HM HM3
      go_wp2_with fail
      refine HGR.out.mono ?_
      rintro e w1 ⟨v1, rfl, ho1, hb1⟩
      have HB1 := hide hb1
      have HO1 := hide ho1
      clear hb1 ho1 HGR
      go_wp2_with fail
      go_loopw [6, 27] (fun s i w2 => ∃ j : Nat, j ≤ 3 ∧ i = .int .i64 j ∧ Hid (w2.ownsRow w.heap.size 5 1 s (upTo l1 l2 l3 j).length (B8 (upTo l1 l2 l3 j))) ∧ Hid (Below w.heap.size w w2)) (fun _ i _ => 3 - (intOf i).toNat)
      case atStart => exact ⟨0, by omega, rfl, HO1, HB1⟩
      case round =>
        obtain ⟨j, hj, rfl, HO, HB⟩ := hrel
        by_cases hjl : j < 3
        · obtain ⟨a, n, c, l, d1, hs, hup⟩ := HT.out.at hjl
          have d2 : wr.cell? ⟨g, j, none⟩ = some (.slice a n c) := by rw [HB.out.cell (p := ⟨g, j, none⟩) HG]; exact d1
          have hnl : l.length = n := by rw [← hs.1, ints_length]
          have hlim : (upTo l1 l2 l3 j).length + n ≤ 140737488355328 := by
            have := HU.out (j + 1)
            rw [← hup, List.length_append, hnl] at this
            omega
          have HS := hide (hs.below HB.out)
          have hsz := HB.out.size
          have HUP := hide hup
          clear d1 hs hup hnl
          go_wp2_with (at_builtin; refine wpList_app rfl _ _ rfl w.heap.size _ (upTo l1 l2 l3 j) rfl HO.out a n c l rfl HS.out hlim hsz (upTo l1 l2 l3 (j + 1)) HUP.out ?_)
          intro v3 w3 hown has
          have hb3 : Below w.heap.size w w3 := HB.out.trans (has.below hsz (fun k hk => (owns_lt HO.out hk).1))
          have HB3 := hide hb3
          have HO3 := hide hown
          clear hb3 hown has
          go_wp2
          go_roundw
          case rel => exact ⟨j + 1, by omega, by go_num, HO3, HB3⟩
          case measure => simp [intOf]; omega
        · obtain rfl : j = 3 := by omega
          go_wp2
          go_ret
          exact ⟨_, rfl, HO.out, HB.out⟩
end Go.Proofs.Ytmhfpipeoojacaa

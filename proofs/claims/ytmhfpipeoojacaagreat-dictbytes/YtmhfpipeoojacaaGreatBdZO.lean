/- dict.ToCodes: words and codes, of bytes. Conditions: fewer than 2^47 bytes. -/
import Derived.Test.YtmhfpipeoojacaaGreatBdZK
import Derived.Test.YtmhfpipeoojacaaGreatBdZL
import Derived.Test.YtmhfpipeoojacaaGreatBdZN
import Derived.Test.YtmhfpipeoojacaaGreatBdT
import Derived.Test.YtmhfpipeoojacaaGreatBdZM
import Derived.Test.YtmhfpipeoojacaaGreatBdH
import Derived.Test.YtmhfpipeoojacaaGreatBdZJ
import Derived.Test.YtmhfpipeoojacaaGreatBdZA
namespace Go.Proofs.YtmhfpipeoojacaaGreat
set_option linter.unusedVariables false
set_option maxRecDepth 10000
open Go.RowKit
def ToCodesAns (b : List Nat) (n kind : Int) (w : World) (e : Ending) (w' : World) : Prop := ∃ a1 c1 a2 c2, e = .returned (.tuple #[.slice a1 (Z.dWs b n kind).length c1, .slice a2 (Z.dCs b n kind).length c2, .int .i64 (Z.dE b n kind)]) ∧
  SlV w' a1 (Z.dWs b n kind).length c1 (Z.dWs b n kind) ∧ Sl w' .u64 a2 (Z.dCs b n kind).length c2 (ints (Z.dCs b n kind)) ∧ Below w.heap.size w w'
theorem ToCodesAns.no {b : List Nat} {n kind E : Int} {w w' : World} (h : Z.dE b n kind = E) (h0 : E ≠ 0) (hb : Below w.heap.size w w') : ToCodesAns b n kind w (.returned (.tuple #[.slice none 0 0, .slice none 0 0, .int .i64 E])) w' := by
  obtain ⟨h1, h2, _⟩ := dWs_bad (b := b) (n := n) (kind := kind) (by rw [h]; exact h0)
  unfold ToCodesAns; rw [h1, h2, h]
  exact ⟨none, 0, none, 0, rfl, SlV.nil _, Sl.nil _ _, hb⟩
theorem dE_words {b : List Nat} {N : Nat} {kind : Int} (h : Z.kindOk kind = true) (hN : N ≤ 4096) (h1 : Z.dX kind N b ≠ 0) : Z.dE b (N : Int) kind = ((Z.dX kind N b : Nat) : Int) := by rw [dE_is h hN, dN_words h1]
theorem unp_dwd {b : List Nat} {N M : Nat} (hN : N ≤ 4096) (hM : M ≤ 4096) : unpArg (N : Int) ((Z.dwd M : Nat) : Int) = true := by
  rw [unpArg_iff]
  have := dwd_le hM
  omega
theorem dE_bits {b : List Nat} {N : Nat} {kind : Int} (h : Z.kindOk kind = true) (hN : N ≤ 4096) (h1 : Z.dX kind N b = 0) (h2 : unpC (Z.dR kind b) (N : Int) ((Z.dwd (E.gN b) : Nat) : Int) ≠ 0) : Z.dE b (N : Int) kind = unpC (Z.dR kind b) (N : Int) ((Z.dwd (E.gN b) : Nat) : Int) := by
  have hM := dX_zero h1
  unfold unpC at h2 ⊢
  rw [unp_dwd (b := b) hN (by omega), if_pos rfl, Int.toNat_natCast, Int.toNat_natCast] at h2 ⊢
  rw [dE_is h hN, dN_codes h1, if_pos (by omega)]
theorem unp_zero {b : List Nat} {N : Nat} {kind : Int} (hN : N ≤ 4096) (h1 : Z.dX kind N b = 0) (h2 : unpC (Z.dR kind b) (N : Int) ((Z.dwd (E.gN b) : Nat) : Int) = 0) : jb (Z.dR kind b) (N * Z.dwd (E.gN b)) = 0 ∧ unpL (Z.dR kind b) (N : Int) ((Z.dwd (E.gN b) : Nat) : Int) = ints (Z.dC kind N b) := by
  have hM := dX_zero h1
  unfold unpC at h2
  rw [unp_dwd (b := b) hN (by omega), if_pos rfl, Int.toNat_natCast, Int.toNat_natCast] at h2
  have hj : jb (Z.dR kind b) (N * Z.dwd (E.gN b)) = 0 := by omega
  refine ⟨hj, ?_⟩
  unfold unpL Z.dC
  rw [unp_dwd (b := b) hN (by omega), Int.toNat_natCast, Int.toNat_natCast, hj, if_pos (by decide), nums_nat]
theorem dE_codes {b : List Nat} {N : Nat} {kind : Int} (h : Z.kindOk kind = true) (hN : N ≤ 4096) (h1 : Z.dX kind N b = 0) (h2 : unpC (Z.dR kind b) (N : Int) ((Z.dwd (E.gN b) : Nat) : Int) = 0) : Z.dE b (N : Int) kind = if Z.cdOk (E.gN b) (Z.dC kind N b) = false then 4 else 0 := by
  rw [dE_is h hN, dN_codes h1, if_neg (by rw [(unp_zero hN h1 h2).1]; simp)]
  split <;> rfl
theorem dC_lt {kind : Int} {N : Nat} {b : List Nat} (hM : E.gN b ≤ 4096) : ∀ x ∈ Z.dC kind N b, x < 18446744073709551616 := by
  intro x hx
  unfold Z.dC at hx
  obtain ⟨y, hy, rfl⟩ := List.mem_map.1 hx
  have := (In64_nums (Z.dR kind b) N (Z.dwd (E.gN b)) (by have := dwd_le hM; omega)).1 y hy
  omega
set_option maxHeartbeats 2000000 in
theorem tocodes_some (ao : Option Addr) (len cap : Nat) (b : List Nat) (N : Nat) (kind : Int) (w : World) (h : Sl w .u8 ao len cap (ints b)) (h256 : ∀ x ∈ b, x < 256) (hm : len ≤ 140737488355328) (hN : N ≤ 4096) (hk : Z.kindOk kind = true) :
    Calls Tryz.prog 10 #[.slice ao len cap, .int .i64 (N : Int), .int .i64 kind] w (ToCodesAns b (N : Int) kind w) := by
  have HS := hide h
  have H256 := hide h256
  have HK := hide hk
  have HCK : Hid (Calls Tryz.prog 18 #[.slice none 0 0, .int .i64 kind] w fun e w' => e = .returned (.int .i64 0) ∧ Below w.heap.size w w') := by
    have := check_any none 0 0 [] kind w (SlV.nil _) (by simp)
    rwa [chk_yes hk (by simp) rfl rfl] at this
  have hd1 : decide ((N : Int) < 0) = false := by simp
  have hd2 : decide ((4096 : Int) < (N : Int)) = false := by simp; omega
  clear h h256 hk
  go_enter Tryz.func10, Tryz.ntmps10
  go_wp2_with fail
  refine HCK.out.mono ?_
  rintro e w1 ⟨rfl, hb1⟩
  have HB1 := hide hb1
  have HTW := hide (towords_any ao len cap b N kind w1 (HS.out.below hb1) H256.out (by omega) hN (kind_cases HK.out))
  clear hb1 HCK
  go_wp2_with fail
  refine HTW.out.mono ?_
  rintro e w2 ⟨hb2, hh⟩
  have HB2 := hide (bthen HB1.out hb2)
  have HB12 := hide hb2
  clear hb2 HTW
  rcases hh with ⟨hx, rfl⟩ | ⟨hx, v, a, c, rfl, ho, hs⟩
  · obtain ⟨y, hy⟩ : ∃ y : Int, ((Z.dX kind N b : Nat) : Int) = y := ⟨_, rfl⟩
    have hy0 : y ≠ 0 := by omega
    have HY0 := hide hy0
    have hyb : (y != 0) = true := by simpa using hy0
    have HP : Hid (Z.dE b (N : Int) kind = y) := by show _ = _; rw [dE_words HK.out hN hx, hy]
    rw [hy]
    clear hy hx hy0
    go_wp2
    go_ret3
    exact ToCodesAns.no HP.out HY0.out HB2.out
  · have hM : E.gN b ≤ N := dX_zero hx
    have hwl : (Z.dW kind b).length = E.gN b := dW_length kind b
    obtain ⟨ra, rc, hv, hsl, _⟩ := SlV.of_own ho
    rw [hwl] at hv hsl
    subst hv
    obtain ⟨M, hMM⟩ : ∃ M, E.gN b = M := ⟨_, rfl⟩
    rw [hMM] at hM hsl ⊢
    have hrl : (Z.dR kind b).length ≤ 140737488355328 := by
      unfold Z.dR
      have h1 := pR_len kind (E.gN b) (b.drop (E.gK b))
      rw [List.length_drop] at h1
      have h2 : b.length = len := by rw [← HS.out.1, ints_length]
      omega
    have hr256 : ∀ x ∈ Z.dR kind b, x < 256 := pR_lt _ _ fun x hx => H256.out x (List.mem_of_mem_drop hx)
    have HX := hide hx
    have HMM := hide hMM
    have HSL := hide hsl
    have HRS := hide (hs.below HB12.out)
    have HR2 := hide hr256
    have HWL := hide (hwl.trans hMM)
    obtain ⟨bl, hbl⟩ : ∃ bl, (Z.dR kind b).length = bl := ⟨_, rfl⟩
    rw [hbl] at HRS hrl ⊢
    obtain ⟨k, hk⟩ : ∃ k : Nat, Z.dwd M = k := ⟨_, rfl⟩
    have HKW := hide hk
    have HDW : Hid (∀ w : World, Calls Tryz.prog 21 #[.slice ra M rc] w fun e w' => e = .returned (.int .i64 (k : Int)) ∧ Below w.heap.size w w') := by
      intro w; rw [← hk]; exact dwidth_any ra M rc w (by omega)
    clear hsl hs hr256 hwl hx hMM ho hbl hk
    go_wp2_with fail
    refine (HDW.out _).mono ?_
    rintro e w3 ⟨rfl, hb3⟩
    have HRS3 := hide (HRS.out.below hb3)
    have HSL3 := hide (HSL.out.below hb3)
    have HB3 := hide (bthen HB2.out hb3)
    clear hb3 HDW HRS HSL
    go_wp2_with fail
    refine (unpack_u a bl c (Z.dR kind b) (N : Int) (k : Int) w3 HRS3.out HR2.out hrl).mono ?_
    rintro e w4 ⟨v4, rfl, ho4, hb4⟩
    have HSL4 := hide (HSL3.out.below hb4)
    have HB4 := hide (bthen HB3.out hb4)
    obtain ⟨C, hC⟩ : ∃ C, unpC (Z.dR kind b) (N : Int) (k : Int) = C := ⟨_, rfl⟩
    rw [hC]
    have HCC : Hid (unpC (Z.dR kind b) (N : Int) ((Z.dwd (E.gN b) : Nat) : Int) = C) := by show _ = _; rw [HMM.out, HKW.out]; exact hC
    by_cases hC0 : C = 0
    · subst hC0
      obtain ⟨hj, hl⟩ := unp_zero hN HX.out HCC.out
      rw [HMM.out, HKW.out] at hl
      rw [hl] at ho4
      obtain ⟨ax, cx, hv, hsx, _⟩ := Sl.of_owns ho4
      have hcl : (ints (Z.dC kind N b)).length = N := by rw [ints_length, dC_length]
      rw [hcl] at hv hsx
      subst hv
      have HSX := hide hsx
      have HJA := hide (djust_any ax N cx (Z.dC kind N b) M w4 hsx (dC_lt (by rw [HMM.out]; omega)) (by omega) (by omega))
      have HDE : Hid (Z.dE b (N : Int) kind = if Z.cdOk M (Z.dC kind N b) = false then 4 else 0) := by
        have := dE_codes HK.out hN HX.out HCC.out
        rwa [HMM.out] at this
      clear hj hl ho4 hsx hcl hb4 hC HSL3 HRS3
      go_wp2_with fail
      refine HJA.out.mono ?_
      rintro e w5 ⟨rfl, hb5⟩
      have HSL5 := hide (HSL4.out.below hb5)
      have HSX5 := hide (HSX.out.below hb5)
      have HB5 := hide (bthen HB4.out hb5)
      clear hb5 HJA HSL4 HSX HB4 HB3 HB2
      cases hq : Z.cdOk M (Z.dC kind N b) with
      | true =>
        have HP : Hid (Z.dE b (N : Int) kind = 0) := by show _ = _; rw [HDE.out, hq]; rfl
        have hw : Z.dWs b (N : Int) kind = Z.dW kind b := by unfold Z.dWs; rw [if_pos HP.out]
        have hc : Z.dCs b (N : Int) kind = Z.dC kind N b := by unfold Z.dCs; rw [if_pos HP.out, Int.toNat_natCast]
        have FIN : Hid (ToCodesAns b (N : Int) kind w (.returned (.tuple #[.slice ra M rc, .slice ax N cx, .int .i64 0])) w5) := by
          refine ⟨ra, rc, ax, cx, ?_, ?_, ?_, HB5.out⟩
          · rw [hw, hc, HWL.out, dC_length, HP.out]
          · rw [hw, HWL.out]; exact HSL5.out
          · rw [hc, dC_length]; exact HSX5.out
        clear hq hw hc
        go_wp2
        go_ret3
        exact FIN.out
      | false =>
        have HP : Hid (Z.dE b (N : Int) kind = 4) := by show _ = _; rw [HDE.out, hq]; rfl
        clear hq
        go_wp2
        go_ret3
        exact ToCodesAns.no HP.out (by decide) HB5.out
    · have hyb : (C != 0) = true := by simpa using hC0
      have HC0 := hide hC0
      have HP : Hid (Z.dE b (N : Int) kind = C) := by show _ = _; rw [dE_bits HK.out hN HX.out (by rw [HCC.out]; exact hC0), HCC.out]
      clear hC hC0 ho4 hb4
      go_wp2
      go_ret3
      exact ToCodesAns.no HP.out HC0.out HB4.out
theorem tocodes_any (ao : Option Addr) (len cap : Nat) (b : List Nat) (n kind : Int) (w : World) (h : Sl w .u8 ao len cap (ints b)) (h256 : ∀ x ∈ b, x < 256) (hm : len ≤ 140737488355328) :
    Calls Tryz.prog 10 #[.slice ao len cap, .int .i64 n, .int .i64 kind] w (ToCodesAns b n kind w) := by
  cases hk : Z.kindOk kind with
  | false =>
    have HP : Hid (Z.dE b n kind = 1) := dE_kind hk
    have HCK : Hid (Calls Tryz.prog 18 #[.slice none 0 0, .int .i64 kind] w fun e w' => e = .returned (.int .i64 1) ∧ Below w.heap.size w w') := by
      have := check_any none 0 0 [] kind w (SlV.nil _) (by simp)
      rwa [chk_kind hk] at this
    clear hk h h256
    go_enter Tryz.func10, Tryz.ntmps10
    go_wp2_with fail
    refine HCK.out.mono ?_
    rintro e w1 ⟨rfl, hb1⟩
    have HB1 := hide hb1
    clear hb1 HCK
    go_wp2
    go_ret3
    exact ToCodesAns.no HP.out (by decide) HB1.out
  | true =>
    by_cases hn : n < 0 ∨ 4096 < n
    · have HP : Hid (Z.dE b n kind = 2) := dE_many hk hn
      have HCK : Hid (Calls Tryz.prog 18 #[.slice none 0 0, .int .i64 kind] w fun e w' => e = .returned (.int .i64 0) ∧ Below w.heap.size w w') := by
        have := check_any none 0 0 [] kind w (SlV.nil _) (by simp)
        rwa [chk_yes hk (by simp) rfl rfl] at this
      clear hk h h256
      rcases hn with hn | hn
      · go_enter Tryz.func10, Tryz.ntmps10
        go_wp2_with fail
        refine HCK.out.mono ?_
        rintro e w1 ⟨rfl, hb1⟩
        have HB1 := hide hb1
        clear hb1 HCK
        go_wp2
        go_ret3
        exact ToCodesAns.no HP.out (by decide) HB1.out
      · have hn0 : ¬ n < 0 := by omega
        go_enter Tryz.func10, Tryz.ntmps10
        go_wp2_with fail
        refine HCK.out.mono ?_
        rintro e w1 ⟨rfl, hb1⟩
        have HB1 := hide hb1
        clear hb1 HCK
        go_wp2
        go_ret3
        exact ToCodesAns.no HP.out (by decide) HB1.out
    · obtain ⟨N, rfl⟩ := Int.eq_ofNat_of_zero_le (show 0 ≤ n by omega)
      exact tocodes_some ao len cap b N kind w h h256 hm (by omega) hk
end Go.Proofs.YtmhfpipeoojacaaGreat
/- The document's width: the bits of the greatest place. Conditions: fewer than 2^47 words. -/
namespace Go.Proofs.YtmhfpipeoojacaaGreat
set_option linter.unusedVariables false
set_option maxRecDepth 10000
open Go.RowKit
theorem dwd_most {n : Nat} (h : n ≤ 140737488355328) : Z.dwd n ≤ 64 := (bitLen_le_iff (n - 1) 64).2 (by omega)
theorem dwd_up {n k : Nat} (h : k ≤ 64) : decide (((n - 1 : Nat) : Int) < (2 : Int) ^ k) = decide (Z.dwd n ≤ k) := by
  rw [Bool.eq_iff_iff, decide_eq_true_iff, decide_eq_true_iff, ← pow_int]
  have := bitLen_le_iff (n - 1) k
  unfold Z.dwd
  rw [this]
  omega
theorem rdwidth_any (n : Nat) (w : World) (hn : n ≤ 140737488355328) : Calls Tryz.prog 29 #[.int .i64 (n : Int)] w fun e w' => e = .returned (.int .i64 (Z.dwd n : Nat)) ∧ w' = w := by
  have HD := dwd_most hn
  obtain ⟨m, hm⟩ : ∃ m, n - 1 = m := ⟨_, rfl⟩
  have hmax : ∀ (ts : Array TypeId) (t : TypeId) (w : World), (Builtin.max_ ts t #[.int .i64 ((n : Int) - 1), .int .i64 0]).run Tryz.prog w = .ok (.int .i64 (m : Int)) w := fun ts t w => by
    rw [run_max_int2]
    have : (if (0 : Int) > (n : Int) - 1 then (0 : Int) else (n : Int) - 1) = (m : Int) := by split <;> omega
    rw [this]
  have eM : IntKind.u64.wrap (m : Int) = (m : Int) := by rw [u64_wrap]; omega
  obtain ⟨D, hD⟩ : ∃ D, Z.dwd n = D := ⟨_, rfl⟩
  rw [hD] at HD ⊢
  have HF : Hid (∀ (k : Nat) (w : World), k ≤ 64 → Calls Tryz.prog 64 #[.int .u64 (m : Int), .int .i64 (k : Int)] w fun e w' => e = .returned (.bool (decide (D ≤ k))) ∧ w' = w) := fun k w hk =>
    rfits_i (m : Int) (k : Int) _ w (by omega) (by omega) (by omega) (by omega) (by rw [Int.toNat_natCast, ← hm, ← hD]; exact dwd_up hk)
  clear hm hD
  go_enter Tryz.func29, Tryz.ntmps29
  go_wp2_with fail
  go_loopw [3] (fun i wr => ∃ k : Nat, k ≤ D ∧ i = .int .i64 k ∧ wr = w) (fun i _ => D - (intOf i).toNat)
  case atStart => exact ⟨0, Nat.zero_le _, rfl, rfl⟩
  case round =>
    obtain ⟨k, hk, rfl, hww⟩ := hrel
    obtain rfl : w = wr := hww.symm
    have HK := hide (HF.out k w (by omega))
    by_cases hkd : k < D
    · have e1 : decide (D ≤ k) = false := by simp; omega
      rw [e1] at HK
      clear e1
      go_wp2_with fail
      refine HK.out.mono ?_
      rintro e w1 ⟨rfl, rfl⟩
      go_wp2
      go_round
      · exact ⟨k + 1, by omega, by go_num, trivial⟩
      · simp [intOf]; omega
    · obtain rfl : k = D := by omega
      have e1 : decide (k ≤ k) = true := by simp
      rw [e1] at HK
      clear e1
      go_wp2_with fail
      refine HK.out.mono ?_
      rintro e w1 ⟨rfl, rfl⟩
      go_wp2
      go_ret
      exact ⟨rfl, rfl⟩
end Go.Proofs.YtmhfpipeoojacaaGreat
/- A row of values cut: its head, its rest. -/
namespace Go.Proofs.YtmhfpipeoojacaaGreat
set_option linter.unusedVariables false
open Go.RowKit

theorem size_val (w : World) : (sizeOf 45).run Tryz.prog w = .ok 3 w := by
  have h : (Tryz.prog.info? 45).map (·.size) = some 3 := by kernel_rfl
  cases hq : Tryz.prog.info? 45 with
  | none => rw [hq] at h; simp at h
  | some i => rw [hq] at h; simp at h; simp [sizeOf, typeInfo, hq, h]
theorem elem_vals : Tryz.prog.elem 22 = 45 := by kernel_rfl
theorem under_vals : Tryz.prog.underlying 22 = some (.slice (Tryz.prog.elem 22)) := by rw [elem_vals]; exact Tryz.underlying22
theorem rest_V {w : World} {ao : Option Addr} {len cap : Nat} {l : List Z.V} (h : SlV w ao len cap l) {K : Nat} (hK : K ≤ len) : ∃ qa, SlV w qa (len - K) (cap - K) (l.drop K) ∧
    (∀ w : World, (Instr.slice 22 (.slice ao len cap) (some (.int .i64 (K : Int))) none none).run Tryz.prog w = .ok (.slice qa (len - K) (cap - K)) w) ∧
    (∀ w : World, (Instr.sliceAt 22 (.slice ao len cap) (some (.int .i64 (K : Int))) none none).run Tryz.prog w = .ok (.slice qa (len - K) (cap - K)) w) := by
  obtain ⟨h1, h2, h3, h4, h5⟩ := h
  have hr : ∀ w : World, (Instr.slice 22 (.slice ao len cap) (some (.int .i64 (K : Int))) none none).run Tryz.prog w = .ok (.slice (if cap = K then ao else ao.map (·.add (K * 3))) (len - K) (cap - K)) w := fun w => by
    have hr := run_slice_l (P := Tryz.prog) w 22 ao len cap under_vals .i64 (K : Int) (by omega) (by omega)
    rw [elem_vals, size_val] at hr
    simp only [Result.andThen_ok, Int.toNat_natCast, sliced] at hr
    exact hr
  refine ⟨_, ?_, hr, fun w => ?_⟩
  · refine ⟨by rw [List.length_drop, h1], by omega, by omega, ?_, ?_⟩
    · split
      · intro _; omega
      · intro e
        cases ao with
        | none => have := h4 rfl; omega
        | some x => simp at e
    · by_cases hc : cap = K
      · exact .inl (by omega)
      · rw [if_neg hc]
        rcases h5 with h5 | ⟨b, off, rfl, hlt, h5⟩
        · exact .inl (by omega)
        · refine .inr ⟨b, off + K * 3, by simp [Addr.add], hlt, fun j x hx => ?_⟩
          rw [List.getElem?_drop] at hx
          have h6 := h5 _ _ hx
          rw [show off + (K + j) * 3 = off + K * 3 + j * 3 by omega] at h6
          exact h6
  · rw [run_sliceAt_slice (P := Tryz.prog) w 22 (.slice ao len cap) (some (.int .i64 (K : Int))) none none under_vals]; exact hr w
theorem head_V {w : World} {ao : Option Addr} {len cap : Nat} {l : List Z.V} (h : SlV w ao len cap l) {K : Nat} (hK : K ≤ len) : ∃ qa, SlV w qa K cap (l.take K) ∧
    (∀ w : World, (Instr.slice 22 (.slice ao len cap) none (some (.int .i64 (K : Int))) none).run Tryz.prog w = .ok (.slice qa K cap) w) ∧
    (∀ w : World, (Instr.sliceAt 22 (.slice ao len cap) none (some (.int .i64 (K : Int))) none).run Tryz.prog w = .ok (.slice qa K cap) w) := by
  obtain ⟨h1, h2, h3, h4, h5⟩ := h
  have hr : ∀ w : World, (Instr.slice 22 (.slice ao len cap) none (some (.int .i64 (K : Int))) none).run Tryz.prog w = .ok (.slice (if cap = 0 then ao else ao.map (·.add (0 * 3))) K cap) w := fun w => by
    have hr := run_slice_h (P := Tryz.prog) w 22 ao len cap under_vals .i64 (K : Int) (by omega) (by omega)
    rw [elem_vals, size_val] at hr
    simp only [Result.andThen_ok, Int.toNat_natCast, sliced, Nat.sub_zero] at hr
    exact hr
  refine ⟨_, ?_, hr, fun w => ?_⟩
  · refine ⟨by rw [List.length_take, h1]; omega, by omega, by omega, ?_, ?_⟩
    · split
      · intro _; omega
      · intro e
        cases ao with
        | none => have := h4 rfl; omega
        | some x => simp at e
    · rcases h5 with h5 | ⟨b, off, rfl, hlt, h5⟩
      · exact .inl (by omega)
      · by_cases hK0 : K = 0
        · exact .inl hK0
        · rw [if_neg (by omega)]
          refine .inr ⟨b, off, by simp [Addr.add], hlt, fun j x hx => h5 j x ?_⟩
          by_cases hj : j < K
          · rwa [List.getElem?_take_of_lt hj] at hx
          · rw [List.getElem?_take_eq_none (by omega)] at hx; cases hx
  · rw [run_sliceAt_slice (P := Tryz.prog) w 22 (.slice ao len cap) none (some (.int .i64 (K : Int))) none under_vals]; exact hr w
end Go.Proofs.YtmhfpipeoojacaaGreat
/- DictOrder: codes are in the order of values; what is below a value are the codes below Below. Conditions: none. -/
namespace Go.Proofs.YtmhfpipeoojacaaGreat
set_option linter.unusedVariables false
set_option maxRecDepth 10000
open Go.RowKit Go.Sort
/-- One of a row, in every world behind. -/
theorem SlV.atP {w : World} {ao : Option Addr} {len cap : Nat} {l : List Z.V} (h : SlV w ao len cap l) {j : Nat} (hj : j < len) : ∃ b off k i s, ao = some ⟨b, off, none⟩ ∧ l[j]? = some ⟨k, i, s⟩ ∧
    (∀ p : BBy w, p.v.cell? ⟨b, off + j * 3, none⟩ = some (.int .i64 k)) ∧ (∀ p : BBy w, p.v.cell? ⟨b, off + j * 3 + 1, none⟩ = some (.int .i64 i)) ∧ (∀ p : BBy w, p.v.cell? ⟨b, off + j * 3 + 2, none⟩ = some (.string s)) := by
  obtain ⟨b, off, k, i, s, e, hlt, hx, c1, c2, c3⟩ := h.at hj
  exact ⟨b, off, k, i, s, e, hx, fun p => by rw [p.h.cell (p := ⟨b, off + j * 3, none⟩) hlt]; exact c1, fun p => by rw [p.h.cell (p := ⟨b, off + j * 3 + 1, none⟩) hlt]; exact c2, fun p => by rw [p.h.cell (p := ⟨b, off + j * 3 + 2, none⟩) hlt]; exact c3⟩
theorem Sl.atP {w : World} {k : IntKind} {ao : Option Addr} {len cap : Nat} {l : List Int} (h : Sl w k ao len cap l) {j : Nat} (hj : j < len) : ∃ b off, ao = some ⟨b, off, none⟩ ∧ (∀ p : BBy w, p.v.cell? ⟨b, off + j, none⟩ = some (.int k (l.getD j 0))) := by
  obtain ⟨b, off, e, hlt, c⟩ := h.at hj
  exact ⟨b, off, e, fun p => by rw [p.h.cell (p := ⟨b, off + j, none⟩) hlt]; exact c⟩
theorem CmpAns.below {w : World} {c : Int} {e : Ending} {w' : World} (h : CmpAns w c e w') : e = .returned (.int .i64 c) ∧ Below w.heap.size w w' := by
  obtain ⟨rfl, q, os, rfl⟩ := h
  exact ⟨rfl, grow_below w q os⟩
theorem code_lt {l : List Z.V} {x y : Z.V} (hx : x ∈ l) (hy : y ∈ l) : Z.cdN (Z.wds l) x < Z.cdN (Z.wds l) y ↔ Z.cv x y < 0 := by
  obtain ⟨X, h1, h2⟩ := cdN_has (words_has l x hx)
  obtain ⟨Y, g1, g2⟩ := cdN_has (words_has l y hy)
  rw [rise_lt (wds_rise l) h1 g1, cv_left h2 Y, cv_right g2 x]
theorem code_blw {l : List Z.V} {x v : Z.V} (hx : x ∈ l) : Z.cdN (Z.wds l) x < Z.blw (Z.wds l) v ↔ Z.cv x v < 0 := by
  obtain ⟨X, h1, h2⟩ := cdN_has (words_has l x hx)
  rw [rise_below (wds_rise l) h1, cv_left h2 v]
theorem code_at {l : List Z.V} {j : Nat} {x : Z.V} (h : l[j]? = some x) : (ints (Z.cdL (Z.wds l) l)).getD j 0 = (Z.cdN (Z.wds l) x : Nat) := by
  rw [cdL_ok (words_cdE l), List.getD_eq_getElem?_getD]
  simp [ints, h]
end Go.Proofs.YtmhfpipeoojacaaGreat
/- The document's answer for null: Split. -/
namespace Go.Proofs.YtmhfpipeoojacaaGreat
set_option linter.unusedVariables false
open Go.RowKit

/-- One value, in new memory. -/
theorem slV_one (w : World) (k i : Int) (s : ByteArray) : SlV (w.alloc (.cells #[.int .i64 k, .int .i64 i, .string s] 45)) (some ⟨w.heap.size, 0, none⟩) 1 1 [⟨k, i, s⟩] := by
  refine ⟨rfl, Nat.le_refl _, by decide, by simp, .inr ⟨w.heap.size, 0, rfl, by simp, fun j x hx => ?_⟩⟩
  match j, hx with
  | 0, hx => simp at hx; subst hx; simp
/-- A row stays, whatever is appended to a row of another kind. -/
theorem keep_kind {w w' : World} {B B' s s' n n' : Nat} {e e' : TypeId} {v u : Value} {xs ys : List Value} (h : w.ownsRow B e s v n xs) (hu : w.ownsRow B' e' s' u n' ys) (hne : e ≠ e') (hk : Kept (fun k => u.ownBlock = some k) w w') : w'.ownsRow B e s v n xs :=
  owns_of_block h fun g hg => hk.block g (owns_lt h hg).2 (fun e => owns_ne h hu hne hg e)
theorem nus_snoc {l : List Z.V} {j : Nat} {x : Z.V} (h : l[j]? = some x) : nus (l.take (j + 1)) = nus (l.take j) ++ [x.k == 0] := by
  rw [take_snocV h]; simp [nus]
theorem oth_yes {l : List Z.V} {j : Nat} {x : Z.V} (h : l[j]? = some x) (hk : (x.k == 0) = true) : oth (l.take (j + 1)) = oth (l.take j) := by
  rw [take_snocV h]; simp [oth, hk]
theorem oth_no {l : List Z.V} {j : Nat} {x : Z.V} (h : l[j]? = some x) (hk : (x.k == 0) = false) : oth (l.take (j + 1)) = oth (l.take j) ++ [x] := by
  rw [take_snocV h]; simp [oth, hk]
theorem oth_le (l : List Z.V) (j : Nat) : (oth (l.take j)).length ≤ j := by
  unfold oth
  exact Nat.le_trans (List.length_filter_le _ _) (by rw [List.length_take]; omega)

end Go.Proofs.YtmhfpipeoojacaaGreat

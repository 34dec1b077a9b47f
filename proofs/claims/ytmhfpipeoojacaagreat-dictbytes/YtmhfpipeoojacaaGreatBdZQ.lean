/- The document's ToCodes: words and codes, of bytes. Conditions: fewer than 2^47 bytes. -/
import Derived.Test.YtmhfpipeoojacaaGreatBdZO
import Derived.Test.YtmhfpipeoojacaaGreatBdZP
import Derived.Test.YtmhfpipeoojacaaGreatBdF
import Derived.Test.YtmhfpipeoojacaaGreatBdZJ
import Derived.Test.YtmhfpipeoojacaaGreatBdQ
namespace Go.Proofs.YtmhfpipeoojacaaGreat
set_option linter.unusedVariables false
set_option maxRecDepth 10000
open Go.RowKit
theorem may_small {x : Z.V} (h : Z.may x = true) : x.s.size ≤ 1024 := by
  obtain ⟨k, i, s⟩ := x
  unfold Z.may at h
  split at h
  · simp only [Bool.and_eq_true, decide_eq_true_eq] at h
    show s.size ≤ 1024
    rw [h.2]; decide
  · split at h
    · simp only [decide_eq_true_eq] at h
      show s.size ≤ 1024
      rw [h]; decide
    · split at h
      · simp only [Bool.and_eq_true, decide_eq_true_eq] at h
        exact h.2
      · split at h
        · simp only [Bool.and_eq_true, decide_eq_true_eq] at h
          show s.size ≤ 1024
          rw [h.2]; decide
        · cases h
/-- Which places were told. -/
def marks (M : Nat) (c : List Nat) : List Value := (List.range M).map fun x => Value.bool (decide (x ∈ c))
theorem marks_length (M : Nat) (c : List Nat) : (marks M c).length = M := by simp [marks]
theorem marks_nil (M : Nat) : marks M [] = List.replicate M (.bool false) := by
  apply List.ext_getElem?
  intro i
  by_cases h : i < M <;> simp [marks, h]
theorem marks_at {M x : Nat} (c : List Nat) (h : x < M) : (marks M c)[x]? = some (.bool (decide (x ∈ c))) := by simp [marks, h]
theorem marks_set {M x : Nat} (c : List Nat) (h : x < M) : (marks M c).set x (.bool true) = marks M (c ++ [x]) := by
  apply List.ext_getElem?
  intro i
  by_cases hi : i = x
  · subst hi
    rw [List.getElem?_set_self (by rw [marks_length]; exact h), marks_at _ h]
    simp
  · rw [List.getElem?_set_ne (fun e => hi e.symm)]
    by_cases hM : i < M
    · rw [marks_at _ hM, marks_at _ hM]; simp [hi]
    · rw [List.getElem?_eq_none (by rw [marks_length]; omega), List.getElem?_eq_none (by rw [marks_length]; omega)]
theorem marks_same {M x : Nat} {c : List Nat} (h : x ∈ c) : marks M (c ++ [x]) = marks M c := by
  unfold marks
  apply List.map_congr_left
  intro y _
  by_cases hy : y = x
  · subst hy; simp [h]
  · simp [hy]
/-- So many unlike ones were told. -/
structure Told (c : List Nat) (M n : Nat) : Prop where
  ks : ∃ ks : List Nat, ks.Nodup ∧ ks.length = n ∧ ∀ x, x ∈ ks ↔ x ∈ c
  low : ∀ x ∈ c, x < M
theorem Told.le {c : List Nat} {M n : Nat} (h : Told c M n) : n ≤ M := by
  obtain ⟨ks, h1, rfl, h3⟩ := h.ks
  have := sub_len (b := List.range M) h1 fun x hx => List.mem_range.2 (h.low x ((h3 x).1 hx))
  simpa using this
theorem told_nil (M : Nat) : Told [] M 0 := ⟨⟨[], List.nodup_nil, rfl, fun x => Iff.rfl⟩, by simp⟩
theorem Told.more {c : List Nat} {M n x : Nat} (h : Told c M n) (hx : x < M) (hn : x ∉ c) : Told (c ++ [x]) M (n + 1) := by
  obtain ⟨ks, h1, h2, h3⟩ := h.ks
  refine ⟨⟨x :: ks, List.nodup_cons.2 ⟨fun h => hn ((h3 x).1 h), h1⟩, by rw [List.length_cons, h2], fun y => by rw [List.mem_cons, List.mem_append, h3, List.mem_singleton, or_comm]⟩, fun y hy => ?_⟩
  rcases List.mem_append.1 hy with hy | hy
  · exact h.low y hy
  · simp at hy; omega
theorem Told.same {c : List Nat} {M n x : Nat} (h : Told c M n) (hn : x ∈ c) : Told (c ++ [x]) M n := by
  obtain ⟨ks, h1, h2, h3⟩ := h.ks
  refine ⟨⟨ks, h1, h2, fun y => ?_⟩, fun y hy => ?_⟩
  · rw [h3, List.mem_append, List.mem_singleton]
    constructor
    · exact .inl
    · rintro (hy | rfl)
      · exact hy
      · exact hn
  · rcases List.mem_append.1 hy with hy | hy
    · exact h.low y hy
    · simp at hy; subst hy; exact h.low y hn
theorem Told.all {c : List Nat} {M n : Nat} (h : Told c M n) : ((n : Int) == (M : Int)) = Z.cdOk M c := by
  obtain ⟨ks, h1, rfl, h3⟩ := h.ks
  exact just_iff h1 h3 fun x hx => h.low x ((h3 x).1 hx)
theorem told_take {c : List Nat} {j x : Nat} (h : c[j]? = some x) : c.take (j + 1) = c.take j ++ [x] := by rw [List.take_add_one, h]; rfl
set_option maxHeartbeats 4000000 in
theorem rtocodes_some (ao : Option Addr) (len cap : Nat) (b : List Nat) (N : Nat) (kind : Int) (w : World) (h : Sl w .u8 ao len cap (ints b)) (h256 : ∀ x ∈ b, x < 256) (hm : len ≤ 140737488355328) (hN : N ≤ 4096) (hk : Z.kindOk kind = true) :
    Calls Tryz.prog 11 #[.slice ao len cap, .int .i64 (N : Int), .int .i64 kind] w (ToCodesAns b (N : Int) kind w) := by
  have hl : b.length = len := by rw [← h.1, ints_length]
  obtain ⟨i0, hi0, hz0, hz1, hz2⟩ := info_parts Tryz.infoBool
  have HS := hide h
  have H256 := hide h256
  have HK := hide hk
  have HL := hide hl
  have hd1 : decide ((N : Int) < 0) = false := by simp
  have hd2 : decide ((4096 : Int) < (N : Int)) = false := by simp; omega
  have eN : IntKind.u64.wrap (N : Int) = (N : Int) := by rw [u64_wrap]; omega
  have HG := hide (rget_any ao len cap b w h h256 hm)
  clear h h256 hk hl
  go_enter Tryz.func11, Tryz.ntmps11
  go_wp2_with fail
  refine (kinds_any _ _).mono ?_
  rintro e w1 ⟨rfl, hww⟩
  obtain rfl : w = w1 := hww.symm
  rw [HK.out]
  go_wp2_with fail
  refine HG.out.mono ?_
  rintro e w1 ⟨rfl, hww⟩
  obtain rfl : w = w1 := hww.symm
  obtain ⟨X, hX⟩ : ∃ X : Nat, E.gE b = X := ⟨_, rfl⟩
  obtain ⟨K, hK⟩ : ∃ K : Nat, E.gK b = K := ⟨_, rfl⟩
  obtain ⟨M, hM⟩ : ∃ M : Nat, E.gN b = M := ⟨_, rfl⟩
  rw [hX, hK, hM]
  have HE := hide hX
  have HKK := hide hK
  have HM := hide hM
  have HB0 : Hid (Below w.heap.size w w) := Below.refl _ _
  clear hX hK hM HG
  by_cases hX0 : X = 0
  · subst hX0
    by_cases hbad : N < M
    · have HP : Hid (Z.dE b (N : Int) kind = 4) := by
        have h1 : Z.dX kind N b = 4 := dX_many HE.out (by rw [HM.out]; exact hbad)
        show _ = _
        rw [dE_words HK.out hN (by omega), h1]; rfl
      go_wp2
      go_ret3
      exact ToCodesAns.no HP.out (by decide) HB0.out
    · have hMN : M ≤ N := by omega
      have eM : IntKind.i64.wrap (M : Int) = (M : Int) := by rw [IntKind.wrap_i64]; omega
      have hKl : K ≤ len := by rw [← HKK.out, ← HL.out]; exact (E.gE_zero HE.out H256.out).1
      obtain ⟨qa, hq, hr1, hr2⟩ := rest_of HS.out hKl
      obtain ⟨bd, hbd⟩ : ∃ d, b.drop K = d := ⟨_, rfl⟩
      rw [hbd] at hq
      have HBD := hide hbd
      have HD256 : Hid (∀ x ∈ bd, x < 256) := fun x hx => H256.out x (by rw [← HBD.out] at hx; exact List.mem_of_mem_drop hx)
      have HSM := hide (some_any qa (len - K) (cap - K) bd M kind w hq HD256.out (by omega) (by omega))
      have hdl : bd.length ≤ len := by rw [← hbd, List.length_drop, HL.out]; omega
      have HDL := hide hdl
      clear hq hbd hdl
      go_wp2_with fail
      refine HSM.out.mono ?_
      rintro e w2 ⟨hb2, hh⟩
      have HB2 := hide hb2
      clear hb2 HSM hr1 hr2
      rcases hh with ⟨hpe, v, a, c, rfl, ho, hs⟩ | ⟨hpe, rfl⟩
      · have hdw : Z.dW kind b = Z.pL kind M bd := by unfold Z.dW; rw [HM.out, HKK.out, HBD.out]
        have hdr : Z.dR kind b = Z.pR kind M bd := by unfold Z.dR; rw [HM.out, HKK.out, HBD.out]
        have hpe2 : Z.pE kind (E.gN b) (b.drop (E.gK b)) = 0 := by rw [HM.out, HKK.out, HBD.out]; exact hpe
        have hmay : ∀ x ∈ Z.dW kind b, x.s.size ≤ 9223372036854775807 := fun x hx => by
          rw [hdw] at hx
          have := may_small (((p_two (kind_cases HK.out) M bd HD256.out hpe).1 x hx).2)
          omega
        rw [← hdw] at ho
        rw [← hdr] at hs ⊢
        have hwl : (Z.dW kind b).length = M := by rw [dW_length, HM.out]
        obtain ⟨ra, rc, hv, hsl, _⟩ := SlV.of_own ho
        rw [hwl] at hv hsl
        subst hv
        have hrl : (Z.dR kind b).length ≤ 140737488355328 := by
          rw [hdr]
          have h1 := pR_len kind M bd
          have := HDL.out
          omega
        have hr256 : ∀ x ∈ Z.dR kind b, x < 256 := by rw [hdr]; exact pR_lt M bd HD256.out
        have HSL := hide hsl
        have HRS := hide (hs.below HB2.out)
        have HR2 := hide hr256
        have HWL := hide hwl
        have HPE := hide hpe2
        have HMAY := hide hmay
        have HWW := hide (rwords_any ra M rc (Z.dW kind b) w2 hsl hmay (by omega))
        obtain ⟨bl, hbl⟩ : ∃ bl, (Z.dR kind b).length = bl := ⟨_, rfl⟩
        rw [hbl] at HRS hrl ⊢
        clear hdw hdr hpe hpe2 hmay ho hs hwl hsl hr256 hbl
        go_wp2_with fail
        refine HWW.out.mono ?_
        rintro e w3 ⟨v3, rfl, ho3, hb3⟩
        have HB3 := hide (bthen HB2.out hb3)
        obtain ⟨ua, uc, hv3, hsu, _⟩ := SlV.of_own ho3
        obtain ⟨um, hum⟩ : ∃ um, (Z.wds (Z.dW kind b)).length = um := ⟨_, rfl⟩
        have hwle := wds_len (Z.dW kind b)
        rw [HWL.out] at hwle
        rw [hum] at hv3 hsu hwle
        subst hv3
        have HSL3 := hide (HSL.out.below hb3)
        have HRS3 := hide (HRS.out.below hb3)
        have HSA := hide (vsame_any ua ra um M uc rc (Z.wds (Z.dW kind b)) (Z.dW kind b) w3 hsu HSL3.out (by omega))
        clear hb3 ho3 hsu hum HWW HSL HRS
        go_wp2_with fail
        refine HSA.out.mono ?_
        rintro e w4 ⟨q, rfl, hq, hb4⟩
        have HB4 := hide (bthen HB3.out hb4)
        have HSL4 := hide (HSL3.out.below hb4)
        have HRS4 := hide (HRS3.out.below hb4)
        have hqr : q = Z.risB (Z.dW kind b) := by
          rw [Bool.eq_iff_iff, hq, risB_iff]
          exact ⟨fun e => by rw [← e]; exact wds_rise _, wds_self⟩
        have HQR := hide hqr
        clear hb4 hq hqr HSA HSL3 HRS3
        cases q with
        | false =>
          have HP : Hid (Z.dE b (N : Int) kind = 4) := by
            have h1 : Z.dX kind N b = 4 := dX_rise HE.out (by rw [HM.out]; exact hMN) HPE.out HQR.out.symm
            show _ = _
            rw [dE_words HK.out hN (by omega), h1]; rfl
          go_wp2
          go_ret3
          exact ToCodesAns.no HP.out (by decide) HB4.out
        | true =>
          have HX : Hid (Z.dX kind N b = 0) := dX_ok HE.out (by rw [HM.out]; exact hMN) HPE.out HQR.out.symm
          have HDW := hide (rdwidth_any M w4 (by omega))
          obtain ⟨k, hk⟩ : ∃ k : Nat, Z.dwd M = k := ⟨_, rfl⟩
          rw [hk] at HDW
          have HKW := hide hk
          clear hk
          go_wp2_with fail
          refine HDW.out.mono ?_
          rintro e w5 ⟨rfl, hww⟩
          obtain rfl : w4 = w5 := hww.symm
          clear HDW
          go_wp2_with fail
          refine (runpack_u a bl c (Z.dR kind b) (N : Int) (k : Int) w4 HRS4.out HR2.out hrl).mono ?_
          rintro e w6 ⟨v6, rfl, ho6, hb6⟩
          have HSL6 := hide (HSL4.out.below hb6)
          have HB6 := hide (bthen HB4.out hb6)
          obtain ⟨C, hC⟩ : ∃ C, unpC (Z.dR kind b) (N : Int) (k : Int) = C := ⟨_, rfl⟩
          rw [hC]
          have HCC : Hid (unpC (Z.dR kind b) (N : Int) ((Z.dwd (E.gN b) : Nat) : Int) = C) := by show _ = _; rw [HM.out, HKW.out]; exact hC
          by_cases hC0 : C = 0
          · subst hC0
            obtain ⟨hj, hl⟩ := unp_zero hN HX.out HCC.out
            rw [HM.out, HKW.out] at hl
            rw [hl] at ho6
            obtain ⟨ax, cx, hv, hsx, _⟩ := Sl.of_owns ho6
            have hcl : (ints (Z.dC kind N b)).length = N := by rw [ints_length, dC_length]
            rw [hcl] at hv hsx
            subst hv
            have HSX := hide hsx
            have HDE : Hid (Z.dE b (N : Int) kind = if Z.cdOk M (Z.dC kind N b) = false then 4 else 0) := by
              have := dE_codes HK.out hN HX.out HCC.out
              rwa [HM.out] at this
            have HLT : Hid (∀ x ∈ Z.dC kind N b, x < 18446744073709551616) := dC_lt (by rw [HM.out]; omega)
            have HCN : Hid ((Z.dC kind N b).length = N) := dC_length kind N b
            have eU : IntKind.u64.wrap (M : Int) = (M : Int) := by rw [u64_wrap]; omega
            have hsz6 := HB6.out.size
            clear hj hl ho6 hsx hcl hb6 hC
            go_wp2_with (at_make; refine wpList_make_full _ rfl _ _ 71 rfl w.heap.size 4 i0 (.bool false) 1 Tryz.underlying71 hi0 hz0 hz1 _ _ _ _ M rfl rfl rfl rfl (by rw [hz2]; omega) (by unfold maxLen; omega) hsz6 ?_)
            intro w7 ho7 hg7
            have hb7 : Below w6.heap.size w6 w7 := (Below.refl _ w6).grown hg7 (Nat.le_refl _) (by simp)
            have hrow0 : w7.ownsRow w.heap.size 4 1 (.slice (some ⟨w6.heap.size, 0, none⟩) M M) M (marks M ((Z.dC kind N b).take 0)) := by
              rw [List.take_zero, marks_nil]
              rw [toList_madeCells_one] at ho7
              exact ho7
            obtain ⟨R, hR⟩ : ∃ R, w6.heap.size = R := ⟨_, rfl⟩
            have hRl : w.heap.size ≤ R := by rw [← hR]; exact hsz6
            rw [hR] at hrow0 ⊢
            have HRR := hide hR
            have HR0 := hide hrow0
            have HB7 := hide hb7
            obtain ⟨cs, hcs⟩ : ∃ cs, Z.dC kind N b = cs := ⟨_, rfl⟩
            rw [hcs] at HSX HDE HLT HCN HR0
            have HCS := hide hcs
            clear ho7 hg7 hb7 hrow0 hR hi0 hz0 hz1 hz2 hcs
            go_wp2_with fail
            go_loopw [9, 18] (fun t i wr => ∃ j n : Nat, j ≤ N ∧ n ≤ M ∧ i = .int .i64 j ∧ t = .int .u64 n ∧ Hid (wr.ownsRow w.heap.size 4 1 (.slice (some ⟨R, 0, none⟩) M M) M (marks M (cs.take j))) ∧ Hid (Told (cs.take j) M n) ∧ Hid (Below w6.heap.size w6 wr)) (fun _ i _ => N - (intOf i).toNat)
            case atStart => exact ⟨0, 0, Nat.zero_le _, Nat.zero_le _, rfl, rfl, HR0, told_nil M, HB7⟩
            case round =>
              obtain ⟨j, n, hj, hnM, rfl, rfl, hrow, HT, hbw⟩ := hrel
              by_cases hjl : j < N
              · obtain ⟨bc, oc, rfl, hltc, d0⟩ := HSX.out.at hjl
                obtain ⟨x, hx⟩ : ∃ x, cs[j]? = some x := ⟨cs[j]'(by rw [HCN.out]; exact hjl), List.getElem?_eq_getElem _⟩
                have hxg : (ints cs).getD j 0 = (x : Int) := by rw [ints_getD, List.getD_eq_getElem?_getD, hx]; rfl
                rw [hxg] at d0
                have d1 : wr.cell? ⟨bc, oc + j, none⟩ = some (.int .u64 (x : Int)) := by rw [hbw.out.cell (p := ⟨bc, oc + j, none⟩) hltc]; exact d0
                have HX := hide hx
                have htk := told_take hx
                clear d0 hx hxg
                by_cases hxM : x < M
                · have hxM2 : ¬ M ≤ x := by omega
                  have hr6 := hrow.out
                  have cR := (hr6.cellAt x (by omega)).trans (marks_at (cs.take j) hxM)
                  have fR := hr6.frozenAt x
                  have HR6 := hide hr6
                  have HTK := hide htk
                  obtain ⟨q, hq⟩ : ∃ q, decide (x ∈ cs.take j) = q := ⟨_, rfl⟩
                  rw [hq] at cR
                  have HQ := hide hq
                  clear hr6 hrow htk hq
                  cases q with
                  | true =>
                    have hin : x ∈ cs.take j := of_decide_eq_true HQ.out
                    have HIN := hide hin
                    clear hin
                    go_wp2
                    go_roundw
                    case rel => exact ⟨j + 1, n, by omega, hnM, by go_num, rfl, by rw [HTK.out, marks_same HIN.out]; exact HR6, by rw [HTK.out]; exact HT.out.same HIN.out, hbw⟩
                    case measure => simp [intOf]; omega
                  | false =>
                    have hni : x ∉ cs.take j := of_decide_eq_false HQ.out
                    have HT2 := hide (HT.out.more hxM hni)
                    have hn1 := HT2.out.le
                    clear hni
                    go_wp2
                    go_roundw
                    case rel =>
                      refine ⟨j + 1, n + 1, by omega, hn1, by go_num, by go_num, ?_, by rw [HTK.out]; exact HT2, ?_⟩
                      · have := (HR6.out.stored x (.bool true)).1
                        rw [marks_set _ hxM] at this
                        rw [HTK.out]
                        exact this
                      · exact hide (hbw.out.trans ((Kept.setCell (F := fun k => k = R) (p := ⟨R, x, none⟩) (Kept.refl _ _) (.inl rfl) _).below hbw.out.size (by rintro k rfl; rw [HRR.out]; exact Nat.le_refl _)))
                    case measure => simp [intOf]; omega
                · have hxM2 : M ≤ x := by omega
                  have hno : Z.cdOk M cs = false := by
                    cases hq : Z.cdOk M cs with
                    | false => rfl
                    | true => exact absurd ((cdOk_iff.1 hq).1 x (List.mem_of_getElem? HX.out)) hxM
                  have HP : Hid (Z.dE b (N : Int) kind = 4) := by show _ = _; rw [HDE.out, hno]; rfl
                  have HBF := hide (bthen HB6.out hbw.out)
                  clear hno htk
                  go_wp2
                  go_ret3
                  exact ToCodesAns.no HP.out (by decide) HBF.out
              · obtain rfl : j = N := by omega
                have hall : cs.take j = cs := by rw [← HCN.out, List.take_length]
                have hT := HT.out
                rw [hall] at hT
                have hres := hT.all
                have HBF := hide (bthen HB6.out hbw.out)
                have HSL9 := hide (HSL6.out.below hbw.out)
                have HSX9 := hide (HSX.out.below hbw.out)
                by_cases hnm : n = M
                · have hok : Z.cdOk M cs = true := by rw [← hres, hnm]; simp
                  have HP : Hid (Z.dE b (j : Int) kind = 0) := by show _ = _; rw [HDE.out, hok]; rfl
                  have hw : Z.dWs b (j : Int) kind = Z.dW kind b := by unfold Z.dWs; rw [if_pos HP.out]
                  have hc : Z.dCs b (j : Int) kind = cs := by unfold Z.dCs; rw [if_pos HP.out, Int.toNat_natCast]; exact HCS.out
                  have FIN : Hid (ToCodesAns b (j : Int) kind w (.returned (.tuple #[.slice ra M rc, .slice ax j cx, .int .i64 0])) wr) := by
                    refine ⟨ra, rc, ax, cx, ?_, ?_, ?_, HBF.out⟩
                    · rw [hw, hc, HWL.out, HCN.out, HP.out]
                    · rw [hw, HWL.out]; exact HSL9.out
                    · rw [hc, HCN.out]; exact HSX9.out
                  subst hnm
                  clear hall hT hres hok hw hc
                  go_wp2
                  go_ret3
                  exact FIN.out
                · have hok : Z.cdOk M cs = false := by rw [← hres]; simp; omega
                  have HP : Hid (Z.dE b (j : Int) kind = 4) := by show _ = _; rw [HDE.out, hok]; rfl
                  have hnb : ((n : Int) != (M : Int)) = true := by rw [bne_iff_ne]; omega
                  clear hall hT hres hok hnm
                  go_wp2
                  go_ret3
                  exact ToCodesAns.no HP.out (by decide) HBF.out
          · have hyb : (C != 0) = true := by simpa using hC0
            have HC0 := hide hC0
            have HP : Hid (Z.dE b (N : Int) kind = C) := by show _ = _; rw [dE_bits HK.out hN HX.out (by rw [HCC.out]; exact hC0), HCC.out]
            clear hC hC0 ho6 hb6
            go_wp2
            go_ret3
            exact ToCodesAns.no HP.out HC0.out HB6.out
      · obtain ⟨y, hy⟩ : ∃ y : Int, ((Z.pE kind M bd : Nat) : Int) = y := ⟨_, rfl⟩
        have hy0 : y ≠ 0 := by omega
        have HY0 := hide hy0
        have hyb : (y != 0) = true := by simpa using hy0
        have HP : Hid (Z.dE b (N : Int) kind = y) := by
          have h2 : Z.pE kind (E.gN b) (b.drop (E.gK b)) = Z.pE kind M bd := by rw [HM.out, HKK.out, HBD.out]
          have h1 : Z.dX kind N b = Z.pE kind M bd := by rw [dX_val HE.out (by rw [HM.out]; exact hMN) (by rw [h2]; exact hpe), h2]
          show _ = _
          rw [dE_words HK.out hN (by rw [h1]; exact hpe), h1, hy]
        rw [hy]
        clear hy hpe hy0
        go_wp2
        go_ret3
        exact ToCodesAns.no HP.out HY0.out HB2.out
  · obtain ⟨y, hy⟩ : ∃ y : Int, ((X : Nat) : Int) = y := ⟨_, rfl⟩
    have hy0 : y ≠ 0 := by omega
    have HY0 := hide hy0
    have hyb : (y != 0) = true := by simpa using hy0
    have HP : Hid (Z.dE b (N : Int) kind = y) := by
      have h1 : Z.dX kind N b = X := by rw [dX_num (by rw [HE.out]; exact hX0), HE.out]
      show _ = _
      rw [dE_words HK.out hN (by rw [h1]; exact hX0), h1, hy]
    rw [hy]
    clear hy hX0 hy0
    go_wp2
    go_ret3
    exact ToCodesAns.no HP.out HY0.out HB0.out
end Go.Proofs.YtmhfpipeoojacaaGreat
/- dict.Of: a column's values, of bytes. Conditions: fewer than 2^47 bytes. -/
namespace Go.Proofs.YtmhfpipeoojacaaGreat
set_option linter.unusedVariables false
set_option maxRecDepth 10000
open Go.RowKit
def DictOfAns (b : List Nat) (n kind : Int) (w : World) (e : Ending) (w' : World) : Prop := ∃ a c, e = .returned (.tuple #[.slice a (Z.dVs b n kind).length c, .int .i64 (Z.dE b n kind)]) ∧ SlV w' a (Z.dVs b n kind).length c (Z.dVs b n kind) ∧ Below w.heap.size w w'
theorem DictOfAns.no {b : List Nat} {n kind E : Int} {w w' : World} (h : Z.dE b n kind = E) (h0 : E ≠ 0) (hb : Below w.heap.size w w') : DictOfAns b n kind w (.returned (.tuple #[.slice none 0 0, .int .i64 E])) w' := by
  obtain ⟨_, _, h3⟩ := dWs_bad (b := b) (n := n) (kind := kind) (by rw [h]; exact h0)
  unfold DictOfAns; rw [h3, h]
  exact ⟨none, 0, rfl, SlV.nil _, hb⟩
/-- The values of the first codes, and room for the others. -/
def Z.dF (ws : List Z.V) (cs : List Nat) (N j : Nat) : List Z.V := Z.dV ws (cs.take j) ++ List.replicate (N - j) Z.z0
theorem dF_length {ws : List Z.V} {cs : List Nat} {N j : Nat} (hc : cs.length = N) (h : j ≤ N) : (Z.dF ws cs N j).length = N := by
  unfold Z.dF; rw [List.length_append, dV_length, List.length_take, List.length_replicate]; omega
theorem dF_at {ws : List Z.V} {cs : List Nat} {N j : Nat} (hc : cs.length = N) (h : j < N) : (Z.dF ws cs N j)[j]? = some Z.z0 := by
  unfold Z.dF
  have h1 : (Z.dV ws (cs.take j)).length = j := by rw [dV_length, List.length_take]; omega
  rw [List.getElem?_append_right (by omega), h1, Nat.sub_self, show N - j = (N - (j + 1)) + 1 by omega, List.replicate_succ]
  rfl
theorem dF_set {ws : List Z.V} {cs : List Nat} {N j x : Nat} {y : Z.V} (hc : cs.length = N) (h : j < N) (hx : cs[j]? = some x) (hy : ws[x]? = some y) : (Z.dF ws cs N j).set j y = Z.dF ws cs N (j + 1) := by
  unfold Z.dF
  have h1 : (Z.dV ws (cs.take j)).length = j := by rw [dV_length, List.length_take]; omega
  rw [show N - j = (N - (j + 1)) + 1 by omega, List.replicate_succ, List.set_append_right _ _ (by omega), h1, Nat.sub_self, List.set_cons_zero, List.take_add_one, hx]
  unfold Z.dV
  rw [List.map_append]
  simp [hy]
theorem dE_ok {b : List Nat} {n kind : Int} (h : Z.dE b n kind = 0) : 0 ≤ n ∧ n ≤ 4096 ∧ (Z.dWs b n kind).length ≤ 4096 ∧ ((Z.dCs b n kind).length : Int) = n ∧ ∀ x ∈ Z.dCs b n kind, x < (Z.dWs b n kind).length := by
  obtain ⟨h1, h2, h3, h4⟩ := dE_zero h
  have hw : Z.dWs b n kind = Z.dW kind b := by unfold Z.dWs; rw [if_pos h]
  have hc : Z.dCs b n kind = Z.dC kind n.toNat b := by unfold Z.dCs; rw [if_pos h]
  have hm := h4.most
  refine ⟨h2, h3, by rw [hw, dW_length]; omega, by rw [hc, dC_length]; omega, ?_⟩
  rw [hc, hw, dW_length]
  exact (cdOk_iff.1 h4.code).1
set_option maxHeartbeats 2000000 in
theorem dof_any (ao : Option Addr) (len cap : Nat) (b : List Nat) (n kind : Int) (w : World) (h : Sl w .u8 ao len cap (ints b)) (h256 : ∀ x ∈ b, x < 256) (hm : len ≤ 140737488355328) :
    Calls Tryz.prog 8 #[.slice ao len cap, .int .i64 n, .int .i64 kind] w (DictOfAns b n kind w) := by
  obtain ⟨i0, hi0, hz0, hz1, hz2⟩ := info_parts Tryz.infoVal
  have HTC := hide (tocodes_any ao len cap b n kind w h h256 hm)
  clear h h256
  go_enter Tryz.func8, Tryz.ntmps8
  go_wp2_with fail
  refine HTC.out.mono ?_
  rintro e w1 ⟨a1, c1, a2, c2, rfl, hs1, hs2, hb1⟩
  have HB1 := hide hb1
  clear hb1 HTC
  obtain ⟨X, hX⟩ : ∃ X, Z.dE b n kind = X := ⟨_, rfl⟩
  rw [hX]
  have HX := hide hX
  by_cases hX0 : X = 0
  · subst hX0
    obtain ⟨g0, g1, g2, g3, g4⟩ := dE_ok hX
    obtain ⟨N, rfl⟩ := Int.eq_ofNat_of_zero_le g0
    have hN : N ≤ 4096 := by omega
    obtain ⟨ws, hws⟩ : ∃ ws, Z.dWs b (N : Int) kind = ws := ⟨_, rfl⟩
    obtain ⟨cs, hcs⟩ : ∃ cs, Z.dCs b (N : Int) kind = cs := ⟨_, rfl⟩
    have hdv : Z.dVs b (N : Int) kind = Z.dV ws cs := by unfold Z.dVs; rw [hws, hcs]
    rw [hws] at hs1 g2 g4 ⊢
    rw [hcs] at hs2 g3 g4 ⊢
    have hcn : cs.length = N := by omega
    rw [hcn] at hs2 ⊢
    obtain ⟨M, hM⟩ : ∃ M, ws.length = M := ⟨_, rfl⟩
    rw [hM] at hs1 g2 g4 ⊢
    have HS1 := hide hs1
    have HS2 := hide hs2
    have HG := hide g4
    have HCN := hide hcn
    have HDV := hide hdv
    clear hs1 hs2 g0 g1 g3 g4 hws hcs hcn hdv hX hM
    go_wp2_with (at_make; refine wpList_make_full _ rfl _ _ 22 rfl w.heap.size 45 i0 _ 3 Tryz.underlying22 hi0 hz0 hz1 _ _ _ _ N rfl rfl rfl rfl (by rw [hz2]; omega) (by unfold maxLen; omega) HB1.out.size ?_)
    intro w4 ho hg
    have hb4 : Below w1.heap.size w1 w4 := (Below.refl _ _).grown hg (Nat.le_refl _) (by simp)
    have hrow0 : OwnV w4 w.heap.size (.slice (some ⟨w1.heap.size, 0, none⟩) N N) (Z.dF ws cs N 0) := by
      unfold OwnV
      rw [dF_length HCN.out (Nat.zero_le _)]
      unfold Z.dF
      rw [show Z.dV ws (cs.take 0) = [] from rfl, List.nil_append, Nat.sub_zero, cellsV_replicate]
      exact ho
    obtain ⟨R, hR⟩ : ∃ R, w1.heap.size = R := ⟨_, rfl⟩
    have hRl : w.heap.size ≤ R := by rw [← hR]; exact HB1.out.size
    have HR0 := hide hrow0
    have HB4 := hide hb4
    rw [hR] at HR0 ⊢
    have HRR := hide hR
    clear hrow0 ho hg hb4 hR hi0 hz0 hz1 hz2
    go_wp2_with fail
    go_loopw [29] (fun i wr => ∃ j : Nat, j ≤ N ∧ i = .int .i64 j ∧ Hid (OwnV wr w.heap.size (.slice (some ⟨R, 0, none⟩) N N) (Z.dF ws cs N j)) ∧ Hid (Below w1.heap.size w1 wr)) (fun i _ => N - (intOf i).toNat)
    case atStart => exact ⟨0, Nat.zero_le _, rfl, HR0, HB4⟩
    case round =>
      obtain ⟨j, hj, rfl, hrow, hbw⟩ := hrel
      by_cases hjl : j < N
      · obtain ⟨bc, oc, rfl, hltc, d0⟩ := HS2.out.at hjl
        obtain ⟨x, hx⟩ : ∃ x, cs[j]? = some x := ⟨cs[j]'(by rw [HCN.out]; exact hjl), List.getElem?_eq_getElem _⟩
        have hxg : (ints cs).getD j 0 = (x : Int) := by rw [ints_getD, List.getD_eq_getElem?_getD, hx]; rfl
        rw [hxg] at d0
        have d1 : wr.cell? ⟨bc, oc + j, none⟩ = some (.int .u64 (x : Int)) := by rw [hbw.out.cell (p := ⟨bc, oc + j, none⟩) hltc]; exact d0
        have hxM : x < M := HG.out x (List.mem_of_getElem? hx)
        obtain ⟨bv, ov, vk, vi, vs, rfl, hltv, hy, k1, k2, k3⟩ := HS1.out.at hxM
        have e1 : wr.cell? ⟨bv, ov + x * 3, none⟩ = some (.int .i64 vk) := by rw [hbw.out.cell (p := ⟨bv, ov + x * 3, none⟩) hltv]; exact k1
        have e2 : wr.cell? ⟨bv, ov + x * 3 + 1, none⟩ = some (.int .i64 vi) := by rw [hbw.out.cell (p := ⟨bv, ov + x * 3 + 1, none⟩) hltv]; exact k2
        have e3 : wr.cell? ⟨bv, ov + x * 3 + 2, none⟩ = some (.string vs) := by rw [hbw.out.cell (p := ⟨bv, ov + x * 3 + 2, none⟩) hltv]; exact k3
        have hr6 := hrow.out
        unfold OwnV at hr6
        rw [dF_length HCN.out hj] at hr6
        obtain ⟨z0, z1, z2⟩ := cellsV_get _ j _ (dF_at (ws := ws) HCN.out hjl)
        have c0 := (hr6.cellAt (j * 3) (by omega)).trans z0
        have c1 := (hr6.cellAt (j * 3 + 1) (by omega)).trans z1
        have c2 := (hr6.cellAt (j * 3 + 2) (by omega)).trans z2
        have f0 := hr6.frozenAt (j * 3)
        have f1 := hr6.frozenAt (j * 3 + 1)
        have f2 := hr6.frozenAt (j * 3 + 2)
        have HR6 := hide hr6
        have HX := hide hx
        have HY := hide hy
        clear hr6 z0 z1 z2 d0 k1 k2 k3 hx hy hxg hrow
        go_wp2
        go_roundw
        case rel =>
          have hk3 : Kept (fun k => k = R) wr (((wr.setCell ⟨R, j * 3, none⟩ (.int .i64 vk)).setCell ⟨R, j * 3 + 1, none⟩ (.int .i64 vi)).setCell ⟨R, j * 3 + 2, none⟩ (.string vs)) :=
            Kept.setCell (F := fun k => k = R) (p := ⟨R, j * 3 + 2, none⟩) (Kept.setCell (F := fun k => k = R) (p := ⟨R, j * 3 + 1, none⟩) (Kept.setCell (F := fun k => k = R) (p := ⟨R, j * 3, none⟩) (Kept.refl _ _) (.inl rfl) _) (.inl rfl) _) (.inl rfl) _
          have hrb := ((((HR6.out.stored (j * 3) (.int .i64 vk)).1.stored (j * 3 + 1) (.int .i64 vi)).1).stored (j * 3 + 2) (.string vs)).1
          refine ⟨j + 1, hjl, by go_num, ?_, hide (hbw.out.trans (hk3.below hbw.out.size (by rintro k rfl; rw [HRR.out]; exact Nat.le_refl _)))⟩
          show OwnV _ _ _ _
          unfold OwnV
          rw [← dF_set HCN.out hjl HX.out HY.out, cellsV_set _ _ _ (by rw [dF_length HCN.out hj]; exact hjl), List.length_set, dF_length HCN.out hj]
          exact hrb
        case measure => simp [intOf]; omega
      · obtain rfl : j = N := by omega
        have hfull : Z.dF ws cs j j = Z.dVs b (j : Int) kind := by
          rw [HDV.out]
          unfold Z.dF
          rw [Nat.sub_self, List.replicate_zero, List.append_nil, ← HCN.out, List.take_length]
        have hrow1 := hrow.out
        rw [hfull] at hrow1
        have hlen : (Z.dVs b (j : Int) kind).length = j := by rw [HDV.out, dV_length]; exact HCN.out
        obtain ⟨ra, rc, hv, hsl, _⟩ := SlV.of_own hrow1
        rw [hlen] at hv hsl
        injection hv with hv1 _ hv3
        subst hv1 hv3
        have FIN : Hid (DictOfAns b (j : Int) kind w (.returned (.tuple #[.slice (some ⟨R, 0, none⟩) j j, .int .i64 0])) wr) := ⟨_, j, by rw [hlen, HX.out], by rw [hlen]; exact hsl, bthen HB1.out hbw.out⟩
        clear hfull hrow1 hlen hsl hrow
        go_wp2
        go_ret2
        exact FIN.out
  · have hyb : (X != 0) = true := by simpa using hX0
    have HX0 := hide hX0
    clear hX hX0 hs1 hs2
    go_wp2
    go_ret2
    exact DictOfAns.no HX.out HX0.out HB1.out
end Go.Proofs.YtmhfpipeoojacaaGreat

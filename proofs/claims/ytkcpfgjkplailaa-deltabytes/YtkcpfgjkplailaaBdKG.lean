/- The document's Of of a column's numbers. Conditions: fewer than 2^47 bytes. -/
import Derived.Test.YtkcpfgjkplailaaBdY
import Derived.Test.YtkcpfgjkplailaaBdX
import Derived.Test.YtkcpfgjkplailaaBdS
namespace Go.Proofs.Ytkcpfgjkplailaa
set_option linter.unusedVariables false
set_option maxRecDepth 10000
open Go.RowKit
set_option maxHeartbeats 4000000 in
theorem drof_some (ao : Option Addr) (len cap : Nat) (b : List Nat) (N : Nat) (w : World) (h : Sl w .u8 ao len cap (ints b)) (h256 : ∀ x ∈ b, x < 256) (hl : len ≤ 140737488355328) (h0 : 0 < N) (hN : N ≤ 4096) :
    Calls Try.prog 13 #[.slice ao len cap, .int .i64 (N : Int)] w (DeltaOfAns b (N : Int) w) := by
  have hcl : b.length = len := by rw [← h.1, ints_length]
  obtain ⟨m, hm⟩ : ∃ m, N - 1 = m := ⟨_, rfl⟩
  have hN1 : (N : Int) - 1 = (m : Int) := by omega
  have hnz : ((N : Int) == 0) = false := by simp; omega
  have hmm : IntKind.i64.wrap (m : Int) = (m : Int) := by rw [IntKind.wrap_i64]; omega
  have HS := hide h
  have H256 := hide h256
  have HL := hide hcl
  have HMM := hide hm
  have HB0 : Hid (Below w.heap.size w w) := Below.refl _ _
  have hm4 : m ≤ 4096 := by omega
  have HN1 := hide hN1
  clear h h256 hcl hm
  go_enter Try.func13, Try.ntmps13
  go_wp2_with fail
  refine (rget_any _ _ _ b _ HS.out H256.out hl).mono ?_
  rintro e w1 ⟨rfl, hw1⟩
  obtain rfl : w = w1 := hw1.symm
  obtain ⟨X, hX⟩ : ∃ X : Nat, E.gE b = X := ⟨_, rfl⟩
  obtain ⟨K, hK⟩ : ∃ K : Nat, E.gK b = K := ⟨_, rfl⟩
  obtain ⟨M, hM⟩ : ∃ M : Nat, E.gN b = M := ⟨_, rfl⟩
  have hM64 := E.gN_lt H256.out
  rw [hM] at hM64
  rw [hX, hK, hM]
  have HE := hide hX
  have HKK := hide hK
  have HM := hide hM
  clear hX hK hM
  by_cases hX0 : X = 0
  · subst hX0
    have hKl : K ≤ len := by rw [← HKK.out, ← HL.out]; exact (E.gE_zero HE.out H256.out).1
    obtain ⟨qa, hq, hr1, hr2⟩ := rest_of HS.out hKl
    obtain ⟨r, hr⟩ : ∃ d, b.drop K = d := ⟨_, rfl⟩
    rw [hr] at hq
    have hfb : Z.fb b = r := by unfold Z.fb; rw [HKK.out, hr]
    have HR := hide hr
    have HFB := hide hfb
    have HR256 : Hid (∀ x ∈ r, x < 256) := fun x hx => H256.out x (by rw [← hr] at hx; exact List.mem_of_mem_drop hx)
    have hrl : r.length = len - K := by rw [← hq.1, ints_length]
    have HRL := hide hrl
    have HFE : Hid (Z.feE b (N : Int) = ((Z.tN m r : Nat) : Int)) := by show _ = _; rw [feE_rest h0 hN HE.out, hfb, HMM.out]
    have HQ := hide hq
    clear hq hr hfb hrl
    go_wp2_with fail
    refine (rget_any _ _ _ r _ HQ.out HR256.out (by omega)).mono ?_
    rintro e w1 ⟨rfl, hw1⟩
    obtain rfl : w = w1 := hw1.symm
    obtain ⟨Y, hY⟩ : ∃ Y : Nat, E.gE r = Y := ⟨_, rfl⟩
    obtain ⟨J, hJ⟩ : ∃ J : Nat, E.gK r = J := ⟨_, rfl⟩
    obtain ⟨W, hW⟩ : ∃ W : Nat, E.gN r = W := ⟨_, rfl⟩
    rw [hY, hJ, hW]
    have HY := hide hY
    have HJ := hide hJ
    have HW := hide hW
    clear hY hJ hW hr1 hr2
    by_cases hY0 : Y = 0
    · subst hY0
      by_cases hbig : 64 < W
      · have HP : Hid (Z.feE b (N : Int) = 4) := by show _ = _; rw [HFE.out, tN_most HY.out (by rw [HW.out]; exact hbig)]; rfl
        go_wp2
        go_ret2
        exact DeltaOfAns.no HP.out (by decide) HB0.out
      · have hW64 : W ≤ 64 := by omega
        have hJl : J ≤ len - K := by rw [← HJ.out, ← HRL.out]; exact (E.gE_zero HY.out HR256.out).1
        obtain ⟨D, hD⟩ : ∃ D, K + J = D := ⟨_, rfl⟩
        have hDl : D ≤ len := by omega
        have hKJ : (K : Int) + (J : Int) = (D : Int) := by omega
        have hDD : IntKind.i64.wrap (D : Int) = (D : Int) := by rw [IntKind.wrap_i64]; omega
        obtain ⟨qd, hq, hr1, hr2⟩ := rest_of HS.out hDl
        obtain ⟨t, ht⟩ : ∃ d, b.drop D = d := ⟨_, rfl⟩
        have ht2 : r.drop J = t := by rw [← HR.out, List.drop_drop, hD, ht]
        rw [ht] at hq
        have ht256 : ∀ x ∈ t, x < 256 := fun x hx => H256.out x (by rw [← ht] at hx; exact List.mem_of_mem_drop hx)
        have HUP := hide (runpack_u qd (len - D) (cap - D) t (m : Int) (W : Int) w hq ht256 (by omega))
        obtain ⟨u1, u2⟩ := unp_of t hm4 hW64
        obtain ⟨V, hV⟩ : ∃ V, jb t (m * W) = V := ⟨_, rfl⟩
        rw [hV] at u1 u2
        rw [u1] at HUP
        have eW : IntKind.i64.wrap (W : Int) = (W : Int) := by rw [IntKind.wrap_i64]; omega
        have HJC : Hid (jb (r.drop (E.gK r)) (m * E.gN r) = V) := by show _ = _; rw [HJ.out, HW.out, ht2, hV]
        have HU2 := hide u2
        have HTS : Hid (ints (Z.tS m r) = nums t m W) := by show _ = _; rw [tS_ints, HJ.out, HW.out, ht2]
        clear hq ht ht256 u1 u2 hV ht2 hD
        go_wp2_with fail
        refine HUP.out.mono ?_
        rintro e w2 ⟨v2, rfl, ho2, hb2⟩
        have HB2 := hide hb2
        clear hr1 hr2 hb2 HUP
        by_cases hV0 : V = 0
        · subst hV0
          rw [HU2.out rfl] at ho2
          obtain ⟨sa, sc, hv2, hs2, _⟩ := Sl.of_owns ho2
          rw [nums_length] at hv2 hs2
          subst hv2
          have hin := In64_nums t m W hW64
          have HS2 := hide hs2
          obtain ⟨G, hG⟩ : ∃ G, wid (nums t m W) = G := ⟨_, rfl⟩
          have HWD : Hid (Calls Try.prog 27 #[.slice sa m sc] w2 fun e w' => e = .returned (.int .i64 (G : Int)) ∧ w' = w2) := by
            have := rwidth_any sa m sc (nums t m W) w2 hs2 (by omega) hin.1
            rwa [hG] at this
          have HG := hide hG
          clear ho2 hs2 hin hG HU2
          go_wp2_with fail
          refine HWD.out.mono ?_
          rintro e w3 ⟨rfl, rfl⟩
          clear HWD
          by_cases hGW : G = W
          · subst hGW
            have hT : Z.tN m r = 0 := tN_ok HY.out (by rw [HW.out]; exact hW64) HJC.out (by rw [HTS.out, HG.out, HW.out])
            have hE0 : Z.feE b (N : Int) = 0 := by rw [HFE.out, hT]; rfl
            have HE0 := hide hE0
            have hlt2 : ∀ s ∈ Z.tS m r, s < 18446744073709551616 := tS_lt (by rw [HW.out]; exact hW64)
            have HLT := hide hlt2
            have hFL : Z.feL b (N : Int) = Z.vals (E.zag M :: Z.sms (E.zag M) (Z.tS m r)) := by
              rw [feL_some h0 hE0]
              unfold Z.fl
              rw [fs_tS, HM.out, HMM.out, HFB.out]
            have HZ64 := hide (zag_i64 hM64)
            obtain ⟨p, hp⟩ : ∃ p, E.zag M = p := ⟨_, rfl⟩
            have HZG : Hid (∀ w : World, Calls Try.prog 38 #[.int .u64 (M : Int)] w fun e w' => e = .returned (.int .i64 p) ∧ w' = w) := fun w => by
              have := rzag_any (M : Int) w (by omega) (by omega)
              rwa [Int.toNat_natCast, hp] at this
            rw [hp] at hFL HZ64
            have HFL := hide hFL
            have hs2 := HS2.out
            rw [← HTS.out] at hs2
            have HS3 := hide hs2
            obtain ⟨S, hS⟩ : ∃ S, Z.tS m r = S := ⟨_, rfl⟩
            have hSl : S.length = m := by rw [← hS, tS_length]
            rw [hS] at HS3 HFL HLT
            have HSL := hide hSl
            clear hE0 hFL hp hT hlt2 hs2 hS hSl HS2
            go_wp2_with fail
            refine (HZG.out _).mono ?_
            rintro e w4 ⟨rfl, hw4⟩
            obtain rfl : w3 = w4 := hw4.symm
            clear HZG
            go_wp2_with fail
            clear hN1 hmm
            have hNm : N = m + 1 := by have := HN1.out; omega
            have HNM := hide hNm
            clear hNm
            go_loopw [14, 15, 16] (fun at_ v i wr => ∃ (j : Nat) (q : Int), j ≤ N ∧ i = .int .i64 j ∧ at_ = .int .i64 q ∧ Hid ((p :: Z.sms p S)[j - 1]? = some q) ∧ Hid (OwnV wr w3.heap.size v (Z.fk p S j)) ∧ Hid (Below w3.heap.size w3 wr)) (fun _ _ i _ => N - (intOf i).toNat)
            case atStart => exact ⟨0, p, Nat.zero_le _, rfl, rfl, hide rfl, hide (World.ownsRow_nil _ _ _ _), hide (Below.refl _ _)⟩
            case round =>
              obtain ⟨j, q, hj, rfl, rfl, hq, hrow, hbw⟩ := hrel
              by_cases hjl : j < N
              · rcases Nat.eq_zero_or_pos j with hj0 | hj0
                · have hnp : ¬ 0 < j := by omega
                  have hjI : ¬ (0 : Int) < (j : Int) := by omega
                  have HJ0 := hide hj0
                  have hqp : (p :: Z.sms p S)[j]? = some q := by have := hq.out; rw [hj0] at this ⊢; exact this
                  have HFN := hide (fk_next hqp)
                  have HFL' := hide (fk_length (p := p) (S := S) (j := j) (by rw [HSL.out]; omega))
                  have HQ1 : Hid ((p :: Z.sms p S)[j + 1 - 1]? = some q) := hqp
                  have HR2 := hide (World.ownsRow.alloc hrow.out (.cells #[.int .i64 1, .int .i64 q, .string ⟨#[]⟩] 42))
                  have HB3 := hide (bthen hbw.out (below_one wr (.cells #[.int .i64 1, .int .i64 q, .string ⟨#[]⟩] 42)))
                  have hsz2 := HB3.out.size
                  clear hj0 hqp hq hrow
                  go_wp2_with (at_builtin; refine wpList_appV rfl _ _ rfl w3.heap.size _ (Z.fk p S j) rfl HR2.out (some ⟨wr.heap.size, 0, none⟩) 1 1 [⟨1, q, ⟨#[]⟩⟩] rfl (slV_one wr 1 q ⟨#[]⟩) (by rw [HFL'.out]; omega) hsz2 ?_)
                  intro v4 w4 ho4 has _
                  have hb4 : Below w3.heap.size w3 w4 := HB3.out.trans (has.below hsz2 (fun g hg => (owns_lt HR2.out hg).1))
                  rw [HFN.out] at ho4
                  have HO4 := hide ho4
                  have HB4 := hide hb4
                  clear ho4 hb4 has
                  go_wp2
                  go_roundw
                  case rel => exact ⟨j + 1, q, hjl, by go_num, rfl, HQ1, HO4, HB4⟩
                  case measure => simp [intOf]; omega
                · obtain ⟨i, hi⟩ : ∃ i, j = i + 1 := ⟨j - 1, by omega⟩
                  have e1 : (j : Int) - 1 = (i : Int) := by omega
                  have e3 : IntKind.i64.wrap (i : Int) = (i : Int) := by rw [IntKind.wrap_i64]; omega
                  have him : i < m := by have := HNM.out; omega
                  have hii : (i : Int) < (m : Int) := by omega
                  obtain ⟨bb, off, rfl, hlt, c0⟩ := HS3.out.here him
                  obtain ⟨s, hs⟩ : ∃ s, S[i]? = some s := ⟨S[i]'(by rw [HSL.out]; exact him), List.getElem?_eq_getElem _⟩
                  have hsg : (ints S).getD i 0 = (s : Int) := by rw [ints_getD, List.getD_eq_getElem?_getD, hs]; rfl
                  rw [hsg] at c0
                  have d1 : wr.cell? ⟨bb, off + i, none⟩ = some (.int .u64 (s : Int)) := by rw [hbw.out.cell (p := ⟨bb, off + i, none⟩) hlt]; exact c0
                  have hs64 := HLT.out s (List.mem_of_getElem? hs)
                  obtain ⟨q', h1, h2⟩ := sms_get p S i s hs
                  have hqq : q' = q := by have h3 := hq.out; rw [hi, Nat.add_sub_cancel, h1] at h3; exact Option.some.inj h3
                  subst hqq
                  have HZG : Hid (∀ w : World, Calls Try.prog 38 #[.int .u64 (s : Int)] w fun e w' => e = .returned (.int .i64 (E.zag s)) ∧ w' = w) := fun w => by
                    have := rzag_any (s : Int) w (by omega) (by omega)
                    rwa [Int.toNat_natCast] at this
                  obtain ⟨g, hg⟩ : ∃ g, E.zag s = g := ⟨_, rfl⟩
                  rw [hg] at HZG h2
                  obtain ⟨y, hy⟩ : ∃ y, wrap64 (q' + g) = y := ⟨_, rfl⟩
                  have hy2 : IntKind.i64.wrap (q' + g) = y := by rw [IntKind.wrap_i64, ← hy]; unfold wrap64; omega
                  rw [hy, ← hi] at h2
                  have HY1 : Hid ((p :: Z.sms p S)[j + 1 - 1]? = some y) := h2
                  have HFN := hide (fk_next h2)
                  have HFL' := hide (fk_length (p := p) (S := S) (j := j) (by rw [HSL.out]; omega))
                  have HR2 := hide (World.ownsRow.alloc hrow.out (.cells #[.int .i64 1, .int .i64 y, .string ⟨#[]⟩] 42))
                  have HB3 := hide (bthen hbw.out (below_one wr (.cells #[.int .i64 1, .int .i64 y, .string ⟨#[]⟩] 42)))
                  have hsz2 := HB3.out.size
                  have hjp : 0 < j := hj0
                  clear c0 hs hsg h1 h2 hg hrow hq hi
                  go_wp2_with fail
                  refine (HZG.out _).mono ?_
                  rintro e w2 ⟨rfl, hw2⟩
                  obtain rfl : wr = w2 := hw2.symm
                  clear HZG
                  go_wp2_with (at_builtin; refine wpList_appV rfl _ _ rfl w3.heap.size _ (Z.fk p S j) rfl HR2.out (some ⟨wr.heap.size, 0, none⟩) 1 1 [⟨1, y, ⟨#[]⟩⟩] rfl (slV_one wr 1 y ⟨#[]⟩) (by rw [HFL'.out]; omega) hsz2 ?_)
                  intro v4 w4 ho4 has _
                  have hb4 : Below w3.heap.size w3 w4 := HB3.out.trans (has.below hsz2 (fun g hg => (owns_lt HR2.out hg).1))
                  rw [HFN.out] at ho4
                  have HO4 := hide ho4
                  have HB4 := hide hb4
                  clear ho4 hb4 has
                  go_wp2
                  go_roundw
                  case rel => exact ⟨j + 1, y, hjl, by go_num, rfl, HY1, HO4, HB4⟩
                  case measure => simp [intOf]; omega
              · obtain rfl : j = N := by omega
                have hrow1 := hrow.out
                rw [fk_all (by rw [HSL.out]; have := HNM.out; omega), ← HFL.out] at hrow1
                obtain ⟨xa, xc, hv4, hs4, _⟩ := SlV.of_own hrow1
                have FIN : Hid (DeltaOfAns b (j : Int) w (.returned (.tuple #[u15, .int .i64 0])) wr) := ⟨xa, xc, by rw [hv4, HE0.out], hs4, bthen HB2.out hbw.out⟩
                clear hrow1 hv4 hs4 hrow
                go_wp2
                go_ret2
                exact FIN.out
          · have HP : Hid (Z.feE b (N : Int) = 4) := by show _ = _; rw [HFE.out, tN_just HY.out (by rw [HW.out]; exact hW64) HJC.out (by rw [HTS.out, HG.out, HW.out]; exact hGW)]; rfl
            have hne : ((G : Int) != (W : Int)) = true := by simp; omega
            go_wp2
            go_ret2
            exact DeltaOfAns.no HP.out (by decide) HB2.out
        · have HP : Hid (Z.feE b (N : Int) = (V : Int)) := by show _ = _; rw [HFE.out, tN_bits HY.out (by rw [HW.out]; exact hW64) (by rw [HJC.out]; exact hV0), HJC.out]
          have hne : ((V : Int) != 0) = true := by simp; omega
          have HV0 : Hid ((V : Int) ≠ 0) := by show _ ≠ _; omega
          clear ho2 hV0 HU2
          go_wp2
          go_ret2
          exact DeltaOfAns.no HP.out HV0.out HB2.out
    · have HP : Hid (Z.feE b (N : Int) = (Y : Int)) := by show _ = _; rw [HFE.out, tN_num (by rw [HY.out]; exact hY0), HY.out]
      have hne : ((Y : Int) != 0) = true := by simp; omega
      have HY0 : Hid ((Y : Int) ≠ 0) := by show _ ≠ _; omega
      clear hY0
      go_wp2
      go_ret2
      exact DeltaOfAns.no HP.out HY0.out HB0.out
  · have HP : Hid (Z.feE b (N : Int) = (X : Int)) := by show _ = _; rw [feE_num h0 hN (by rw [HE.out]; exact hX0), HE.out]
    have hne : ((X : Int) != 0) = true := by simp; omega
    have HX0 : Hid ((X : Int) ≠ 0) := by show _ ≠ _; omega
    clear hX0
    go_wp2
    go_ret2
    exact DeltaOfAns.no HP.out HX0.out HB0.out
theorem drof_any (ao : Option Addr) (len cap : Nat) (b : List Nat) (n : Int) (w : World) (h : Sl w .u8 ao len cap (ints b)) (h256 : ∀ x ∈ b, x < 256) (hl : len ≤ 140737488355328) :
    Calls Try.prog 13 #[.slice ao len cap, .int .i64 n] w (DeltaOfAns b n w) := by
  have HB0 : Hid (Below w.heap.size w w) := Below.refl _ _
  by_cases hn : n < 0 ∨ 4096 < n
  · have FIN : Hid (∀ w', Below w.heap.size w w' → DeltaOfAns b n w (.returned (.tuple #[.slice none 0 0, .int .i64 2])) w') := fun w' hb => DeltaOfAns.many hn hb
    clear h h256
    rcases hn with hn | hn
    · go_enter Try.func13, Try.ntmps13
      go_wp2
      go_ret2
      exact FIN.out _ HB0.out
    · have hn0 : ¬ n < 0 := by omega
      go_enter Try.func13, Try.ntmps13
      go_wp2
      go_ret2
      exact FIN.out _ HB0.out
  · obtain ⟨N, rfl⟩ := Int.eq_ofNat_of_zero_le (show 0 ≤ n by omega)
    by_cases h0 : N = 0
    · subst h0
      have hcl : b.length = len := by rw [← h.1, ints_length]
      by_cases hz : len = 0
      · have hE : Z.feE b 0 = 0 := by
          rw [feE_none]
          cases b with
          | nil => rfl
          | cons x t => simp at hcl; omega
        have FIN : Hid (∀ w', Below w.heap.size w w' → DeltaOfAns b ((0 : Nat) : Int) w (.returned (.tuple #[.slice none 0 0, .int .i64 0])) w') := fun w' hb => DeltaOfAns.bare hE hb
        clear h h256 hE hcl
        subst hz
        go_enter Try.func13, Try.ntmps13
        go_wp2
        go_ret2
        exact FIN.out _ HB0.out
      · have hE : Z.feE b 0 = 4 := by
          rw [feE_none]
          cases b with
          | nil => simp at hcl; omega
          | cons x t => rfl
        have FIN : Hid (∀ w', Below w.heap.size w w' → DeltaOfAns b ((0 : Nat) : Int) w (.returned (.tuple #[.slice none 0 0, .int .i64 4])) w') := fun w' hb => DeltaOfAns.no hE (by decide) hb
        have hz2 : 0 < len := by omega
        clear h h256 hE hcl hz
        go_enter Try.func13, Try.ntmps13
        go_wp2
        go_ret2
        exact FIN.out _ HB0.out
    · exact drof_some ao len cap b N w h h256 hl (by omega) (by omega)
end Go.Proofs.Ytkcpfgjkplailaa

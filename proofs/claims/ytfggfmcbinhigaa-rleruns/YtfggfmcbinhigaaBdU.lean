/- The document's Spread, Bytes. -/
import Derived.Test.YtfggfmcbinhigaaBdT
import Derived.Test.YtfggfmcbinhigaaBdS
import Derived.Test.YtfggfmcbinhigaaBdR
namespace Go.Proofs.Ytfggfmcbinhigaa
set_option linter.unusedVariables false
open Go.RowKit

set_option maxHeartbeats 2000000 in
theorem rspread_some (b off len cap : Nat) (rs : List Z.R) (w : World) (hl : rs.length = len) (hm : len ≤ 100000000) (hlt : b < w.heap.size) (hnp : ∀ r ∈ rs, r.n ≤ 4096)
    (hc : ∀ j x, rs[j]? = some x → w.cell? ⟨b, off + j * 4, none⟩ = some (.int .i64 x.n) ∧ w.cell? ⟨b, off + j * 4 + 1, none⟩ = some (.int .i64 x.v.k) ∧ w.cell? ⟨b, off + j * 4 + 2, none⟩ = some (.int .i64 x.v.i) ∧ w.cell? ⟨b, off + j * 4 + 3, none⟩ = some (.string x.v.s)) :
    Calls Try.prog 28 #[.slice (some ⟨b, off, none⟩) len cap] w fun e w' => ∃ v, e = .returned v ∧ OwnV w' w.heap.size v (Z.spr rs) ∧ Below w.heap.size w w' := by
  have HC := hide hc
  have HL := hide hl
  have HNP := hide hnp
  clear hc hl hnp
  go_enter Try.func28, Try.ntmps28
  go_wp2_with fail
  go_loopw [3, 4] (fun v i wr => ∃ j : Nat, j ≤ len ∧ i = .int .i64 j ∧ Hid (OwnV wr w.heap.size v (Z.spr (rs.take j))) ∧ Hid (Below w.heap.size w wr)) (fun _ i _ => len - (intOf i).toNat)
  case atStart => exact ⟨0, Nat.zero_le _, rfl, hide (World.ownsRow_nil _ _ _ _), hide (Below.refl _ _)⟩
  case round =>
    obtain ⟨j, hj, rfl, hrow, hbw⟩ := hrel
    by_cases hjl : j < len
    · obtain ⟨⟨n, ⟨xk, xi, xs⟩⟩, hx⟩ : ∃ x, rs[j]? = some x := ⟨rs[j]'(by rw [HL.out]; exact hjl), List.getElem?_eq_getElem _⟩
      obtain ⟨c1, c2, c3, c4⟩ := HC.out j _ hx
      have HX := hide hx
      have HC1 := hide c1
      have HC2 := hide c2
      have HC3 := hide c3
      have HC4 := hide c4
      have hn4 : n ≤ 4096 := HNP.out _ (List.mem_of_getElem? hx)
      have hl4 := spr_length (rs.take j)
      obtain ⟨M, hM⟩ : ∃ M, Z.spK (rs.take j) n = M := ⟨_, rfl⟩
      obtain ⟨m, hmm⟩ : ∃ m, (Z.spr (rs.take j)).length = m := ⟨_, rfl⟩
      rw [hmm] at hl4
      have hMM : (min n (4096 - (m : Int))).toNat = M := by rw [← hM, ← hmm]; rfl
      have HMM := hide hmm
      have HK := hide hM
      have HM3 := hide hMM
      have HN4 := hide hn4
      have HL4 := hide hl4
      clear c1 c2 c3 c4 hx hmm hM hMM hn4 hl4
      go_wp2_with fail
      go_loopw [3, 5] (fun v i wq => ∃ c : Nat, c ≤ M ∧ i = .int .i64 c ∧ Hid (OwnV wq w.heap.size v (Z.spr (rs.take j) ++ List.replicate c ⟨xk, xi, xs⟩)) ∧ Hid (Below w.heap.size w wq)) (fun _ i _ => M - (intOf i).toNat)
      case atStart => exact ⟨0, Nat.zero_le _, rfl, by rw [List.replicate_zero, List.append_nil]; exact hrow, hbw⟩
      case round =>
        obtain ⟨c, hcM, rfl, hrow, hbw⟩ := hrel
        have d1 : wr.cell? ⟨b, off + j * 4, none⟩ = some (.int .i64 n) := by rw [hbw.out.cell (p := ⟨b, off + j * 4, none⟩) hlt]; exact HC1.out
        have d2 : wr.cell? ⟨b, off + j * 4 + 1, none⟩ = some (.int .i64 xk) := by rw [hbw.out.cell (p := ⟨b, off + j * 4 + 1, none⟩) hlt]; exact HC2.out
        have d3 : wr.cell? ⟨b, off + j * 4 + 2, none⟩ = some (.int .i64 xi) := by rw [hbw.out.cell (p := ⟨b, off + j * 4 + 2, none⟩) hlt]; exact HC3.out
        have d4 : wr.cell? ⟨b, off + j * 4 + 3, none⟩ = some (.string xs) := by rw [hbw.out.cell (p := ⟨b, off + j * 4 + 3, none⟩) hlt]; exact HC4.out
        have HNL : Hid ((Z.spr (rs.take j) ++ List.replicate c (⟨xk, xi, xs⟩ : Z.V)).length = m + c) := by show _ = _; rw [List.length_append, HMM.out, List.length_replicate]
        obtain ⟨ra, rc, hv, hsl, hob⟩ := SlV.of_own hrow.out
        rw [HNL.out] at hv
        have HV := hide hv
        rw [hv]
        clear hsl hob hv
        by_cases hcl : c < M
        · have h1 : (c : Int) < n := by have := HM3.out; omega
          have h2 : ((m + c : Nat) : Int) < 4096 := by have := HM3.out; omega
          have hd1 : decide ((c : Int) < n) = true := by simpa using h1
          have b1 := below_one wr (.cells #[.int .i64 xk, .int .i64 xi, .string xs] 47)
          have hsz := hbw.out.size
          have HB1 := hide (bthen hbw.out b1)
          have HR2 := hide (hrow.out.below b1)
          rw [HV.out] at HR2
          obtain ⟨L, hL⟩ : ∃ L, m + c = L := ⟨_, rfl⟩
          rw [hL] at HR2 h2 HV ⊢
          obtain ⟨li, hli⟩ : ∃ li : Int, (L : Int) = li := ⟨_, rfl⟩
          have hd2 : ∀ n : Nat, n = L → decide ((n : Int) < 4096) = true := by rintro n rfl; simpa using h2
          replace hd2 := hd2 L rfl
          have HL2 := hide hL
          have HLN := hide h2
          have hcb : c ≤ 100000000 := by omega
          clear b1 h2 hL hli
          go_wp2_with (at_builtin; refine wpList_appV rfl _ _ rfl w.heap.size (.slice ra L rc) (Z.spr (rs.take j) ++ List.replicate c ⟨xk, xi, xs⟩) rfl HR2.out (some ⟨wr.heap.size, 0, none⟩) 1 1 [⟨xk, xi, xs⟩] rfl (slV_one wr xk xi xs) (by have h1 := HL2.out; have h2 := HLN.out; rw [HNL.out]; omega) (by simp; omega) ?_)
          intro v4 w4 ho4 has _
          have hb4 : Below w.heap.size w w4 := HB1.out.trans (has.below (by simp; omega) (fun k hk => (owns_lt HR2.out hk).1))
          rw [show List.replicate c (⟨xk, xi, xs⟩ : Z.V) ++ [⟨xk, xi, xs⟩] = List.replicate (c + 1) ⟨xk, xi, xs⟩ from List.replicate_succ'.symm] at ho4
          have HO4 := hide ho4
          have HB4 := hide hb4
          clear ho4 hb4 has
          go_wp2
          go_roundw
          case rel => exact ⟨c + 1, by omega, by go_num, HO4, HB4⟩
          case measure => simp [intOf]; omega
        · have HRN : Hid (OwnV wr w.heap.size (.slice ra (m + c) rc) (Z.spr (rs.take (j + 1)))) := by
            have h1 := hrow.out
            rw [HV.out] at h1
            rw [take_snocR HX.out, spr_snoc, HK.out, show M = c by omega]
            exact h1
          obtain ⟨L, hL⟩ : ∃ L, m + c = L := ⟨_, rfl⟩
          rw [hL] at HRN ⊢
          have hL2 := hL
          clear hL
          by_cases h1 : (c : Int) < n
          · have hd1 : decide ((c : Int) < n) = true := by simpa using h1
            have hd2 : decide ((L : Int) < 4096) = false := by have := HM3.out; have := HN4.out; simp; omega
            clear hrow hL2
            go_wp2
            go_roundw
            case rel => exact ⟨j + 1, hjl, by go_num, HRN, hbw⟩
            case measure => simp [intOf]; omega
          · have hd1 : decide ((c : Int) < n) = false := by simpa using h1
            clear hrow hL2
            go_wp2
            go_roundw
            case rel => exact ⟨j + 1, hjl, by go_num, HRN, hbw⟩
            case measure => simp [intOf]; omega
    · obtain rfl : j = len := by omega
      have hll : rs.take j = rs := by rw [← HL.out, List.take_length]
      have HR : Hid (OwnV wr w.heap.size u3 (Z.spr rs)) := by
        have := hrow.out
        rwa [hll] at this
      clear hll hrow
      go_wp2
      go_ret
      exact ⟨_, rfl, HR.out, hbw.out⟩
theorem rspread_none (ao : Option Addr) (cap : Nat) (w : World) : Calls Try.prog 28 #[.slice ao 0 cap] w fun e w' => ∃ v, e = .returned v ∧ OwnV w' w.heap.size v (Z.spr []) ∧ Below w.heap.size w w' := by
  go_enter Try.func28, Try.ntmps28
  go_wp2_with fail
  go_rounds 1
  go_ret
  exact ⟨_, rfl, World.ownsRow_nil _ _ _ _, Below.refl _ _⟩
theorem rspread_any (ao : Option Addr) (len cap : Nat) (rs : List Z.R) (w : World) (h : SlR w ao len cap rs) (hm : len ≤ 100000000) (hnp : ∀ r ∈ rs, r.n ≤ 4096) :
    Calls Try.prog 28 #[.slice ao len cap] w fun e w' => ∃ v, e = .returned v ∧ OwnV w' w.heap.size v (Z.spr rs) ∧ Below w.heap.size w w' := by
  rcases h.2.2.2.2 with h5 | ⟨b, off, rfl, hlt, h5⟩
  · subst h5
    obtain rfl : rs = [] := List.eq_nil_of_length_eq_zero h.1
    exact rspread_none ao cap w
  · exact rspread_some b off len cap rs w h.1 hm hlt hnp h5
end Go.Proofs.Ytfggfmcbinhigaa
/- The document's Bytes. -/
namespace Go.Proofs.Ytfggfmcbinhigaa
set_option linter.unusedVariables false
open Go.RowKit

set_option maxHeartbeats 2000000 in
theorem rfbytes_some (ao : Option Addr) (len cap : Nat) (l : List Z.V) (kind : Int) (w : World) (h : SlV w ao len cap l) (hI : ∀ x ∈ l, Z.I64 x.i) (h0 : Z.chk l kind = 0) :
    Calls Try.prog 12 #[.slice ao len cap, .int .i64 kind] w (RunBytes l kind w) := by
  have HK := hide h0
  have hm : len ≤ 4096 := by rw [← h.1]; exact (chk_zero h0).2.1
  have HF := hide (rfit_runs hI h0)
  have HCK := hide (rcheck_any _ _ _ l kind w h hI)
  have HS := hide h
  have HRL : Hid ((Z.runs l).length ≤ 4096) := by have := runs_few l; have := h.1; show _ ≤ _; omega
  clear hI h0 h
  go_enter Try.func12, Try.ntmps12
  go_wp2_with fail
  refine HCK.out.mono ?_
  rintro e w1 ⟨rfl, hb1⟩
  rw [HK.out]
  replace HS := hide (HS.out.below hb1)
  replace hb1 := hide hb1
  clear HCK
  go_wp2_with fail
  refine (rruns_any ao len cap l w1 HS.out (by omega)).mono ?_
  rintro e w2 ⟨v, rfl, ho, hb2⟩
  obtain ⟨ra, rc, rfl, hsl, _⟩ := SlR.of_own ho
  obtain ⟨m, hmm⟩ : ∃ m, (Z.runs l).length = m := ⟨_, rfl⟩
  obtain ⟨rs, hrs⟩ : ∃ rs, Z.runs l = rs := ⟨_, rfl⟩
  rw [hrs] at HF HRL hsl hmm
  rw [hrs, hmm]
  rw [hmm] at hsl HRL
  have hm4 : m ≤ 4096 := HRL.out
  have HB2 := hide (bthen hb1.out hb2)
  have HSL := hide hsl
  have HMM := hide hmm
  have HRS := hide hrs
  clear ho hb2 hsl hmm hrs HS HRL
  go_wp2_with fail
  go_loopw [7, 9] (fun v i wr => ∃ j : Nat, j ≤ m ∧ i = .int .i64 j ∧ Hid (wr.ownsRow w2.heap.size 5 1 v (Z.rb (rs.take j)).length (B8 (Z.rb (rs.take j)))) ∧ Hid (Below w2.heap.size w2 wr)) (fun _ i _ => m - (intOf i).toNat)
  case atStart => exact ⟨0, Nat.zero_le _, rfl, hide (World.ownsRow_nil _ _ _ _), hide (Below.refl _ _)⟩
  case round =>
    obtain ⟨j, hj, rfl, hrow, hbw⟩ := hrel
    by_cases hjl : j < m
    · obtain ⟨⟨n, ⟨xk, xi, xs⟩⟩, hx⟩ : ∃ x, rs[j]? = some x := ⟨rs[j]'(by rw [HMM.out]; exact hjl), List.getElem?_eq_getElem _⟩
      rcases (HSL.out.below hbw.out).2.2.2.2 with h5 | ⟨b, off, rfl, hlt, h5⟩
      · omega
      · obtain ⟨d1, d2, d3, d4⟩ := h5 j _ hx
        obtain ⟨f1, f2, f3, f4⟩ := HF.out _ (List.mem_of_getElem? hx)
        replace f1 : 1 ≤ n := f1
        replace f2 : n ≤ 4096 := f2
        have HX := hide hx
        have HXM := hide f3
        have HXI := hide f4
        have HLE := hide (rb_take_le HF.out j)
        have HD1 := hide d1
        have HLB := hide (lb_le f4 f3)
        clear hx f3 f4 h5
        go_wp2_with fail
        refine (ubytes_new _ _ _ _ HXI.out).mono ?_
        rintro e w3 ⟨qa, qc, rfl, hs3, hb3, hnew⟩
        rw [bl_may HXM.out]
        rw [bl_may HXM.out] at hs3
        obtain ⟨m6, hm6⟩ : ∃ m, (Z.lb ⟨xk, xi, xs⟩).length = m := ⟨_, rfl⟩
        rw [hm6]
        rw [hm6] at hs3 HLB
        have HB3 := hide (bthen hbw.out hb3)
        have HR3 := hide (owns_below hrow.out hb3)
        have HS3 := hide hs3
        have HNW := hide hnew
        clear d2 d3 d4 hm6
        replace d1 : w3.cell? ⟨b, off + j * 4, none⟩ = some (.int .i64 n) := by rw [hb3.cell (p := ⟨b, off + j * 4, none⟩) hlt]; exact HD1.out
        clear hs3 hb3 hnew
        go_wp2_with fail
        refine (rput_any n _ (by omega) (by omega)).mono ?_
        rintro e w4 ⟨pv, rfl, hpo, hb4⟩
        have hten := E.leb_ten n.toNat (by omega)
        obtain ⟨k, hk⟩ : ∃ k, (E.leb n.toNat).length = k := ⟨_, rfl⟩
        obtain ⟨pa, pc, rfl, hps⟩ := Sl.of_own hpo hk
        rw [hk] at hten
        have HPS := hide hps
        have HB4 := hide (bthen HB3.out hb4)
        have HR4 := hide (owns_below HR3.out hb4)
        have HS4 := hide (HS3.out.below hb4)
        have hsz4 := (bthen HB3.out hb4).size
        obtain ⟨pre, hpre⟩ : ∃ pre, Z.rb (rs.take j) ++ E.leb n.toNat = pre := ⟨_, rfl⟩
        have HP := hide hpre
        have HT : Hid (pre ++ Z.lb ⟨xk, xi, xs⟩ = Z.rb (rs.take (j + 1))) := by show _ = _; rw [← HP.out]; exact rb_take HX.out
        have HPL : Hid (pre.length ≤ 4276224 + 10) := by
          have h1 := HLE.out
          rw [HMM.out] at h1
          show _ ≤ _
          rw [← HP.out, List.length_append]
          omega
        have HRL : Hid (∀ g, u7.ownBlock = some g → g < wr.heap.size) := fun g hg => (owns_lt hrow.out hg).2
        clear hps hpo hb4 hk d1 hpre
        go_wp2_with (at_builtin; refine wpList_app rfl _ _ rfl w2.heap.size u7 (Z.rb (rs.take j)) rfl HR4.out pa k pc (E.leb n.toNat) rfl HPS.out ?c0 hsz4 pre HP.out ?_)
        case c0 =>
          have h1 := HLE.out
          rw [HMM.out] at h1
          omega
        intro v5 w5 ho5 has5
        have hb5 : Below w2.heap.size w2 w5 := HB4.out.trans (has5.below hsz4 (fun k hk => (owns_lt HR4.out hk).1))
        have HS5 : Hid (Sl w5 .u8 qa m6 qc (ints (Z.lb ⟨xk, xi, xs⟩))) := HS4.out.kept0 has5.1 (.inr fun x hx hg => by
          have h1 := HRL.out _ hg
          have h2 := HNW.out x hx
          omega)
        have HB5 := hide hb5
        have HO5 := hide ho5
        have hsz5 := hb5.size
        clear hb5 ho5 has5
        go_wp2_with (at_builtin; refine wpList_app rfl _ _ rfl w2.heap.size v5 pre rfl HO5.out qa m6 qc (Z.lb ⟨xk, xi, xs⟩) rfl HS5.out ?c1 hsz5 (Z.rb (rs.take (j + 1))) HT.out ?_)
        case c1 =>
          have h1 := HPL.out
          have h2 := HLB.out
          omega
        intro v7 w7 ho7 has7
        have hb7 : Below w2.heap.size w2 w7 := HB5.out.trans (has7.below hsz5 (fun k hk => (owns_lt HO5.out hk).1))
        have HB7 := hide hb7
        have HO7 := hide ho7
        clear hb7 ho7 has7
        go_wp2
        go_roundw
        case rel => exact ⟨j + 1, hjl, by go_num, HO7, HB7⟩
        case measure => simp [intOf]; omega
    · obtain rfl : j = m := by omega
      have hll : rs.take j = rs := by rw [← HMM.out, List.take_length]
      have HR : Hid (wr.ownsRow w2.heap.size 5 1 u7 (Z.rb (Z.runs l)).length (B8 (Z.rb (Z.runs l)))) := by
        have := hrow.out
        rwa [hll, ← HRS.out] at this
      have HBE := hide (bthen HB2.out hbw.out)
      clear hll hrow
      go_wp2
      go_ret2
      exact RunBytes.yes HK.out HR.out HBE.out
theorem rfbytes_any (ao : Option Addr) (len cap : Nat) (l : List Z.V) (kind : Int) (w : World) (h : SlV w ao len cap l) (hI : ∀ x ∈ l, Z.I64 x.i) :
    Calls Try.prog 12 #[.slice ao len cap, .int .i64 kind] w (RunBytes l kind w) := by
  by_cases h0 : Z.chk l kind = 0
  · exact rfbytes_some ao len cap l kind w h hI h0
  · have HCK := hide (rcheck_any _ _ _ l kind w h hI)
    obtain ⟨E, hE⟩ : ∃ E, Z.chk l kind = E := ⟨_, rfl⟩
    have HE := hide hE
    have hE0 : (E != 0) = true := by rw [← hE]; simpa using h0
    have HE0 := hide (show E ≠ 0 by rw [← hE]; exact h0)
    clear h hI hE h0
    go_enter Try.func12, Try.ntmps12
    go_wp2_with fail
    refine HCK.out.mono ?_
    rintro e w1 ⟨rfl, hb1⟩
    rw [HE.out]
    replace hb1 := hide hb1
    clear HCK
    go_wp2
    go_ret2
    exact RunBytes.no HE.out HE0.out hb1.out
end Go.Proofs.Ytfggfmcbinhigaa
/- The document's ToRuns, Of. -/
namespace Go.Proofs.Ytfggfmcbinhigaa
set_option linter.unusedVariables false
open Go.RowKit

set_option maxHeartbeats 4000000 in
theorem rtoruns_some (ao : Option Addr) (len cap : Nat) (b : List Nat) (N : Nat) (kind : Int) (w : World) (h : Sl w .u8 ao len cap (ints b)) (h256 : ∀ x ∈ b, x < 256) (hm : len ≤ 140737488355328) (hN : N ≤ 4096) (hk : Z.kindOk kind = true) :
    Calls Try.prog 16 #[.slice ao len cap, .int .i64 (N : Int), .int .i64 kind] w (RunsAns 60 b (N : Int) kind w) := by
  have hd1 : decide ((N : Int) < 0) = false := by simp
  have hd2 : decide ((4096 : Int) < (N : Int)) = false := by simp; omega
  have HS := hide h
  have HK := hide hk
  have H0 : Hid (RunLoop kind N b N b []) := ⟨rfl, rfl, h256, by simp⟩
  clear h h256 hk
  go_enter Try.func16, Try.ntmps16
  go_wp2_with fail
  refine (kinds_any _ _).mono ?_
  rintro e w1 ⟨rfl, rfl⟩
  rw [HK.out]
  go_wp2_with fail
  go_loopw [0, 8, 9] (fun s v nn wr => ∃ (left L c : Nat) (a : Option Addr) (bs : List Nat) (rs : List Z.R), left ≤ 4096 ∧ L ≤ 140737488355328 ∧ nn = .int .i64 left ∧ s = .slice a L c ∧ Hid (Sl w1 .u8 a L c (ints bs)) ∧ Hid (OwnR wr 60 w1.heap.size v rs) ∧ Hid (RunLoop kind N b left bs rs) ∧ Hid (Below w1.heap.size w1 wr)) (fun _ _ nn _ => (intOf nn).toNat)
  case atStart => exact ⟨N, len, cap, ao, b, [], hN, hm, rfl, rfl, HS, hide (ownR_nil _ _ _), H0, hide (Below.refl _ _)⟩
  case round =>
    obtain ⟨left, L, c, a, bs, rs, hleft, hL, rfl, rfl, hs, hrow, hlp, hbw⟩ := hrel
    by_cases h0 : 0 < left
    · have hbl : bs.length = L := by rw [← hs.out.1, ints_length]
      have HT := hide (rget_any a L c bs wr (hs.out.below hbw.out) hlp.out.low hL)
      obtain ⟨X, hX⟩ : ∃ X : Nat, E.gE bs = X := ⟨_, rfl⟩
      obtain ⟨K, hK⟩ : ∃ K : Nat, E.gK bs = K := ⟨_, rfl⟩
      obtain ⟨M, hM⟩ : ∃ M : Nat, E.gN bs = M := ⟨_, rfl⟩
      have hMlt : M < 18446744073709551616 := by rw [← hM]; exact E.gN_lt hlp.out.low
      rw [hX, hK, hM] at HT
      have HE := hide hX
      have HKK := hide hK
      have HM := hide hM
      have HBL := hide hbl
      clear hX hK hM hbl
      go_wp2_with fail
      refine HT.out.mono ?_
      rintro e w2 ⟨rfl, rfl⟩
      clear HT
      by_cases hX0 : X = 0
      · subst hX0
        by_cases hbad : M = 0 ∨ left < M
        · have HP : Hid (Z.uE b (N : Int) kind = 4) := by
            show _ = _
            have h4 : Z.r1 kind left bs = 4 := r1_form HE.out (by rw [HM.out]; exact hbad)
            rw [uE_is HK.out hN, hlp.out.err, te_bad h0 (by rw [r2_bad (by rw [h4]; decide), h4]; decide), r2_bad (by rw [h4]; decide), h4]
            rfl
          rcases hbad with rfl | hbad
          · go_wp2
            go_ret2
            exact RunsAns.no HP.out (by decide) hbw.out
          · have hM0 : ((M : Int) == 0) = false := by simp; omega
            go_wp2
            go_ret2
            exact RunsAns.no HP.out (by decide) hbw.out
        · have hM0 : ((M : Int) == 0) = false := by simp; omega
          have hMN : ¬ left < M := by omega
          have HBAD := hide hbad
          have hKl : K ≤ L := by rw [← HKK.out, ← HBL.out]; exact (E.gE_zero HE.out hlp.out.low).1
          obtain ⟨qa, hq, hr1, hr2⟩ := rest_of hs.out hKl
          obtain ⟨D, hD⟩ : ∃ D, L - K = D := ⟨_, rfl⟩
          obtain ⟨cp, hcp⟩ : ∃ d, c - K = d := ⟨_, rfl⟩
          obtain ⟨bd, hbd⟩ : ∃ d, bs.drop K = d := ⟨_, rfl⟩
          rw [hD, hcp, hbd] at hq
          rw [hD, hcp] at hr1 hr2
          have hDm : D ≤ 140737488355328 := by omega
          have HBD := hide hbd
          have HO := hide (uofAt_any qa D cp bd kind w2 w1 hq (hq.below hbw.out) (fun x hx => hlp.out.low x (by rw [← hbd] at hx; exact List.mem_of_mem_drop hx)) hDm)
          clear hq hD hcp hbd hbad
          go_wp2_with fail
          refine HO.out.mono ?_
          rintro e w3 ⟨ra, rc, rfl, hsr, hb3⟩
          obtain ⟨q, hq⟩ : ∃ n, (Z.oR bd kind).length = n := ⟨_, rfl⟩
          obtain ⟨⟨vk, vi, vs⟩, hv⟩ : ∃ x, Z.oV bd kind = x := ⟨_, rfl⟩
          obtain ⟨Y, hY⟩ : ∃ Y : Nat, Z.oE bd kind = Y := ⟨_, rfl⟩
          have HR1 : Hid (Z.r1 kind left bs = Y) := by
            show _ = _
            rw [r1_val HE.out (by rw [HM.out]; exact HBAD.out), HKK.out, HBD.out]
            exact hY
          have HV : Hid (Z.rnV kind bs = ⟨vk, vi, vs⟩) := by
            show _ = _
            unfold Z.rnV
            rw [HKK.out, HBD.out]
            exact hv
          have HRR : Hid (Z.rnR kind bs = Z.oR bd kind) := by
            show _ = _
            unfold Z.rnR
            rw [HKK.out, HBD.out]
          have hqL : q ≤ 140737488355328 := by
            have h1 := rnR_len kind bs
            rw [HRR.out, hq, HBL.out] at h1
            omega
          rw [hq, hv, hY, show (Z.V.v ⟨vk, vi, vs⟩) = .agg #[.int .i64 vk, .int .i64 vi, .string vs] from rfl]
          rw [hq] at hsr
          have b3 := below_one w3 (.cells #[.int .i64 vk, .int .i64 vi, .string vs] 47)
          have HA := hide (At.new w3 vk vi vs)
          have HB3 := hide (bthen (bthen hbw.out hb3) b3)
          have HR3 := hide ((hrow.out.below hb3).below b3)
          have HSR := hide hsr
          by_cases hY0 : Y = 0
          · subst hY0
            obtain ⟨_, g2, g3, _⟩ := r1_ok HR1.out
            rw [HM.out] at g2 g3
            obtain ⟨oa, oc, hov, hosl, _⟩ := SlR.of_own HR3.out
            have hrl := hlp.out.few
            obtain ⟨k, hkk⟩ : ∃ k, rs.length = k := ⟨_, rfl⟩
            rw [hkk] at hov hosl hrl
            have HKE := hide hkk
            have HOV := hide hov
            have HSL := hide hosl
            have HSZ := hide hb3.size
            rw [hov]
            clear hY hv hq hsr hb3 b3 hosl hkk hov hr1 hr2 HO
            go_wp2_with fail
            obtain ⟨w4, hw4⟩ : ∃ w4, w3.alloc (.cells #[.int .i64 vk, .int .i64 vi, .string vs] 47) = w4 := ⟨_, rfl⟩
            obtain ⟨R, hR⟩ : ∃ R, w3.heap.size = R := ⟨_, rfl⟩
            rw [hw4] at HA HB3 HR3 HSL ⊢
            rw [hR] at HA ⊢
            obtain ⟨v0, v1, v2⟩ := HA.out.cells
            obtain ⟨p, hp⟩ : ∃ p, Z.isV (Z.top rs.reverse) ⟨vk, vi, vs⟩ = p := ⟨_, rfl⟩
            have HPP := hide hp
            clear hw4 hp
            rcases List.eq_nil_or_concat rs with hrs | ⟨r0, ⟨n0, ⟨zk, zi, zs⟩⟩, hrs⟩
            · have hk0 : k = 0 := by rw [← HKE.out, hrs]; rfl
              have hpf : p = false := by rw [← HPP.out, hrs]; rfl
              subst hk0
              clear hrs
              go_quiet (fail)
              obtain ⟨wn, hwn⟩ : ∃ wn, w4.drewN nq = wn := ⟨_, rfl⟩
              have hbn : Below w4.heap.size w4 wn := by rw [← hwn]; exact below_drewN (Below.refl _ _) nq
              rw [hwn]
              clear v0 v1 v2
              obtain ⟨v0, v1, v2⟩ := (HA.out.below hbn).cells
              have HST := hide (hlp.out.step h0 HR1.out (by rw [HV.out, HPP.out]; exact hpf))
              rw [HV.out, HM.out] at HST
              have b5 := below_one wn (.cells #[.int .i64 (M : Int), .int .i64 vk, .int .i64 vi, .string vs] 60)
              have HR5 := hide ((HR3.out.below hbn).below b5)
              have HB5 := hide (bthen (bthen HB3.out hbn) b5)
              have hsz4 := (bthen HB3.out hbn).size
              have hM4 : M ≤ 4096 := by omega
              rw [HOV.out] at HR5
              have HR : Hid (∃ bs2, Sl w1 .u8 ra q rc (ints bs2) ∧ RunLoop kind N b (left - M) bs2 (rs ++ [⟨(M : Int), ⟨vk, vi, vs⟩⟩])) := ⟨_, HSR.out, by rw [← HRR.out]; exact HST.out⟩
              have hsub : (left : Int) - (M : Int) = ((left - M : Nat) : Int) := by omega
              clear b5 hbn hwn HST
              go_wp2_with (at_builtin; refine wpList_appR 38 60 Try.underlying38 Try.infoRfRun rfl _ _ rfl w1.heap.size (.slice oa 0 oc) rs rfl HR5.out (some ⟨wn.heap.size, 0, none⟩) 1 ⟨(M : Int), ⟨vk, vi, vs⟩⟩ rfl (slR_one wn 60 (M : Int) vk vi vs) (by rw [HKE.out]; omega) (by simp; omega) ?_)
              intro v6 w6 ho6 has6
              have hb6 : Below w1.heap.size w1 w6 := HB5.out.trans (has6.below (by simp; omega) (fun k hk => (owns_lt HR5.out hk).1))
              have HO6 := hide ho6
              have HB6 := hide hb6
              clear hb6 ho6 has6 v0 v1 v2
              go_wp2
              go_roundw
              case rel =>
                obtain ⟨bs2, r1, r2⟩ := HR.out
                exact ⟨left - M, q, rc, ra, bs2, _, by omega, hqL, by first | rfl | rw [hsub], rfl, hide r1, HO6, hide r2, HB6⟩
              case measure => simp [intOf]; omega
            · rw [List.concat_eq_append] at hrs
              obtain ⟨k0, hk0⟩ : ∃ k0, r0.length = k0 := ⟨_, rfl⟩
              have hkk : k = k0 + 1 := by rw [← HKE.out, hrs, List.length_append, hk0]; rfl
              have hkpos : 0 < k := by omega
              have hki : (k : Int) - 1 = (k0 : Int) := by omega
              have hk0k : k0 < k := by omega
              have hpp : Z.same ⟨zk, zi, zs⟩ ⟨vk, vi, vs⟩ = p := by rw [← HPP.out, hrs, top_snoc]; rfl
              have hve := fun w => veq_run zk zi zs vk vi vs w
              rw [hpp] at hve
              rcases HSL.out.2.2.2.2 with h5 | ⟨rb, ro, rfl, hrlt, h5⟩
              · omega
              · obtain ⟨z0, z1, z2, z3⟩ := h5 k0 ⟨n0, ⟨zk, zi, zs⟩⟩ (by rw [hrs, ← hk0]; simp)
                have hkb : k ≤ 100000000 := by omega
                have hkI : (0 : Int) < (k : Int) := by omega
                have hk0I : (k0 : Int) < (k : Int) := by omega
                clear hrs hpp h5 hk0 hkk
                cases p with
                | true =>
                  have HP : Hid (Z.uE b (N : Int) kind = 4) := by
                    show _ = _
                    have h4 := r2_again HR1.out ((isV_iff _ _).1 (by rw [HV.out]; exact HPP.out))
                    rw [uE_is HK.out hN, hlp.out.err, te_bad h0 (by rw [h4]; decide), h4]
                    rfl
                  go_quiet (fail)
                  have HB4 := hide (below_drewN HB3.out nq)
                  go_wp2
                  go_ret2
                  exact RunsAns.no HP.out (by decide) HB4.out
                | false =>
                  have hpf : false = false := rfl
                  go_quiet (fail)
                  obtain ⟨wn, hwn⟩ : ∃ wn, w4.drewN nq = wn := ⟨_, rfl⟩
                  have hbn : Below w4.heap.size w4 wn := by rw [← hwn]; exact below_drewN (Below.refl _ _) nq
                  rw [hwn]
                  clear v0 v1 v2
                  obtain ⟨v0, v1, v2⟩ := (HA.out.below hbn).cells
                  have HST := hide (hlp.out.step h0 HR1.out (by rw [HV.out, HPP.out]))
                  rw [HV.out, HM.out] at HST
                  have b5 := below_one wn (.cells #[.int .i64 (M : Int), .int .i64 vk, .int .i64 vi, .string vs] 60)
                  have HR5 := hide ((HR3.out.below hbn).below b5)
                  have HB5 := hide (bthen (bthen HB3.out hbn) b5)
                  have hsz4 := (bthen HB3.out hbn).size
                  have hM4 : M ≤ 4096 := by omega
                  rw [HOV.out] at HR5
                  have HR : Hid (∃ bs2, Sl w1 .u8 ra q rc (ints bs2) ∧ RunLoop kind N b (left - M) bs2 (rs ++ [⟨(M : Int), ⟨vk, vi, vs⟩⟩])) := ⟨_, HSR.out, by rw [← HRR.out]; exact HST.out⟩
                  have hsub : (left : Int) - (M : Int) = ((left - M : Nat) : Int) := by omega
                  clear b5 hbn hwn HST hve z0 z1 z2 z3
                  go_wp2_with (at_builtin; refine wpList_appR 38 60 Try.underlying38 Try.infoRfRun rfl _ _ rfl w1.heap.size (.slice (some ⟨rb, ro, none⟩) k oc) rs rfl HR5.out (some ⟨wn.heap.size, 0, none⟩) 1 ⟨(M : Int), ⟨vk, vi, vs⟩⟩ rfl (slR_one wn 60 (M : Int) vk vi vs) (by rw [HKE.out]; omega) (by simp; omega) ?_)
                  intro v6 w6 ho6 has6
                  have hb6 : Below w1.heap.size w1 w6 := HB5.out.trans (has6.below (by simp; omega) (fun k hk => (owns_lt HR5.out hk).1))
                  have HO6 := hide ho6
                  have HB6 := hide hb6
                  clear hb6 ho6 has6 v0 v1 v2
                  go_wp2
                  go_roundw
                  case rel =>
                    obtain ⟨bs2, r1, r2⟩ := HR.out
                    exact ⟨left - M, q, rc, ra, bs2, _, by omega, hqL, by first | rfl | rw [hsub], rfl, hide r1, HO6, hide r2, HB6⟩
                  case measure => simp [intOf]; omega
          · obtain ⟨y, hy⟩ : ∃ y : Int, ((Y : Nat) : Int) = y := ⟨_, rfl⟩
            have hy0 : y ≠ 0 := by omega
            have HY0 := hide hy0
            have hyb : (y != 0) = true := by simpa using hy0
            have HP : Hid (Z.uE b (N : Int) kind = y) := by
              show _ = _
              have h4 := r2_bad (kind := kind) (n := left) (p := Z.top rs.reverse) (b := bs) (by rw [HR1.out]; exact hY0)
              rw [uE_is HK.out hN, hlp.out.err, te_bad h0 (by rw [h4, HR1.out]; exact hY0), h4, HR1.out]
              exact hy
            rw [hy]
            clear hY hy hY0 hq hv hb3 b3 hr1 hr2 hsr HO
            go_wp2
            go_ret2
            exact RunsAns.no HP.out HY0.out HB3.out
      · obtain ⟨y, hy⟩ : ∃ y : Int, ((X : Nat) : Int) = y := ⟨_, rfl⟩
        have hy0 : y ≠ 0 := by omega
        have HY0 := hide hy0
        have hyb : (y != 0) = true := by simpa using hy0
        have HP : Hid (Z.uE b (N : Int) kind = y) := by
          show _ = _
          have h3 : Z.r1 kind left bs = X := (r1_num (by rw [HE.out]; exact hX0)).trans HE.out
          have h4 := r2_bad (kind := kind) (n := left) (p := Z.top rs.reverse) (b := bs) (by rw [h3]; exact hX0)
          rw [uE_is HK.out hN, hlp.out.err, te_bad h0 (by rw [h4, h3]; exact hX0), h4, h3]
          exact hy
        rw [hy]
        clear hy hX0
        go_wp2
        go_ret2
        exact RunsAns.no HP.out HY0.out hbw.out
    · obtain rfl : left = 0 := by omega
      have hbl : bs.length = L := by rw [← hs.out.1, ints_length]
      by_cases hL0 : L = 0
      · subst hL0
        obtain rfl : bs = [] := List.eq_nil_of_length_eq_zero hbl
        have HP : Hid (Z.uE b (N : Int) kind = 0) := by show _ = _; rw [uE_is HK.out hN, hlp.out.err]; rfl
        have HQ : Hid (Z.uL b (N : Int) kind = rs) := by show _ = _; rw [uL_is HP.out, hlp.out.list, tl_zero, List.append_nil]
        clear hbl
        go_wp2
        go_ret2
        exact RunsAns.yes HP.out HQ.out hrow.out hbw.out
      · have HP : Hid (Z.uE b (N : Int) kind = 4) := by
          show _ = _
          rw [uE_is HK.out hN, hlp.out.err, te_zero (fun e => by rw [e] at hbl; exact hL0 hbl.symm)]
          rfl
        have hpos : ((L : Int) != 0) = true := by simp; omega
        clear hbl
        go_wp2
        go_ret2
        exact RunsAns.no HP.out (by decide) hbw.out
theorem rtoruns_any (ao : Option Addr) (len cap : Nat) (b : List Nat) (n kind : Int) (w : World) (h : Sl w .u8 ao len cap (ints b)) (h256 : ∀ x ∈ b, x < 256) (hm : len ≤ 140737488355328) :
    Calls Try.prog 16 #[.slice ao len cap, .int .i64 n, .int .i64 kind] w (RunsAns 60 b n kind w) := by
  cases hk : Z.kindOk kind with
  | false =>
    have HK := hide hk
    clear hk h h256
    go_enter Try.func16, Try.ntmps16
    go_wp2_with fail
    refine (kinds_any _ _).mono ?_
    rintro e w2 ⟨rfl, rfl⟩
    rw [HK.out]
    go_wp2
    go_ret2
    exact RunsAns.no (uE_kind HK.out) (by decide) (Below.refl _ _)
  | true =>
    by_cases hn : n < 0 ∨ 4096 < n
    · have HK := hide hk
      have HN := hide hn
      clear hk h h256
      rcases hn with hn | hn
      · have hd1 : decide (n < 0) = true := by simpa using hn
        go_enter Try.func16, Try.ntmps16
        go_wp2_with fail
        refine (kinds_any _ _).mono ?_
        rintro e w2 ⟨rfl, rfl⟩
        rw [HK.out]
        go_wp2
        go_ret2
        exact RunsAns.no (uE_many HK.out HN.out) (by decide) (Below.refl _ _)
      · have hd1 : decide (n < 0) = false := by simp; omega
        have hd2 : decide (4096 < n) = true := by simpa using hn
        go_enter Try.func16, Try.ntmps16
        go_wp2_with fail
        refine (kinds_any _ _).mono ?_
        rintro e w2 ⟨rfl, rfl⟩
        rw [HK.out]
        go_wp2
        go_ret2
        exact RunsAns.no (uE_many HK.out HN.out) (by decide) (Below.refl _ _)
    · obtain ⟨N, rfl⟩ : ∃ N : Nat, n = (N : Int) := ⟨n.toNat, by omega⟩
      exact rtoruns_some ao len cap b N kind w h h256 hm (by omega) hk
theorem uL_each {b : List Nat} {n kind : Int} (h256 : ∀ x ∈ b, x < 256) : ∀ r ∈ Z.uL b n kind, r.n ≤ 4096 := fun r hr => by
  have h1 := run_le r hr
  have h2 := uL_few (n := n) (kind := kind) h256
  omega
theorem rfof_any (ao : Option Addr) (len cap : Nat) (b : List Nat) (n kind : Int) (w : World) (h : Sl w .u8 ao len cap (ints b)) (h256 : ∀ x ∈ b, x < 256) (hm : len ≤ 140737488355328) :
    Calls Try.prog 14 #[.slice ao len cap, .int .i64 n, .int .i64 kind] w (SpreadAns b n kind w) := by
  have HT := hide (rtoruns_any ao len cap b n kind w h h256 hm)
  have HF := hide (uL_len (n := n) (kind := kind) h256)
  have HE := hide (uL_each (n := n) (kind := kind) h256)
  have HSF := hide (spr_few (uL_few (n := n) (kind := kind) h256))
  clear h h256
  go_enter Try.func14, Try.ntmps14
  go_wp2_with fail
  refine HT.out.mono ?_
  rintro e w1 ⟨v, rfl, ho, hb⟩
  obtain ⟨ra, rc, rfl, hsl, _⟩ := SlR.of_own ho
  have HS := hide (rspread_any ra _ rc _ w1 hsl (by have := HF.out; omega) HE.out)
  obtain ⟨X, hX⟩ : ∃ X, Z.uE b n kind = X := ⟨_, rfl⟩
  obtain ⟨k, hk⟩ : ∃ k, (Z.uL b n kind).length = k := ⟨_, rfl⟩
  rw [hX, hk]
  rw [hk] at HS
  have HX := hide hX
  have HB := hide hb
  clear hX hk hsl ho hb HT
  go_wp2_with fail
  refine HS.out.mono ?_
  rintro e w2 ⟨v2, rfl, ho2, hb2⟩
  rw [HSF.out] at ho2
  have HO := hide (own_lowV ho2 HB.out.size)
  have HB2 := hide (bthen HB.out hb2)
  clear ho2 hb2 HS
  go_wp2
  go_ret2
  exact ⟨_, by rw [HX.out]; rfl, HO.out, HB2.out⟩
end Go.Proofs.Ytfggfmcbinhigaa
/- The document's Some, Of. -/
namespace Go.Proofs.Ytfggfmcbinhigaa
set_option linter.unusedVariables false
open Go.RowKit

/-- What Some answers. -/
def SomeAns (b : List Nat) (N : Nat) (kind : Int) (w : World) (e : Ending) (w' : World) : Prop :=
  Below w.heap.size w w' ∧ ((Z.pE kind N b = 0 ∧ ∃ v a c, e = .returned (.tuple #[v, .slice a (Z.pR kind N b).length c, .int .i64 0]) ∧ OwnV w' w.heap.size v (Z.pL kind N b)) ∨
    (Z.pE kind N b ≠ 0 ∧ e = .returned (.tuple #[.slice none 0 0, .slice none 0 0, .int .i64 ((Z.pE kind N b : Nat) : Int)])))

end Go.Proofs.Ytfggfmcbinhigaa

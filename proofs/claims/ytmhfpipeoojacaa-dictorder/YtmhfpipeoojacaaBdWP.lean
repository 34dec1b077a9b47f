/- DictOrder: codes are in the order of values; what is below a value are the codes below Below. Conditions: none. -/
import Derived.Test.YtmhfpipeoojacaaBdWO
import Derived.Test.YtmhfpipeoojacaaBdZC
namespace Go.Proofs.Ytmhfpipeoojacaa
set_option linter.unusedVariables false
set_option maxRecDepth 10000
open Go.RowKit Go.Sort
/-- One of a row, in every world behind. -/
theorem SlV.atP {w : World} {ao : Option Addr} {len cap : Nat} {l : List Z.V} (h : SlV w ao len cap l) {j : Nat} (hj : j < len) : ∃ b off k i s, ao = some ⟨b, off, none⟩ ∧ l[j]? = some ⟨k, i, s⟩ ∧
    (∀ p : BBy w, p.v.cell? ⟨b, off + j * 3, none⟩ = some (.int .i64 k)) ∧ (∀ p : BBy w, p.v.cell? ⟨b, off + j * 3 + 1, none⟩ = some (.int .i64 i)) ∧ (∀ p : BBy w, p.v.cell? ⟨b, off + j * 3 + 2, none⟩ = some (.string s)) := by
  obtain ⟨b, off, k, i, s, e, hlt, hx, c1, c2, c3⟩ := h.at hj
  exact ⟨b, off, k, i, s, e, hx, fun p => by rw [p.h.cell (p := ⟨b, off + j * 3, none⟩) hlt]; exact c1, fun p => by rw [p.h.cell (p := ⟨b, off + j * 3 + 1, none⟩) hlt]; exact c2, fun p => by rw [p.h.cell (p := ⟨b, off + j * 3 + 2, none⟩) hlt]; exact c3⟩
theorem Sl.atP {w : World} {k : IntKind} {ao : Option Addr} {len cap : Nat} {l : List Int} (h : Sl w k ao len cap l) {j : Nat} (hj : j < len) : ∃ b off, ao = some ⟨b, off, none⟩ ∧ (∀ p : BBy w, p.v.cell? ⟨b, off + j, none⟩ = some (.int k (l.getD j 0))) := by
  obtain ⟨b, off, e, hlt, c⟩ := h.at hj
  exact ⟨b, off, e, fun p => by rw [p.h.cell (p := ⟨b, off + j, none⟩) hlt]; exact c⟩
theorem CmpAns.below {w : World} {c : Int} {e : Ending} {w' : World} (h : CmpAns w c e w') : e = .returned (.int .i64 c) ∧ Below w.heap.size w w' := by
  obtain ⟨rfl, q, os, rfl⟩ := h
  exact ⟨rfl, grow_below w q os⟩
theorem code_lt {l : List Z.V} {x y : Z.V} (hx : x ∈ l) (hy : y ∈ l) : Z.cdN (Z.wds l) x < Z.cdN (Z.wds l) y ↔ Z.cv x y < 0 := by
  obtain ⟨X, h1, h2⟩ := cdN_has (words_has l x hx)
  obtain ⟨Y, g1, g2⟩ := cdN_has (words_has l y hy)
  rw [rise_lt (wds_rise l) h1 g1, cv_left h2 Y, cv_right g2 x]
theorem code_blw {l : List Z.V} {x v : Z.V} (hx : x ∈ l) : Z.cdN (Z.wds l) x < Z.blw (Z.wds l) v ↔ Z.cv x v < 0 := by
  obtain ⟨X, h1, h2⟩ := cdN_has (words_has l x hx)
  rw [rise_below (wds_rise l) h1, cv_left h2 v]
theorem code_at {l : List Z.V} {j : Nat} {x : Z.V} (h : l[j]? = some x) : (ints (Z.cdL (Z.wds l) l)).getD j 0 = (Z.cdN (Z.wds l) x : Nat) := by
  rw [cdL_ok (words_cdE l), List.getD_eq_getElem?_getD]
  simp [ints, h]
set_option maxHeartbeats 4000000 in
theorem dictOrder_walk (w : World) (a : Option Addr) (len cap : Nat) (l : List Z.V) (h1 : SlV w a len cap l) (f1 : ∀ x ∈ l, Z.Wf x) (r1 : cap * 32 ≤ 140737488351232) (vk vi : Int) (vs : ByteArray) (hvk : Z.I64 vk) (hvi : Z.I64 vi) (hv : vs.size ≤ maxLen) :
    Calls Try.prog 5 #[.slice a len cap, .agg #[.int .i64 vk, .int .i64 vi, .string vs]] w fun e w' => e = .returned (.bool true) ∧ Below w.heap.size w w' := by
  have b1 : len ≤ 140737488355328 := by have := h1.2.1; omega
  obtain rfl : len = l.length := h1.1.symm
  have H1 := hide h1
  have S1 : Hid (∀ x ∈ l, x.s.size ≤ 9223372036854775807) := fun x hx => (f1 x hx).2.2
  have HV : Hid (vs.size ≤ 9223372036854775807) := hv
  obtain ⟨w1, hw1⟩ : ∃ w1, w.alloc (.cells #[.int .i64 vk, .int .i64 vi, .string vs] 24) = w1 := ⟨_, rfl⟩
  have hb1 : Below w.heap.size w w1 := by rw [← hw1]; exact below_one w _
  have hat : At w1 w.heap.size vk vi vs := by rw [← hw1]; exact At.new w vk vi vs
  have HW := hide hw1
  have HB1 := hide hb1
  have HA := hide hat
  clear h1 f1 hv hw1 hb1 hat
  go_enter Try.func5, Try.ntmps5
  go_wp2_with fail
  rw [HW.out]
  refine (dshown_any _).mono ?_
  rintro e w2 ⟨rfl, hb2⟩
  have HB2 := hide (HB1.out.trans (hb2.mono HB1.out.size))
  have HA2 := hide (HA.out.below hb2)
  clear hb2 HB1 HA HW
  by_cases h60 : 60 < l.length
  · go_wp2
    go_ret
    exact ⟨rfl, HB2.out⟩
  · go_wp2_with fail
    refine (dfew_any a l.length cap l w2 (H1.out.below HB2.out) b1).mono ?_
    rintro e w3 ⟨q, rfl, hq, rfl⟩
    clear hq
    cases q with
    | false =>
      go_wp2
      go_ret
      exact ⟨rfl, HB2.out⟩
    | true =>
      go_wp2_with fail
      refine (words_some a l.length cap l _ (H1.out.below HB2.out) (by omega)).mono ?_
      rintro e w4 ⟨aw, nw, cw, rfl, hs4, _, hb4⟩
      have hwl := wds_len l
      obtain rfl : nw = (Z.wds l).length := hs4.1.symm
      obtain ⟨m, hm⟩ : ∃ m, (Z.wds l).length = m := ⟨_, rfl⟩
      have HB4 := hide (HB2.out.trans (hb4.mono HB2.out.size))
      have HA4 := hide (HA2.out.below hb4)
      have HS4 := hide hs4
      have HCD := hide (codes_any aw cw (Z.wds l) a cap l w4 hs4 (H1.out.below HB4.out) (by omega) (by omega))
      rw [hm] at hwl HS4 HCD ⊢
      have HM := hide hm
      clear hs4 hb4 HA2 hm HB2
      go_wp2_with fail
      refine Calls.mono HCD.out ?_
      rintro e w5 ⟨ac, nc, cc, rfl, hs5, hb5⟩
      rw [words_cdE]
      obtain rfl : nc = l.length := by rw [← hs5.1, cdL_ok (words_cdE l)]; simp [ints]
      have HB5 := hide (HB4.out.trans (hb5.mono HB4.out.size))
      have HA5 := hide (HA4.out.below hb5)
      have HS5 := hide hs5
      have HW5 := hide (HS4.out.below hb5)
      clear hs5 hb5 HA4 HS4 HCD HB4
      have hml : ¬ (l.length : Int) < (m : Int) := by omega
      obtain ⟨g1, g2, g3⟩ := HA5.out.cells
      have HBL := hide (dbelow_any aw m cw (Z.wds l) vk vi vs w5 HW5.out (by omega))
      go_wp2_with fail
      refine Calls.mono HBL.out ?_
      rintro e w6 ⟨rfl, hb6⟩
      obtain ⟨n, hn⟩ : ∃ n, Z.blw (Z.wds l) ⟨vk, vi, vs⟩ = n := ⟨_, rfl⟩
      have hnm : n ≤ m := by rw [← hn, ← HM.out]; exact blw_le _ _
      rw [hn]
      have HN := hide hn
      have HB6 := hide (HB5.out.trans (hb6.mono HB5.out.size))
      have HA6 := hide (HA5.out.below hb6)
      have HC6 := hide (HS5.out.below hb6)
      have HL6 := hide (H1.out.below HB6.out)
      have zn : IntKind.u64.wrap (n : Int) = (n : Int) := by rw [u64_wrap]; omega
      clear hb6 hn HA5 HS5 HW5 HB5 HBL g1 g2 g3 hml
      go_wp2_with fail
      go_loopw [10] (fun i wr => ∃ j : Nat, j ≤ l.length ∧ i = .int .i64 j ∧ Hid (Below w6.heap.size w6 wr)) (fun i _ => l.length - (intOf i).toNat)
      case atStart => exact ⟨0, Nat.zero_le _, rfl, hide (Below.refl _ _)⟩
      case round =>
        obtain ⟨j, hj, rfl, HR⟩ := hrel
        by_cases hjl : j < l.length
        · go_wp2_with fail
          go_loopw [11] (fun i wr2 => ∃ k : Nat, k ≤ l.length ∧ i = .int .i64 k ∧ Hid (Below w6.heap.size w6 wr2)) (fun i _ => l.length - (intOf i).toNat)
          case atStart => exact ⟨0, Nat.zero_le _, rfl, HR⟩
          case round =>
            obtain ⟨k, hk, rfl, HQ⟩ := hrel
            by_cases hkl : k < l.length
            · obtain ⟨b, off, xk, xi, xs, rfl, hx, d1, d2, d3⟩ := (HL6.out.below HQ.out).atP hjl
              obtain ⟨b', off', yk, yi, ys, e, hy, e1, e2, e3⟩ := (HL6.out.below HQ.out).atP hkl
              obtain ⟨rfl, rfl⟩ : b = b' ∧ off = off' := by injection e with e; injection e with e1 e2 e3; exact ⟨e1, e2⟩
              obtain ⟨bc, offc, rfl, c1⟩ := (HC6.out.below HQ.out).atP hjl
              obtain ⟨bc', offc', e', c2⟩ := (HC6.out.below HQ.out).atP hkl
              obtain ⟨rfl, rfl⟩ : bc = bc' ∧ offc = offc' := by injection e' with e; injection e with e1 e2 e3; exact ⟨e1, e2⟩
              rw [code_at hx] at c1
              rw [code_at hy] at c2
              have hiff := code_lt (List.mem_of_getElem? hx) (List.mem_of_getElem? hy)
              have sx := S1.out _ (List.mem_of_getElem? hx)
              have sy := S1.out _ (List.mem_of_getElem? hy)
              obtain ⟨ci, hci⟩ : ∃ n, Z.cdN (Z.wds l) ⟨xk, xi, xs⟩ = n := ⟨_, rfl⟩
              obtain ⟨ck, hck⟩ : ∃ n, Z.cdN (Z.wds l) ⟨yk, yi, ys⟩ = n := ⟨_, rfl⟩
              obtain ⟨c, hc⟩ : ∃ c, Z.cv ⟨xk, xi, xs⟩ ⟨yk, yi, ys⟩ = c := ⟨_, rfl⟩
              have CMP : Hid (∀ p : BBy wr, Calls Try.prog 19 #[.agg #[.int .i64 xk, .int .i64 xi, .string xs], .agg #[.int .i64 yk, .int .i64 yi, .string ys]] p.v fun e w' => e = .returned (.int .i64 c) ∧ Below p.v.heap.size p.v w') := fun p => by
                rw [← hc]; exact (ucompare_two xk xi xs yk yi ys p.v sx sy).mono fun _ _ h => h.below
              rw [hci, hck, hc] at hiff
              rw [hci] at c1
              rw [hck] at c2
              have inh : Nonempty (BBy wr) := ⟨⟨wr, Below.refl _ _⟩⟩
              clear e e' hx hy sx sy hci hck hc HR
              by_cases hlt : ci < ck
              · have hcn : c < 0 := hiff.1 hlt
                have hltz : (ci : Int) < (ck : Int) := by omega
                clear hiff
                go_wp2_with fail
                refine region_below (by kernel_rfl) ?_
                repeat (quiet_step (first | (go_at_call 19; refine Calls.below_of (CMP.out _))))
                refine wpQuiet_nil ?_
                intro _ hw'
                obtain ⟨⟨w8, hb8⟩, hw''⟩ := hw'
                subst hw''
                have HQ2 := hide (HQ.out.trans (hb8.mono HQ.out.size))
                clear hb8 CMP d1 d2 d3 e1 e2 e3 c1 c2 HQ inh
                go_wp2
                go_roundw
                case rel => exact ⟨k + 1, by omega, by go_num, HQ2⟩
                case measure => simp [intOf]; omega
              · have hcn : ¬ c < 0 := fun h => hlt (hiff.2 h)
                have hcd : decide (c < 0) = false := decide_eq_false hcn
                have hltd : decide (ci < ck) = false := decide_eq_false hlt
                have hltz : decide ((ci : Int) < (ck : Int)) = false := decide_eq_false (by omega)
                clear hiff
                go_wp2_with fail
                refine region_below (by kernel_rfl) ?_
                repeat (quiet_step (first | (go_at_call 19; refine Calls.below_of (CMP.out _))))
                refine wpQuiet_nil ?_
                intro _ hw'
                obtain ⟨⟨w8, hb8⟩, hw''⟩ := hw'
                subst hw''
                have HQ2 := hide (HQ.out.trans (hb8.mono HQ.out.size))
                clear hb8 CMP d1 d2 d3 e1 e2 e3 c1 c2 HQ inh
                go_wp2
                go_roundw
                case rel => exact ⟨k + 1, by omega, by go_num, HQ2⟩
                case measure => simp [intOf]; omega
            · obtain ⟨b, off, xk, xi, xs, rfl, hx, d1, d2, d3⟩ := (HL6.out.below HQ.out).atP hjl
              obtain ⟨bc, offc, rfl, c1⟩ := (HC6.out.below HQ.out).atP hjl
              rw [code_at hx] at c1
              have hiff := code_blw (v := ⟨vk, vi, vs⟩) (List.mem_of_getElem? hx)
              have sx := S1.out _ (List.mem_of_getElem? hx)
              have g1 : ∀ p : BBy wr, p.v.cell? ⟨w.heap.size, 0, none⟩ = some (.int .i64 vk) := fun p => ((HA6.out.below HQ.out).below p.h).cells.1
              have g2 : ∀ p : BBy wr, p.v.cell? ⟨w.heap.size, 1, none⟩ = some (.int .i64 vi) := fun p => ((HA6.out.below HQ.out).below p.h).cells.2.1
              have g3 : ∀ p : BBy wr, p.v.cell? ⟨w.heap.size, 2, none⟩ = some (.string vs) := fun p => ((HA6.out.below HQ.out).below p.h).cells.2.2
              obtain ⟨ci, hci⟩ : ∃ n, Z.cdN (Z.wds l) ⟨xk, xi, xs⟩ = n := ⟨_, rfl⟩
              obtain ⟨c, hc⟩ : ∃ c, Z.cv ⟨xk, xi, xs⟩ ⟨vk, vi, vs⟩ = c := ⟨_, rfl⟩
              have CMP : Hid (∀ p : BBy wr, Calls Try.prog 19 #[.agg #[.int .i64 xk, .int .i64 xi, .string xs], .agg #[.int .i64 vk, .int .i64 vi, .string vs]] p.v fun e w' => e = .returned (.int .i64 c) ∧ Below p.v.heap.size p.v w') := fun p => by
                rw [← hc]; exact (ucompare_two xk xi xs vk vi vs p.v sx HV.out).mono fun _ _ h => h.below
              rw [hci, HN.out, hc] at hiff
              rw [hci] at c1
              have inh : Nonempty (BBy wr) := ⟨⟨wr, Below.refl _ _⟩⟩
              clear hx sx hci hc HR
              by_cases hlt : ci < n
              · have hcn : c < 0 := hiff.1 hlt
                have hltz : (ci : Int) < (n : Int) := by omega
                clear hiff
                go_wp2_with fail
                refine region_below (by kernel_rfl) ?_
                repeat (quiet_step (first | (go_at_call 19; refine Calls.below_of (CMP.out _))))
                refine wpQuiet_nil ?_
                intro _ hw'
                obtain ⟨⟨w8, hb8⟩, hw''⟩ := hw'
                subst hw''
                have HQ2 := hide (HQ.out.trans (hb8.mono HQ.out.size))
                clear hb8 CMP d1 d2 d3 g1 g2 g3 c1 HQ inh
                go_wp2
                go_roundw
                case rel => exact ⟨j + 1, by omega, by go_num, HQ2⟩
                case measure => simp [intOf]; omega
              · have hcn : ¬ c < 0 := fun h => hlt (hiff.2 h)
                have hcd : decide (c < 0) = false := decide_eq_false hcn
                have hltd : decide (ci < n) = false := decide_eq_false hlt
                have hltz : decide ((ci : Int) < (n : Int)) = false := decide_eq_false (by omega)
                clear hiff
                go_wp2_with fail
                refine region_below (by kernel_rfl) ?_
                repeat (quiet_step (first | (go_at_call 19; refine Calls.below_of (CMP.out _))))
                refine wpQuiet_nil ?_
                intro _ hw'
                obtain ⟨⟨w8, hb8⟩, hw''⟩ := hw'
                subst hw''
                have HQ2 := hide (HQ.out.trans (hb8.mono HQ.out.size))
                clear hb8 CMP d1 d2 d3 g1 g2 g3 c1 HQ inh
                go_wp2
                go_roundw
                case rel => exact ⟨j + 1, by omega, by go_num, HQ2⟩
                case measure => simp [intOf]; omega
        · go_wp2
          go_ret
          exact ⟨rfl, HB6.out.trans (HR.out.mono HB6.out.size)⟩
end Go.Proofs.Ytmhfpipeoojacaa

/- slices.symMergeCmpFunc at rows of ints, one ahead of a sorted run. Conditions: sorted, by value and then by place. -/
import Derived.Test.YtmhfpipeoojacaaBdQ
namespace Go.Proofs.Ytmhfpipeoojacaa
open Go.Shelf Go.RowKit Go.Lib Go.Sort
set_option maxRecDepth 1000000
set_option linter.unusedVariables false
variable {P : Program} {α : Type} [Inhabited α]
set_option maxHeartbeats 16000000 in
theorem symI_one (LY : LayI P) (Fsm : P.funcs[86]? = some Try.f86) (enc : α → Value) (cf : α → α → Int) (lab : α → Nat) (hL : SWO (Y.lx (ltOf cf) lab)) (g : Nat) (cb : Array Value) (blk off cap : Nat) (d0 : Array α) (w0 : World)
    (R : Row1 enc w0 blk off d0) (eg : ∀ args w, (callFunc g args).run P w = .ok (.enter g args) w) (hcmp : CmpLays1 P g cb enc cf blk off d0.size w0) (a m b : Nat) (d : Array α) (w : World) (hs : d0.size = d.size) (S : SW enc w0 blk off d w) (ham : a < m) (hmb : m < b) (hb : b ≤ d.size) (hsz : d.size < 4611686018427387904) (q1 : SortedIn (Y.lx (ltOf cf) lab) a m d) (q2 : SortedIn (Y.lx (ltOf cf) lab) m b d) (q3 : Y.Cross (ltOf cf) lab a m b d) (hm1 : m ≤ a + 1) :
    Calls P 86 #[.slice (some ⟨blk, off, none⟩) d.size cap, .int .i64 a, .int .i64 m, .int .i64 b, .func (.func g) #[] cb] w fun e w' => e = .returned (.tuple #[]) ∧ ∃ d', SW enc w0 blk off d' w' ∧ PermIn a b d d' ∧ SortedIn (Y.lx (ltOf cf) lab) a b d' := by
  have mixed := LY.mixed; have tUnit := LY.tUnit; have aUnit := LY.aUnit; have zUnit := LY.zUnit; have vUnit := LY.vUnit; have tInt := LY.tInt; have aInt := LY.aInt; have zInt := LY.zInt; have vInt := LY.vInt; have tBool := LY.tBool; have aBool := LY.aBool; have zBool := LY.zBool; have vBool := LY.vBool; have tUint := LY.tUint; have aUint := LY.aUint; have zUint := LY.zUint; have vUint := LY.vUint; have tSl := LY.tSl; have aSl := LY.aSl; have zSl := LY.zSl; have vSl := LY.vSl; have tFn := LY.tFn; have aFn := LY.aFn; have zFn := LY.zFn; have vFn := LY.vFn
  have uSl := run_underlying LY.tSl
  have hcl0 := R.hO.cells
  simp only [Value.cells] at hcl0
  have hst := R.hO.store P
  have HC : Aside _ := hcmp
  have HL : Aside (SWO (Y.lx (ltOf cf) lab)) := hL
  have S0 : Aside (SW enc w0 blk off d w) := S
  have HA : Aside (SortedIn (Y.lx (ltOf cf) lab) a m d) := q1
  have HB : Aside (SortedIn (Y.lx (ltOf cf) lab) m b d) := q2
  have HX : Aside (Y.Cross (ltOf cf) lab a m b d) := q3
  clear hcmp hL S q1 q2 q3
  have z1 : (m : Int) - (a : Int) = 1 := by omega
  have M1 : Hid (m = a + 1) := (by omega : m = a + 1)
  go_enter Fsm, Try.ntmps86
  go_wp2
  clear z1
  go_loopg [10, 11] (b - m) (fun kx sA sB wr => ∃ (i j : Nat), sA = .int .i64 i ∧ sB = .int .i64 j ∧ m ≤ i ∧ i ≤ j ∧ j ≤ b ∧ j - i ≤ kx ∧ Aside (SW enc w0 blk off d wr) ∧ Aside (∀ x, m ≤ x → x < i → (!ltOf cf d[x]! d[a]!) = false) ∧ Aside (∀ x, j ≤ x → x < b → (!ltOf cf d[x]! d[a]!) = true))
  case atStart => exact ⟨m, b, rfl, rfl, Nat.le_refl _, by omega, Nat.le_refl _, Nat.le_refl _, S0, fun x h1 h2 => by omega, fun x h1 h2 => by omega⟩
  case round =>
    clear S0
    obtain ⟨i, j, rfl, rfl, hli, hij, hjh, hkx, S1, A1, A2⟩ := hrel
    by_cases hlt : (i : Int) < (j : Int)
    · obtain ⟨h, hh1, hh2⟩ : ∃ h, 2 * h ≤ i + j ∧ i + j ≤ 2 * h + 1 := ⟨(i + j) / 2, by omega, by omega⟩
      have zh : ((i : Int) + (j : Int)) / 2 = (h : Int) := by omega
      have rij : IntKind.i64.wrap ((i : Int) + (j : Int)) = (i : Int) + (j : Int) := by rw [IntKind.wrap_i64]; omega
      have hih : i ≤ h := by omega
      have hhj : h < j := by omega
      cases hlv : ltOf cf d[h]! d[a]! with
      | true =>
        obtain ⟨iN1, hiN1⟩ : ∃ zz, zz = h := ⟨_, rfl⟩
        obtain ⟨jN1, hjN1⟩ : ∃ zz, zz = a := ⟨_, rfl⟩
        have ea1 : ((h : Int)).toNat = iN1 := by omega
        have pa1 : (0 : Int) ≤ (h : Int) := by omega
        have ba1 : (h : Int) < (d.size : Int) := by omega
        have ra1 : IntKind.i64.wrap ((h : Int)) = (h : Int) := by rw [IntKind.wrap_i64]; omega
        have ec1 : ((a : Int)).toNat = jN1 := by omega
        have pc1 : (0 : Int) ≤ (a : Int) := by omega
        have bc1 : (a : Int) < (d.size : Int) := by omega
        have rc1 : IntKind.i64.wrap ((a : Int)) = (a : Int) := by rw [IntKind.wrap_i64]; omega
        obtain ⟨x1, hx1⟩ : ∃ x, x = d[h]! := ⟨_, rfl⟩
        obtain ⟨y1, hy1⟩ : ∃ x, x = d[a]! := ⟨_, rfl⟩
        have l1a := S1.out.cl R (by omega) (h) (by omega)
        have l1b := S1.out.cl R (by omega) (a) (by omega)
        rw [← hx1, ← hiN1] at l1a
        rw [← hy1, ← hjN1] at l1b
        have hc1 := S1.out.cmp HC.out (by omega) x1 y1
        have hv1 : cf x1 y1 < 0 := by rw [hx1, hy1]; exact of_decide_eq_true hlv
        have hd1 : decide (cf x1 y1 < 0) = true := decide_eq_true hv1
        clear hx1 hy1 hiN1 hjN1
        go_wp2_with fail
        go_quiet_grown (first | (go_at_fn g; refine Calls.grown_of (hc1 _ _)))
        have S2 : Aside (SW enc w0 blk off d (grow (wr.drewN nq) osq)) := S1.out.grown nq osq
        clear l1a l1b hc1 S1
        generalize grow (wr.drewN nq) osq = w2 at S2 ⊢
        clear nq osq
        clear ea1 ec1
        go_wp2
        go_roundg (j - (h + 1))
        case measure => omega
        case rel => exact ⟨h + 1, j, by first | rfl | go_num | (congr 1; omega), rfl, by omega, by omega, hjh, Nat.le_refl _, S2, fun x h1 h2 => (by
          rcases Nat.lt_or_ge x i with h3 | h3
          · exact A1.out x h1 h3
          · have := Y.mono1 HL.out HB.out HX.out ham (x := x) (y := h) h1 (by omega) (by omega) hlv; simp [this]), A2.out⟩
      | false =>
        obtain ⟨iN2, hiN2⟩ : ∃ zz, zz = h := ⟨_, rfl⟩
        obtain ⟨jN2, hjN2⟩ : ∃ zz, zz = a := ⟨_, rfl⟩
        have ea2 : ((h : Int)).toNat = iN2 := by omega
        have pa2 : (0 : Int) ≤ (h : Int) := by omega
        have ba2 : (h : Int) < (d.size : Int) := by omega
        have ra2 : IntKind.i64.wrap ((h : Int)) = (h : Int) := by rw [IntKind.wrap_i64]; omega
        have ec2 : ((a : Int)).toNat = jN2 := by omega
        have pc2 : (0 : Int) ≤ (a : Int) := by omega
        have bc2 : (a : Int) < (d.size : Int) := by omega
        have rc2 : IntKind.i64.wrap ((a : Int)) = (a : Int) := by rw [IntKind.wrap_i64]; omega
        obtain ⟨x2, hx2⟩ : ∃ x, x = d[h]! := ⟨_, rfl⟩
        obtain ⟨y2, hy2⟩ : ∃ x, x = d[a]! := ⟨_, rfl⟩
        have l2a := S1.out.cl R (by omega) (h) (by omega)
        have l2b := S1.out.cl R (by omega) (a) (by omega)
        rw [← hx2, ← hiN2] at l2a
        rw [← hy2, ← hjN2] at l2b
        have hc2 := S1.out.cmp HC.out (by omega) x2 y2
        have hv2 : ¬ cf x2 y2 < 0 := by rw [hx2, hy2]; exact of_decide_eq_false hlv
        have hd2 : decide (cf x2 y2 < 0) = false := decide_eq_false hv2
        clear hx2 hy2 hiN2 hjN2
        go_wp2_with fail
        go_quiet_grown (first | (go_at_fn g; refine Calls.grown_of (hc2 _ _)))
        have S2 : Aside (SW enc w0 blk off d (grow (wr.drewN nq) osq)) := S1.out.grown nq osq
        clear l2a l2b hc2 S1
        generalize grow (wr.drewN nq) osq = w2 at S2 ⊢
        clear nq osq
        clear ea2 ec2
        go_wp2
        go_roundg (h - i)
        case measure => omega
        case rel => exact ⟨i, h, rfl, by first | rfl | go_num | (congr 1; omega), hli, hih, by omega, Nat.le_refl _, S2, A1.out, fun x h1 h2 => (by
          rcases Nat.lt_or_ge x j with h3 | h3
          · cases hz : ltOf cf d[x]! d[a]! with
            | false => rfl
            | true => rw [Y.mono1 HL.out HB.out HX.out ham (x := h) (y := x) (by omega) h1 h2 hz] at hlv; cases hlv
          · exact A2.out x h3 h2)⟩
    · obtain rfl : i = j := by omega
      have FD : Aside (Y.Found (fun x => (!ltOf cf d[x]! d[a]!)) m b i) := ⟨hli, hjh, A1.out, A2.out⟩
      clear A1 A2
      have V0 : Aside (Y.Via (Y.rot a (a + 1) (a + 1)) a b d d) := (Y.Via.refl a b d).congr fun x => (Y.rot_one x).symm
      obtain ⟨t, ht⟩ : ∃ t, t + 1 = i := ⟨i - 1, by omega⟩
      have zt : (i : Int) - 1 = (t : Int) := by omega
      have rt : IntKind.i64.wrap (t : Int) = (t : Int) := by rw [IntKind.wrap_i64]; omega
      go_wp2
      go_loopg [13] (t - a) (fun kx sA wr2 => ∃ (q : Nat) (dk : Array α), sA = .int .i64 q ∧ a ≤ q ∧ q ≤ t ∧ t - q ≤ kx ∧ dk.size = d.size ∧ Aside (SW enc w0 blk off dk wr2) ∧ Aside (Y.Via (Y.rot a (a + 1) (q + 1)) a b d dk))
      case atStart => exact ⟨a, d, rfl, Nat.le_refl _, by omega, Nat.le_refl _, rfl, S1, V0⟩
      case round =>
        clear S1 V0
        obtain ⟨q, dk, rfl, haq, hqt, hkq, hdk, S2, V2⟩ := hrel
        by_cases hqlt : (q : Int) < (t : Int)
        · go_wp2_with fail
          obtain ⟨iN3, hiN3⟩ : ∃ zz, zz = q := ⟨_, rfl⟩
          obtain ⟨jN3, hjN3⟩ : ∃ zz, zz = q + 1 := ⟨_, rfl⟩
          have ea3 : ((q : Int)).toNat = iN3 := by omega
          have pa3 : (0 : Int) ≤ (q : Int) := by omega
          have ba3 : (q : Int) < (d.size : Int) := by omega
          have ra3 : IntKind.i64.wrap ((q : Int)) = (q : Int) := by rw [IntKind.wrap_i64]; omega
          have ec3 : ((q : Int) + 1).toNat = jN3 := by omega
          have pc3 : (0 : Int) ≤ (q : Int) + 1 := by omega
          have bc3 : (q : Int) + 1 < (d.size : Int) := by omega
          have rc3 : IntKind.i64.wrap ((q : Int) + 1) = (q : Int) + 1 := by rw [IntKind.wrap_i64]; omega
          obtain ⟨x3, hx3⟩ : ∃ x, x = dk[q]! := ⟨_, rfl⟩
          obtain ⟨y3, hy3⟩ : ∃ x, x = dk[q + 1]! := ⟨_, rfl⟩
          have S3 : Aside (SW enc w0 blk off (swp dk (q) (q + 1)) ((wr.setCell ⟨blk, off + iN3, none⟩ (enc y3)).setCell ⟨blk, off + jN3, none⟩ (enc x3)).drew) := by rw [hiN3, hjN3, hx3, hy3]; exact S2.out.swapped R (q) (q + 1) (by omega) (by omega)
          have c3a := S2.out.c1 R (by omega) (q) (by omega)
          have f3a := S2.out.f1 R (by omega) (q) (by omega)
          have c3b := S2.out.c1 R (by omega) (q + 1) (by omega)
          have f3b := S2.out.f1 R (by omega) (q + 1) (by omega)
          obtain ⟨u3, c3c⟩ := S2.out.c2 R (by omega) (q) (q + 1) (by omega) (by omega) (enc y3)
          rw [← hjN3, ← hiN3] at c3c
          rw [← hx3, ← hiN3] at c3a
          rw [← hy3, ← hjN3] at c3b
          rw [← hiN3] at f3a
          rw [← hjN3] at f3b
          clear S2 hx3 hy3 hiN3 hjN3
          go_wp2_with fail
          go_big_region_o
          clear c3a c3b c3c f3a f3b
          generalize ((wr.setCell ⟨blk, off + iN3, none⟩ (enc y3)).setCell ⟨blk, off + jN3, none⟩ (enc x3)).drew = w3 at S3 ⊢
          clear ea3 ec3
          have V3 : Aside (Y.Via (Y.rot a (a + 1) (q + 2)) a b d (swp dk q (q + 1))) := (V2.out.trans (Y.via_swp dk haq (by omega) (by omega) (by omega) (by omega))).congr fun x => Y.rot_up haq x
          clear V2
          go_wp2
          go_roundg (t - (q + 1))
          case measure => omega
          case rel => exact ⟨q + 1, swp dk q (q + 1), by first | rfl | go_num | simp, by omega, by omega, Nat.le_refl _, by rw [size_swp]; exact hdk, S3, V3⟩
        · obtain rfl : q = t := by omega
          go_wp2
          (try simp only [Exit.inBlock, Exit.then]); refine bodyPost_ret (results_none rfl _ _ _) rfl ?_
          exact ⟨rfl, dk, S2.out, Y.merge1 HL.out HB.out HX.out M1.out hb FD.out (by have := V2.out; rw [← M1.out, ht] at this; exact this)⟩
end Go.Proofs.Ytmhfpipeoojacaa
/- slices.symMergeCmpFunc at rows of ints, one behind a sorted run. Conditions: sorted, by value and then by place. -/
namespace Go.Proofs.Ytmhfpipeoojacaa
open Go.Shelf Go.RowKit Go.Lib Go.Sort
set_option maxRecDepth 1000000
set_option linter.unusedVariables false
variable {P : Program} {α : Type} [Inhabited α]
set_option maxHeartbeats 16000000 in
theorem symI_last (LY : LayI P) (Fsm : P.funcs[86]? = some Try.f86) (enc : α → Value) (cf : α → α → Int) (lab : α → Nat) (hL : SWO (Y.lx (ltOf cf) lab)) (g : Nat) (cb : Array Value) (blk off cap : Nat) (d0 : Array α) (w0 : World)
    (R : Row1 enc w0 blk off d0) (eg : ∀ args w, (callFunc g args).run P w = .ok (.enter g args) w) (hcmp : CmpLays1 P g cb enc cf blk off d0.size w0) (a m b : Nat) (d : Array α) (w : World) (hs : d0.size = d.size) (S : SW enc w0 blk off d w) (ham : a < m) (hmb : m < b) (hb : b ≤ d.size) (hsz : d.size < 4611686018427387904) (q1 : SortedIn (Y.lx (ltOf cf) lab) a m d) (q2 : SortedIn (Y.lx (ltOf cf) lab) m b d) (q3 : Y.Cross (ltOf cf) lab a m b d) (hm1 : a + 2 ≤ m) (hm2 : b ≤ m + 1) :
    Calls P 86 #[.slice (some ⟨blk, off, none⟩) d.size cap, .int .i64 a, .int .i64 m, .int .i64 b, .func (.func g) #[] cb] w fun e w' => e = .returned (.tuple #[]) ∧ ∃ d', SW enc w0 blk off d' w' ∧ PermIn a b d d' ∧ SortedIn (Y.lx (ltOf cf) lab) a b d' := by
  have mixed := LY.mixed; have tUnit := LY.tUnit; have aUnit := LY.aUnit; have zUnit := LY.zUnit; have vUnit := LY.vUnit; have tInt := LY.tInt; have aInt := LY.aInt; have zInt := LY.zInt; have vInt := LY.vInt; have tBool := LY.tBool; have aBool := LY.aBool; have zBool := LY.zBool; have vBool := LY.vBool; have tUint := LY.tUint; have aUint := LY.aUint; have zUint := LY.zUint; have vUint := LY.vUint; have tSl := LY.tSl; have aSl := LY.aSl; have zSl := LY.zSl; have vSl := LY.vSl; have tFn := LY.tFn; have aFn := LY.aFn; have zFn := LY.zFn; have vFn := LY.vFn
  have uSl := run_underlying LY.tSl
  have hcl0 := R.hO.cells
  simp only [Value.cells] at hcl0
  have hst := R.hO.store P
  have HC : Aside _ := hcmp
  have HL : Aside (SWO (Y.lx (ltOf cf) lab)) := hL
  have S0 : Aside (SW enc w0 blk off d w) := S
  have HA : Aside (SortedIn (Y.lx (ltOf cf) lab) a m d) := q1
  have HB : Aside (SortedIn (Y.lx (ltOf cf) lab) m b d) := q2
  have HX : Aside (Y.Cross (ltOf cf) lab a m b d) := q3
  clear hcmp hL S q1 q2 q3
  have z1 : ((m : Int) - (a : Int) == 1) = false := beq_eq_false_iff_ne.2 (by omega)
  have rma : IntKind.i64.wrap ((m : Int) - (a : Int)) = (m : Int) - (a : Int) := by rw [IntKind.wrap_i64]; omega
  have z2 : (b : Int) - (m : Int) = 1 := by omega
  have M2 : Hid (b = m + 1) := (by omega : b = m + 1)
  go_enter Fsm, Try.ntmps86
  go_wp2
  clear z1 z2 rma
  go_loopg [14, 15] (m - a) (fun kx sA sB wr => ∃ (i j : Nat), sA = .int .i64 i ∧ sB = .int .i64 j ∧ a ≤ i ∧ i ≤ j ∧ j ≤ m ∧ j - i ≤ kx ∧ Aside (SW enc w0 blk off d wr) ∧ Aside (∀ x, a ≤ x → x < i → (ltOf cf d[m]! d[x]!) = false) ∧ Aside (∀ x, j ≤ x → x < m → (ltOf cf d[m]! d[x]!) = true))
  case atStart => exact ⟨a, m, rfl, rfl, Nat.le_refl _, by omega, Nat.le_refl _, Nat.le_refl _, S0, fun x h1 h2 => by omega, fun x h1 h2 => by omega⟩
  case round =>
    clear S0
    obtain ⟨i, j, rfl, rfl, hli, hij, hjh, hkx, S1, A1, A2⟩ := hrel
    by_cases hlt : (i : Int) < (j : Int)
    · obtain ⟨h, hh1, hh2⟩ : ∃ h, 2 * h ≤ i + j ∧ i + j ≤ 2 * h + 1 := ⟨(i + j) / 2, by omega, by omega⟩
      have zh : ((i : Int) + (j : Int)) / 2 = (h : Int) := by omega
      have rij : IntKind.i64.wrap ((i : Int) + (j : Int)) = (i : Int) + (j : Int) := by rw [IntKind.wrap_i64]; omega
      have hih : i ≤ h := by omega
      have hhj : h < j := by omega
      cases hlv : ltOf cf d[m]! d[h]! with
      | true =>
        obtain ⟨iN4, hiN4⟩ : ∃ zz, zz = m := ⟨_, rfl⟩
        obtain ⟨jN4, hjN4⟩ : ∃ zz, zz = h := ⟨_, rfl⟩
        have ea4 : ((m : Int)).toNat = iN4 := by omega
        have pa4 : (0 : Int) ≤ (m : Int) := by omega
        have ba4 : (m : Int) < (d.size : Int) := by omega
        have ra4 : IntKind.i64.wrap ((m : Int)) = (m : Int) := by rw [IntKind.wrap_i64]; omega
        have ec4 : ((h : Int)).toNat = jN4 := by omega
        have pc4 : (0 : Int) ≤ (h : Int) := by omega
        have bc4 : (h : Int) < (d.size : Int) := by omega
        have rc4 : IntKind.i64.wrap ((h : Int)) = (h : Int) := by rw [IntKind.wrap_i64]; omega
        obtain ⟨x4, hx4⟩ : ∃ x, x = d[m]! := ⟨_, rfl⟩
        obtain ⟨y4, hy4⟩ : ∃ x, x = d[h]! := ⟨_, rfl⟩
        have l4a := S1.out.cl R (by omega) (m) (by omega)
        have l4b := S1.out.cl R (by omega) (h) (by omega)
        rw [← hx4, ← hiN4] at l4a
        rw [← hy4, ← hjN4] at l4b
        have hc4 := S1.out.cmp HC.out (by omega) x4 y4
        have hv4 : cf x4 y4 < 0 := by rw [hx4, hy4]; exact of_decide_eq_true hlv
        have hd4 : decide (cf x4 y4 < 0) = true := decide_eq_true hv4
        clear hx4 hy4 hiN4 hjN4
        go_wp2_with fail
        go_quiet_grown (first | (go_at_fn g; refine Calls.grown_of (hc4 _ _)))
        have S2 : Aside (SW enc w0 blk off d (grow (wr.drewN nq) osq)) := S1.out.grown nq osq
        clear l4a l4b hc4 S1
        generalize grow (wr.drewN nq) osq = w2 at S2 ⊢
        clear nq osq
        clear ea4 ec4
        go_wp2
        go_roundg (h - i)
        case measure => omega
        case rel => exact ⟨i, h, rfl, by first | rfl | go_num | (congr 1; omega), hli, hih, by omega, Nat.le_refl _, S2, A1.out, fun x h1 h2 => (by
          rcases Nat.lt_or_ge x j with h3 | h3
          · exact Y.mono2 HL.out HA.out HX.out hmb (x := h) (y := x) (by omega) h1 h2 hlv
          · exact A2.out x h3 h2)⟩
      | false =>
        obtain ⟨iN5, hiN5⟩ : ∃ zz, zz = m := ⟨_, rfl⟩
        obtain ⟨jN5, hjN5⟩ : ∃ zz, zz = h := ⟨_, rfl⟩
        have ea5 : ((m : Int)).toNat = iN5 := by omega
        have pa5 : (0 : Int) ≤ (m : Int) := by omega
        have ba5 : (m : Int) < (d.size : Int) := by omega
        have ra5 : IntKind.i64.wrap ((m : Int)) = (m : Int) := by rw [IntKind.wrap_i64]; omega
        have ec5 : ((h : Int)).toNat = jN5 := by omega
        have pc5 : (0 : Int) ≤ (h : Int) := by omega
        have bc5 : (h : Int) < (d.size : Int) := by omega
        have rc5 : IntKind.i64.wrap ((h : Int)) = (h : Int) := by rw [IntKind.wrap_i64]; omega
        obtain ⟨x5, hx5⟩ : ∃ x, x = d[m]! := ⟨_, rfl⟩
        obtain ⟨y5, hy5⟩ : ∃ x, x = d[h]! := ⟨_, rfl⟩
        have l5a := S1.out.cl R (by omega) (m) (by omega)
        have l5b := S1.out.cl R (by omega) (h) (by omega)
        rw [← hx5, ← hiN5] at l5a
        rw [← hy5, ← hjN5] at l5b
        have hc5 := S1.out.cmp HC.out (by omega) x5 y5
        have hv5 : ¬ cf x5 y5 < 0 := by rw [hx5, hy5]; exact of_decide_eq_false hlv
        have hd5 : decide (cf x5 y5 < 0) = false := decide_eq_false hv5
        clear hx5 hy5 hiN5 hjN5
        go_wp2_with fail
        go_quiet_grown (first | (go_at_fn g; refine Calls.grown_of (hc5 _ _)))
        have S2 : Aside (SW enc w0 blk off d (grow (wr.drewN nq) osq)) := S1.out.grown nq osq
        clear l5a l5b hc5 S1
        generalize grow (wr.drewN nq) osq = w2 at S2 ⊢
        clear nq osq
        clear ea5 ec5
        go_wp2
        go_roundg (j - (h + 1))
        case measure => omega
        case rel => exact ⟨h + 1, j, by first | rfl | go_num | (congr 1; omega), rfl, by omega, by omega, hjh, Nat.le_refl _, S2, fun x h1 h2 => (by
          rcases Nat.lt_or_ge x i with h3 | h3
          · exact A1.out x h1 h3
          · cases hz : ltOf cf d[m]! d[x]! with
            | false => rfl
            | true => rw [Y.mono2 HL.out HA.out HX.out hmb (x := x) (y := h) h1 (by omega) (by omega) hz] at hlv; cases hlv), A2.out⟩
    · obtain rfl : i = j := by omega
      have FD : Aside (Y.Found (fun x => (ltOf cf d[m]! d[x]!)) a m i) := ⟨hli, hjh, A1.out, A2.out⟩
      clear A1 A2
      have V0 : Aside (Y.Via (Y.rot m m (m + 1)) a b d d) := (Y.Via.refl a b d).congr fun x => (Y.rot_none x).symm
      go_wp2
      go_loopg [17] (m - i) (fun kx sA wr2 => ∃ (q : Nat) (dk : Array α), sA = .int .i64 q ∧ i ≤ q ∧ q ≤ m ∧ q - i ≤ kx ∧ dk.size = d.size ∧ Aside (SW enc w0 blk off dk wr2) ∧ Aside (Y.Via (Y.rot q m (m + 1)) a b d dk))
      case atStart => exact ⟨m, d, rfl, by omega, Nat.le_refl _, Nat.le_refl _, rfl, S1, V0⟩
      case round =>
        clear S1 V0
        obtain ⟨q, dk, rfl, hiq, hqm, hkq, hdk, S2, V2⟩ := hrel
        by_cases hqlt : (i : Int) < (q : Int)
        · obtain ⟨r, hr⟩ : ∃ r, r + 1 = q := ⟨q - 1, by omega⟩
          have zr : (q : Int) - 1 = (r : Int) := by omega
          go_wp2_with fail
          obtain ⟨iN6, hiN6⟩ : ∃ zz, zz = q := ⟨_, rfl⟩
          obtain ⟨jN6, hjN6⟩ : ∃ zz, zz = r := ⟨_, rfl⟩
          have ea6 : ((q : Int)).toNat = iN6 := by omega
          have pa6 : (0 : Int) ≤ (q : Int) := by omega
          have ba6 : (q : Int) < (d.size : Int) := by omega
          have ra6 : IntKind.i64.wrap ((q : Int)) = (q : Int) := by rw [IntKind.wrap_i64]; omega
          have ec6 : ((r : Int)).toNat = jN6 := by omega
          have pc6 : (0 : Int) ≤ (r : Int) := by omega
          have bc6 : (r : Int) < (d.size : Int) := by omega
          have rc6 : IntKind.i64.wrap ((r : Int)) = (r : Int) := by rw [IntKind.wrap_i64]; omega
          obtain ⟨x6, hx6⟩ : ∃ x, x = dk[q]! := ⟨_, rfl⟩
          obtain ⟨y6, hy6⟩ : ∃ x, x = dk[r]! := ⟨_, rfl⟩
          have S3 : Aside (SW enc w0 blk off (swp dk (q) (r)) ((wr.setCell ⟨blk, off + iN6, none⟩ (enc y6)).setCell ⟨blk, off + jN6, none⟩ (enc x6)).drew) := by rw [hiN6, hjN6, hx6, hy6]; exact S2.out.swapped R (q) (r) (by omega) (by omega)
          have c6a := S2.out.c1 R (by omega) (q) (by omega)
          have f6a := S2.out.f1 R (by omega) (q) (by omega)
          have c6b := S2.out.c1 R (by omega) (r) (by omega)
          have f6b := S2.out.f1 R (by omega) (r) (by omega)
          obtain ⟨u6, c6c⟩ := S2.out.c2 R (by omega) (q) (r) (by omega) (by omega) (enc y6)
          rw [← hjN6, ← hiN6] at c6c
          rw [← hx6, ← hiN6] at c6a
          rw [← hy6, ← hjN6] at c6b
          rw [← hiN6] at f6a
          rw [← hjN6] at f6b
          clear S2 hx6 hy6 hiN6 hjN6
          go_wp2_with fail
          go_big_region_o
          clear c6a c6b c6c f6a f6b
          generalize ((wr.setCell ⟨blk, off + iN6, none⟩ (enc y6)).setCell ⟨blk, off + jN6, none⟩ (enc x6)).drew = w3 at S3 ⊢
          clear ea6 ec6
          have V3 : Aside (Y.Via (Y.rot r m (m + 1)) a b d (swp dk q r)) := (V2.out.trans (Y.via_swp dk (by omega) (by omega) (by omega) (by omega) (by omega))).congr fun x => by have := Y.rot_down (k := q) (m := m) (by omega) hqm x; rw [show q - 1 = r by omega] at this; exact this
          clear V2
          go_wp2
          go_roundg (r - i)
          case measure => omega
          case rel => exact ⟨r, swp dk q r, by first | rfl | go_num | simp, by omega, by omega, Nat.le_refl _, by rw [size_swp]; exact hdk, S3, V3⟩
        · obtain rfl : i = q := by omega
          go_wp2
          (try simp only [Exit.inBlock, Exit.then]); refine bodyPost_ret (results_none rfl _ _ _) rfl ?_
          exact ⟨rfl, dk, S2.out, Y.merge2 HL.out HA.out HX.out M2.out hb FD.out V2.out⟩
end Go.Proofs.Ytmhfpipeoojacaa

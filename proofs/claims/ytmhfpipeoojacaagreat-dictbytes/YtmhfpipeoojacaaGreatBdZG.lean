/- slices.stableCmpFunc and slices.SortStableFunc at rows of ints: sorted by value and then by place. Conditions: labels are places; fewer than 2^60. -/
import Derived.Test.YtmhfpipeoojacaaGreatBdZC
import Derived.Test.YtmhfpipeoojacaaGreatBdZF
import Derived.Test.YtmhfpipeoojacaaGreatBdZB
import Derived.Test.YtmhfpipeoojacaaGreatBdZA
namespace Go.Proofs.YtmhfpipeoojacaaGreat
open Go.Shelf Go.RowKit Go.Lib Go.Sort
set_option maxRecDepth 1000000
set_option linter.unusedVariables false
variable {P : Program} {α : Type} [Inhabited α]
set_option maxHeartbeats 16000000 in
theorem stableI (LY : LayI P) (Fsw : P.funcs[131]? = some Tryz.f131) (Fro : P.funcs[126]? = some Tryz.f126) (Fin : P.funcs[119]? = some Tryz.f119) (Fsm : P.funcs[120]? = some Tryz.f120) (Fst : P.funcs[110]? = some Tryz.f110) (enc : α → Value) (cf : α → α → Int) (lab : α → Nat) (hL : SWO (Y.lx (ltOf cf) lab)) (g : Nat) (cb : Array Value) (blk off cap : Nat) (d : Array α) (w : World)
    (R : Row1 enc w blk off d) (eg : ∀ args w, (callFunc g args).run P w = .ok (.enter g args) w) (hcmp : CmpLays1 P g cb enc cf blk off d.size w) (n : Nat) (hn : n = d.size) (hsz : n < 1152921504606846976) (hlab : ∀ i, i < n → lab d[i]! = i) :
    Calls P 110 #[.slice (some ⟨blk, off, none⟩) n cap, .int .i64 n, .func (.func g) #[] cb] w fun e w' => e = .returned (.tuple #[]) ∧ ∃ d', SW enc w blk off d' w' ∧ PermIn 0 n d d' ∧ SortedIn (Y.lx (ltOf cf) lab) 0 n d' := by
  have mixed := LY.mixed; have tUnit := LY.tUnit; have aUnit := LY.aUnit; have zUnit := LY.zUnit; have vUnit := LY.vUnit; have tInt := LY.tInt; have aInt := LY.aInt; have zInt := LY.zInt; have vInt := LY.vInt; have tBool := LY.tBool; have aBool := LY.aBool; have zBool := LY.zBool; have vBool := LY.vBool; have tUint := LY.tUint; have aUint := LY.aUint; have zUint := LY.zUint; have vUint := LY.vUint; have tSl := LY.tSl; have aSl := LY.aSl; have zSl := LY.zSl; have vSl := LY.vSl; have tFn := LY.tFn; have aFn := LY.aFn; have zFn := LY.zFn; have vFn := LY.vFn
  have uSl := run_underlying LY.tSl
  have HN : Hid (n = d.size) := hn
  have HB : Aside (∀ i, i < n → lab d[i]! = i) := hlab
  have HC : Aside _ := hcmp
  have HR : Aside _ := R
  have ein : ∀ args w, (callFunc 119 args).run P w = .ok (.enter 119 args) w := enters_of Fin (by kernel_rfl) rfl
  have esm : ∀ args w, (callFunc 120 args).run P w = .ok (.enter 120 args) w := enters_of Fsm (by kernel_rfl) rfl
  have S0 : Aside (SW enc w blk off d w) := SW.start R.hH
  have P0 : Aside (PermIn 0 n d d) := permIn_refl d 0 n
  have B0 : Aside (Y.Bl (ltOf cf) lab 20 0 0 d) := Y.Bl.none 20 0 d
  have INS : Aside (∀ (a b : Nat) (dk : Array α) (wk : World), dk.size = n → SW enc w blk off dk wk → a ≤ b → b ≤ n → (∀ i, a ≤ i → i < n → dk[i]! = d[i]!) → Calls P 119 #[.slice (some ⟨blk, off, none⟩) n cap, .int .i64 a, .int .i64 b, .func (.func g) #[] cb] wk fun e w' => e = .returned (.tuple #[]) ∧ ∃ d', SW enc w blk off d' w' ∧ PermIn a b dk d' ∧ SortedIn (Y.lx (ltOf cf) lab) a b d') := fun a b dk wk h1 h2 h3 h4 h5 => by
    have := insI LY Fin enc cf lab hL g cb blk off cap d w R eg hcmp a b dk wk (by omega) h2 h3 (by omega) (by omega) (fun x y k1 k2 k3 => by rw [h5 x k1 (by omega), h5 y (by omega) (by omega), hlab x (by omega), hlab y (by omega)]; exact k2)
    rw [h1] at this
    exact this
  have SYM : Aside (∀ (a m b : Nat) (dk : Array α) (wk : World), dk.size = n → SW enc w blk off dk wk → a < m → m < b → b ≤ n → SortedIn (Y.lx (ltOf cf) lab) a m dk → SortedIn (Y.lx (ltOf cf) lab) m b dk → Y.Cross (ltOf cf) lab a m b dk → Calls P 120 #[.slice (some ⟨blk, off, none⟩) n cap, .int .i64 a, .int .i64 m, .int .i64 b, .func (.func g) #[] cb] wk fun e w' => e = .returned (.tuple #[]) ∧ ∃ d', SW enc w blk off d' w' ∧ PermIn a b dk d' ∧ SortedIn (Y.lx (ltOf cf) lab) a b d') := fun a m b dk wk h1 h2 h3 h4 h5 h6 h7 h8 => by
    have := symI LY Fsw Fro Fsm enc cf lab hL g cb blk off cap d w R eg hcmp (b - a) a m b dk wk (Nat.le_refl _) (by omega) h2 h3 h4 (by omega) (by omega) h6 h7 h8
    rw [h1] at this
    exact this
  clear hcmp hL hlab hn R
  go_enter Fst, Tryz.ntmps110
  go_wp2
  go_loopg [7, 8] (n + 20) (fun kx s7 s8 wr => ∃ (q A B : Nat) (dk : Array α), s7 = .int .i64 A ∧ s8 = .int .i64 B ∧ Hid (A = q * 20) ∧ A + 20 ≤ B ∧ B ≤ A + 20 ∧ A ≤ n ∧ n + 20 - A ≤ kx ∧ dk.size = n ∧ Aside (SW enc w blk off dk wr) ∧ Aside (PermIn 0 n d dk) ∧ Aside (Y.Bl (ltOf cf) lab 20 0 A dk) ∧ Aside (∀ i, A ≤ i → i < n → dk[i]! = d[i]!))
  case atStart => exact ⟨0, 0, 20, d, rfl, rfl, rfl, by omega, by omega, by omega, by omega, HN.out.symm, S0, P0, B0, fun _ _ _ => rfl⟩
  case round =>
    clear S0 P0 B0
    obtain ⟨q, A, B, dk, rfl, rfl, hA, hB1, hB2, hAn, hkx, hds, S1, P1, B1, E1⟩ := hrel
    by_cases hle : (B : Int) ≤ (n : Int)
    · obtain ⟨B2, hC1, hC2⟩ : ∃ B2, B + 20 ≤ B2 ∧ B2 ≤ B + 20 := ⟨B + 20, by omega, by omega⟩
      have zB : (B : Int) + 20 = (B2 : Int) := by omega
      have rB : IntKind.i64.wrap (B2 : Int) = (B2 : Int) := by rw [IntKind.wrap_i64]; omega
      go_wp2_with fail
      refine (INS.out A B dk _ hds S1.out (by omega) (by omega) E1.out).mono ?_
      rintro _ w2 ⟨rfl, d2, s2, p2, r2⟩
      have S2 : Aside _ := s2
      have hd2 : d2.size = n := p2.1.trans hds
      have P2 : Aside (PermIn 0 n d d2) := permIn_trans d dk d2 0 n P1.out (permIn_mono dk d2 A B 0 n (by omega) (by omega) (by omega) p2)
      have B2' : Aside (Y.Bl (ltOf cf) lab 20 0 B d2) := (by
          have h0 := B1.out
          have h1 := h0.keep p2 (Or.inl (Nat.le_refl _))
          have e1 := hA.out
          subst e1
          have h2 := Y.bl_block (lt := ltOf cf) (lab := lab) (s := 20) (q := q) (b := B) (by omega) (by omega) p2 r2 fun i k1 k2 => by rw [E1.out i k1 (by omega), HB.out i (by omega)]; exact Y.div_in k1 (by omega)
          exact h1.join h2 (by omega))
      have E2 : Aside (∀ i, B ≤ i → i < n → d2[i]! = d[i]!) := fun i k1 k2 => by rw [p2.2.1 i (Or.inr k1)]; exact E1.out i (by omega) k2
      clear s2 p2 r2 S1 P1 B1 E1
      go_wp2
      go_roundg (n + 20 - B)
      case measure => omega
      case rel => exact ⟨q + 1, B, B2, d2, rfl, rfl, (by have := hA.out; show B = (q + 1) * 20; omega), by omega, by omega, by omega, Nat.le_refl _, hd2, S2, P2, B2', E2⟩
    · go_wp2_with fail
      refine (INS.out A n dk _ hds S1.out hAn (Nat.le_refl _) E1.out).mono ?_
      rintro _ w2 ⟨rfl, d2, s2, p2, r2⟩
      have S2 : Aside _ := s2
      have hd2 : d2.size = n := p2.1.trans hds
      have P2 : Aside (PermIn 0 n d d2) := permIn_trans d dk d2 0 n P1.out (permIn_mono dk d2 A n 0 n (by omega) (by omega) (by omega) p2)
      have B2 : Aside (Y.Bl (ltOf cf) lab 20 0 n d2) := (by
          have h1 := B1.out.keep p2 (Or.inl (Nat.le_refl _))
          have e1 := hA.out
          subst e1
          have h2 := Y.bl_block (lt := ltOf cf) (lab := lab) (s := 20) (q := q) (b := n) (by omega) (by omega) p2 r2 fun i k1 k2 => by rw [E1.out i k1 k2, HB.out i k2]; exact Y.div_in k1 (by omega)
          exact h1.join h2 (by omega))
      clear s2 p2 r2 S1 P1 B1 E1 hA
      go_wp2
      go_loopg [6] (n + 20) (fun kx s6 wr => ∃ (s : Nat) (dk : Array α), s6 = .int .i64 s ∧ 20 ≤ s ∧ s ≤ 2 * n + 20 ∧ n + 20 - s ≤ kx ∧ dk.size = n ∧ Aside (SW enc w blk off dk wr) ∧ Aside (PermIn 0 n d dk) ∧ Aside (Y.Bl (ltOf cf) lab s 0 n dk))
      case atStart => exact ⟨20, d2, rfl, by omega, by omega, by omega, hd2, S2, P2, B2⟩
      case round =>
        clear S2 P2 B2 hd2
        obtain ⟨s, dk, rfl, hs1, hs2, hkx, hds, S1, P1, B1⟩ := hrel
        by_cases hlt : (s : Int) < (n : Int)
        · obtain ⟨t, ht1, ht2⟩ : ∃ t, t ≤ 2 * s ∧ 2 * s ≤ t := ⟨2 * s, by omega, by omega⟩
          have zt : (2 : Int) * (s : Int) = (t : Int) := by omega
          have zt2 : (s : Int) * 2 = (t : Int) := by omega
          have rt : IntKind.i64.wrap (t : Int) = (t : Int) := by rw [IntKind.wrap_i64]; omega
          have B0 : Aside (Y.Bl (ltOf cf) lab (2 * s) 0 0 dk) := Y.Bl.none (2 * s) 0 dk
          go_wp2
          go_loopg [7, 8] (n + s) (fun kx s7 s8 wr => ∃ (q A B : Nat) (dj : Array α), s7 = .int .i64 A ∧ s8 = .int .i64 B ∧ Hid (A = q * (2 * s)) ∧ A + t ≤ B ∧ B ≤ A + t ∧ A ≤ n ∧ n + s - A ≤ kx ∧ dj.size = n ∧ Aside (SW enc w blk off dj wr) ∧ Aside (PermIn 0 n d dj) ∧ Aside (Y.Bl (ltOf cf) lab (2 * s) 0 A dj) ∧ Aside (Y.Bl (ltOf cf) lab s A n dj))
          case atStart => exact ⟨0, 0, t, dk, rfl, rfl, (show (0 : Nat) = 0 * (2 * s) by omega), by omega, by omega, by omega, by omega, hds, S1, P1, B0, B1⟩
          case round =>
            clear S1 P1 B0 B1
            obtain ⟨q, A, B, dj, rfl, rfl, hA, hB1, hB2, hAn, hkx, hdj, S2, P2, L2, U2⟩ := hrel
            obtain ⟨M, hM1, hM2⟩ : ∃ M, M ≤ A + s ∧ A + s ≤ M := ⟨A + s, by omega, by omega⟩
            have zM : (A : Int) + (s : Int) = (M : Int) := by omega
            have rM : IntKind.i64.wrap (M : Int) = (M : Int) := by rw [IntKind.wrap_i64]; omega
            have MG : Aside (∀ b, M < b → b ≤ n → b ≤ B → ∀ wk, SW enc w blk off dj wk → Calls P 120 #[.slice (some ⟨blk, off, none⟩) n cap, .int .i64 A, .int .i64 M, .int .i64 b, .func (.func g) #[] cb] wk fun e w' => e = .returned (.tuple #[]) ∧ ∃ d', d'.size = n ∧ SW enc w blk off d' w' ∧ PermIn 0 n d d' ∧ Y.Bl (ltOf cf) lab (2 * s) 0 b d' ∧ Y.Bl (ltOf cf) lab s b n d') := fun b k1 k2 k3 wk sk => by
              obtain rfl : M = A + s := by omega
              have e1 := hA.out
              subst e1
              refine (SYM.out _ _ b dj wk hdj sk (by omega) k1 k2 (Y.bl_left U2.out (by omega)) (Y.bl_right U2.out (by omega) k2) (Y.bl_cross U2.out (by omega) (by omega) k2)).mono ?_
              rintro _ w' ⟨rfl, d3, s3, p3, r3⟩
              exact ⟨rfl, d3, p3.1.trans hdj, s3, permIn_trans d dj d3 0 n P2.out (permIn_mono dj d3 _ b 0 n (by omega) k2 (by omega) p3), (L2.out.keep p3 (Or.inl (Nat.le_refl _))).join (Y.bl_merged U2.out (by omega) (by omega) k2 (by omega) p3 r3) (by omega), (U2.out.cut (by omega) (Nat.le_refl _)).keep p3 (Or.inr (Nat.le_refl _))⟩
            by_cases hle : (B : Int) ≤ (n : Int)
            · obtain ⟨B2, hC1, hC2⟩ : ∃ B2, B + t ≤ B2 ∧ B2 ≤ B + t := ⟨B + t, by omega, by omega⟩
              have zB : (B : Int) + (t : Int) = (B2 : Int) := by omega
              have rB : IntKind.i64.wrap (B2 : Int) = (B2 : Int) := by rw [IntKind.wrap_i64]; omega
              go_wp2_with fail
              refine (MG.out B (by omega) (by omega) (Nat.le_refl _) _ S2.out).mono ?_
              rintro _ w3 ⟨rfl, d3, hd3, s3, p3, l3, u3⟩
              have S3 : Aside _ := s3
              have P3 : Aside _ := p3
              have L3 : Aside _ := l3
              have U3 : Aside _ := u3
              clear s3 p3 l3 u3 S2 P2 L2 U2 MG
              go_wp2
              go_roundg (n + s - B)
              case measure => omega
              case rel => exact ⟨q + 1, B, B2, d3, rfl, rfl, (by have e1 := hA.out; show B = (q + 1) * (2 * s); rw [Nat.add_mul, Nat.one_mul, ← e1]; omega), by omega, by omega, by omega, Nat.le_refl _, hd3, S3, P3, L3, U3⟩
            · by_cases hMn : (M : Int) < (n : Int)
              · go_wp2_with fail
                refine (MG.out n (by omega) (Nat.le_refl _) (by omega) _ S2.out).mono ?_
                rintro _ w3 ⟨rfl, d3, hd3, s3, p3, l3, u3⟩
                have S3 : Aside _ := s3
                have P3 : Aside _ := p3
                have L3 : Aside (Y.Bl (ltOf cf) lab t 0 n d3) := (by rw [show t = 2 * s by omega]; exact l3)
                clear s3 p3 l3 u3 S2 P2 L2 U2 MG
                go_wp2
                go_roundg (n + 20 - t)
                case measure => omega
                case rel => exact ⟨t, d3, rfl, by omega, by omega, Nat.le_refl _, hd3, S3, P3, L3⟩
              · have L3 : Aside (Y.Bl (ltOf cf) lab t 0 n dj) := (by
                  have e1 := hA.out
                  rw [show t = 2 * s by omega]
                  have h1 := L2.out
                  have h2 := U2.out
                  rw [e1] at h1 h2
                  exact h1.join (Y.bl_lone h2 (by omega)) (by omega))
                go_wp2
                go_roundg (n + 20 - t)
                case measure => omega
                case rel => exact ⟨t, dj, rfl, by omega, by omega, Nat.le_refl _, hdj, S2, P2, L3⟩
        · go_wp2
          go_end0
          exact ⟨rfl, dk, S1.out, P1.out, Y.bl_all B1.out (by omega)⟩
set_option maxHeartbeats 4000000 in
theorem sortStableI (LY : LayI P) (Fsw : P.funcs[131]? = some Tryz.f131) (Fro : P.funcs[126]? = some Tryz.f126) (Fin : P.funcs[119]? = some Tryz.f119) (Fsm : P.funcs[120]? = some Tryz.f120) (Fst : P.funcs[110]? = some Tryz.f110) (Fss : P.funcs[83]? = some Tryz.f83) (enc : α → Value) (cf : α → α → Int) (lab : α → Nat) (hL : SWO (Y.lx (ltOf cf) lab)) (g : Nat) (cb : Array Value) (blk off cap : Nat) (d : Array α) (w : World)
    (R : Row1 enc w blk off d) (eg : ∀ args w, (callFunc g args).run P w = .ok (.enter g args) w) (hcmp : CmpLays1 P g cb enc cf blk off d.size w) (n : Nat) (hn : n = d.size) (hsz : n < 1152921504606846976) (hlab : ∀ i, i < n → lab d[i]! = i) :
    Calls P 83 #[.slice (some ⟨blk, off, none⟩) n cap, .func (.func g) #[] cb] w fun e w' => e = .returned (.tuple #[]) ∧ ∃ d', SW enc w blk off d' w' ∧ PermIn 0 n d d' ∧ SortedIn (Y.lx (ltOf cf) lab) 0 n d' := by
  have mixed := LY.mixed; have tUnit := LY.tUnit; have aUnit := LY.aUnit; have zUnit := LY.zUnit; have vUnit := LY.vUnit; have tInt := LY.tInt; have aInt := LY.aInt; have zInt := LY.zInt; have vInt := LY.vInt; have tBool := LY.tBool; have aBool := LY.aBool; have zBool := LY.zBool; have vBool := LY.vBool; have tUint := LY.tUint; have aUint := LY.aUint; have zUint := LY.zUint; have vUint := LY.vUint; have tSl := LY.tSl; have aSl := LY.aSl; have zSl := LY.zSl; have vSl := LY.vSl; have tFn := LY.tFn; have aFn := LY.aFn; have zFn := LY.zFn; have vFn := LY.vFn
  have uSl := run_underlying LY.tSl
  have est : ∀ args w, (callFunc 110 args).run P w = .ok (.enter 110 args) w := enters_of Fst (by kernel_rfl) rfl
  have HS : Aside _ := stableI LY Fsw Fro Fin Fsm Fst enc cf lab hL g cb blk off cap d w R eg hcmp n hn hsz hlab
  clear hcmp hL hlab hn R
  go_enter Fss, Tryz.ntmps83
  go_wp2_with fail
  refine Calls.mono HS.out ?_
  rintro _ w2 ⟨rfl, d2, s2, p2, r2⟩
  have X : Aside _ := s2
  have Z1 : Aside _ := p2
  have Z2 : Aside _ := r2
  clear s2 p2 r2 HS
  go_wp2
  go_end0
  exact ⟨rfl, d2, X.out, Z1.out, Z2.out⟩
end Go.Proofs.YtmhfpipeoojacaaGreat
/- dict.risingPlaces: the places of words in the order of these, of alike ones the first place ahead. Conditions: fewer than 2^40 words. -/
namespace Go.Proofs.YtmhfpipeoojacaaGreat
set_option linter.unusedVariables false
set_option maxRecDepth 10000
open Go.RowKit Go.Sort
theorem SlV.kept {F : Nat → Prop} {w w' : World} {ao : Option Addr} {len cap : Nat} {l : List Z.V} (h : SlV w ao len cap l) (hb : Kept F w w') (hf : ∀ x, ao = some x → ¬ F x.block) : SlV w' ao len cap l := by
  obtain ⟨h1, h2, h3, h4, h5⟩ := h
  refine ⟨h1, h2, h3, h4, ?_⟩
  rcases h5 with h5 | ⟨b, off, rfl, hlt, h5⟩
  · exact .inl h5
  · refine .inr ⟨b, off, rfl, Nat.lt_of_lt_of_le hlt hb.size, fun j x hx => ?_⟩
    have e := hb.block b hlt (hf _ rfl)
    obtain ⟨c1, c2, c3⟩ := h5 j x hx
    simp only [World.cell?] at c1 c2 c3 ⊢
    rw [e]
    exact ⟨c1, c2, c3⟩
set_option maxHeartbeats 1000000 in
theorem placesC_any (ao : Option Addr) (len cap bw : Nat) (ws : List Z.V) (i j : Nat) (x y : Z.V) (w : World) (h : SlV w ao len cap ws) (hb : w.cell? ⟨bw, 0, none⟩ = some (.slice ao len cap)) (hbl : bw < w.heap.size) (hi : ws[i]? = some x) (hj : ws[j]? = some y) (hl : len ≤ 140737488355328) :
    Calls Tryz.prog 84 #[.int .i64 i, .int .i64 j, .pointer (some ⟨bw, 0, none⟩)] w fun e w' => e = .returned (.int .i64 (Z.cv x y)) ∧ ∃ q os, w' = grow (w.drewN q) os := by
  have mixed := Tryz.mixed
  have hil : i < len := by rw [← h.1]; exact (List.getElem?_eq_some_iff.1 hi).1
  have hjl : j < len := by rw [← h.1]; exact (List.getElem?_eq_some_iff.1 hj).1
  obtain ⟨b, off, xk, xi, xs, rfl, hlt, hx, c1, c2, c3⟩ := h.at hil
  obtain ⟨b', off', yk, yi, ys, e, _, hy, g1, g2, g3⟩ := h.at hjl
  obtain ⟨rfl, rfl⟩ : b = b' ∧ off = off' := by injection e with e; injection e with e1 e2 e3; exact ⟨e1, e2⟩
  rw [hx] at hi
  rw [hy] at hj
  obtain rfl := Option.some.inj hi
  obtain rfl := Option.some.inj hj
  have d1 := cell_grown hlt c1
  have d2 := cell_grown hlt c2
  have d3 := cell_grown hlt c3
  have f1 := cell_grown hlt g1
  have f2 := cell_grown hlt g2
  have f3 := cell_grown hlt g3
  have hbx := cell_grown (a := ⟨bw, 0, none⟩) hbl hb
  obtain ⟨c, hc⟩ : ∃ c, Z.cv ⟨xk, xi, xs⟩ ⟨yk, yi, ys⟩ = c := ⟨_, rfl⟩
  have HC : Hid (∀ m os, Calls Tryz.prog 39 #[.agg #[.int .i64 xk, .int .i64 xi, .string xs], .agg #[.int .i64 yk, .int .i64 yi, .string ys]] (grow (w.drewN m) os) fun e w' => e = .returned (.int .i64 c) ∧ ∃ q os', w' = grow ((grow (w.drewN m) os).drewN q) os') := by
    intro m os; rw [← hc]
    refine (vcompare_two xk xi xs yk yi ys _).mono ?_
    rintro e w' ⟨rfl, a, b, rfl⟩
    exact ⟨rfl, 0, _, two_grow _ _ _⟩
  rw [hc]
  clear hc h hx hy c1 c2 c3 g1 g2 g3 hb e hi hj
  go_enter Tryz.func84, Tryz.ntmps84
  go_wp2_with fail
  go_quiet_grown (first | (go_at_call 39; refine Calls.grown_of (HC.out _ _)))
  go_wp2
  go_ret
  exact ⟨rfl, _, _, rfl⟩
end Go.Proofs.YtmhfpipeoojacaaGreat
/- dict.risingPlaces: the places of words in the order of these, of alike ones the first place ahead. Conditions: fewer than 2^40 words. -/
namespace Go.Proofs.YtmhfpipeoojacaaGreat
set_option linter.unusedVariables false
set_option maxRecDepth 10000
open Go.RowKit Go.Sort
theorem Tryz.infoInt : (Tryz.prog.info? 3).map (fun i => (i.zero, i.size, i.bytes)) = some (some (.int .i64 0), 1, 8) := by kernel_rfl
def encF {n : Nat} (x : Fin (n + 1)) : Value := .int .i64 (x.val : Int)
def cfF (ws : List Z.V) {n : Nat} (x y : Fin (n + 1)) : Int := cfL ws x.val y.val
theorem cfF_swo (ws : List Z.V) (n : Nat) : SWO (ltOf (cfF ws (n := n))) := ⟨fun x => (cfL_swo ws).irrefl x.val, fun x y z => (cfL_swo ws).trans x.val y.val z.val, fun x y z => (cfL_swo ws).ntrans x.val y.val z.val⟩
/-- Places, one by one. -/
def fr (n : Nat) : Array (Fin (n + 1)) := Array.ofFn fun i => i
theorem fr_size (n : Nat) : (fr n).size = n + 1 := by simp [fr]
theorem fr_get (n i : Nat) (h : i < n + 1) : (fr n)[i]! = ⟨i, h⟩ := by
  rw [getElem!_pos _ i (by rw [fr_size]; exact h)]; simp [fr]
theorem map_get {n : Nat} (dk : Array (Fin (n + 1))) (i : Nat) (h : i < dk.size) : (dk.map (fun x => x.val))[i]! = (dk[i]!).val := by
  rw [getElem!_pos _ i (by simpa using h), getElem!_pos _ i h]; simp
theorem srt_fin {ws : List Z.V} {n : Nat} (hn : ws.length = n + 1) {dk : Array (Fin (n + 1))} (h1 : PermIn 0 (n + 1) (fr n) dk) (h2 : SortedIn (Y.lx (ltOf (cfF ws)) (fun x : Fin (n + 1) => x.val)) 0 (n + 1) dk) : Srt ws (dk.map fun x => x.val) := by
  have hs : dk.size = n + 1 := by rw [h1.1, fr_size]
  have hp := h1.2.2
  rw [extract_toList dk 0 (n + 1) (by omega), extract_toList _ 0 (n + 1) (by rw [fr_size]; exact Nat.le_refl _)] at hp
  simp only [Nat.sub_zero] at hp
  have hp := hp.map (fun x : Fin (n + 1) => x.val)
  rw [List.map_map, List.map_map] at hp
  have e1 : (List.range' 0 (n + 1)).map ((fun x : Fin (n + 1) => x.val) ∘ fun i => dk[i]!) = (List.range' 0 (n + 1)).map fun i => (dk.map (fun x => x.val))[i]! := by
    apply List.map_congr_left
    intro i hi
    have := (List.mem_range'_1.1 hi).2
    rw [map_get dk i (by omega)]; rfl
  have e2 : (List.range' 0 (n + 1)).map ((fun x : Fin (n + 1) => x.val) ∘ fun i => (fr n)[i]!) = List.range' 0 (n + 1) := by
    apply List.ext_getElem
    · simp
    · intro i a b
      have : i < n + 1 := by simpa using a
      simp [fr_get n i this]
  rw [e1, e2] at hp
  refine srt_of ?_ ?_
  · rw [hn]
    refine ⟨by simp [hs], fun i hi => ?_, ?_⟩
    · rcases hi with hi | hi
      · omega
      · rw [getElem!_neg _ i (by simp; omega), getElem!_neg _ i (by simp; omega)]
    · rw [extract_toList _ 0 (n + 1) (by simp; omega), extract_toList _ 0 (n + 1) (by simp)]
      simp only [Nat.sub_zero]
      have e3 : (List.range' 0 (n + 1)).map (fun i => (Array.range (n + 1))[i]!) = List.range' 0 (n + 1) := by
        apply List.ext_getElem
        · simp
        · intro i a b
          have : i < n + 1 := by simpa using a
          simp [this]
      rw [e3]
      exact hp
  · rw [hn]
    intro i j k1 k2 k3
    have := h2 i j k1 k2 k3
    rw [map_get dk i (by omega), map_get dk j (by omega)]
    exact this
/-- A row of ints of one's own, as a sort asks it. -/
theorem row1_of_own {w : World} {B g cap n : Nat} (h : w.ownsRow B 3 1 (.slice (some ⟨g, 0, none⟩) (n + 1) cap) (n + 1) ((ints (List.range (n + 1))).map (Value.int .i64))) : Row1 (encF (n := n)) w g 0 (fr n) := by
  rcases h.2 with ⟨h1, h2⟩ | ⟨g', cap', cur, hv, hg, hh, hc, hm, hsz, ht⟩
  · cases h1
  · injection hv with e1 e2 e3
    injection Option.some.inj e1 with e4 e5 e6
    subst e4
    refine ⟨fun _ => rfl, fun j hj => ?_, lt_of_block hh⟩
    rw [fr_size] at hj
    refine ⟨?_, by simp [World.frozen?, hh]⟩
    have e : cur.toList[j]? = some (.int .i64 (j : Int)) := by
      rw [show cur.toList[j]? = (cur.toList.take ((n + 1) * 1))[j]? by rw [List.getElem?_take_of_lt (by omega)], ht]
      simp [ints, hj]
    rw [fr_get n j hj]
    simp only [World.cell?, hh, Nat.zero_add, Option.isSome_none, Bool.false_eq_true, if_false, encF]
    rw [← Array.getElem?_toList, e]
theorem own1_sorted {w w2 : World} {B g cap n : Nat} {dk : Array (Fin (n + 1))} {xs : List Value} (h : w.ownsRow B 3 1 (.slice (some ⟨g, 0, none⟩) (n + 1) cap) (n + 1) xs) (hs : dk.size = n + 1) (hw : SW encF w g 0 dk w2) :
    w2.ownsRow B 3 1 (.slice (some ⟨g, 0, none⟩) (n + 1) cap) (n + 1) ((ints (dk.map fun x => x.val).toList).map (Value.int .i64)) ∧ Kept (fun b => b = g) w w2 := by
  obtain ⟨m, os, rfl⟩ := hw
  rcases h.2 with ⟨h1, h2⟩ | ⟨g', cap', cur, hv, hg, hh, hc, hm, hsz, ht⟩
  · cases h1
  · injection hv with e1 e2 e3
    injection Option.some.inj e1 with e4 e5 e6
    subst e4; subst e3
    have hlt : g < w.heap.size := lt_of_block hh
    have hblk : (sortWorld encF w g 0 m dk os).heap[g]? = some (.cells (putCells encF 0 dk cur) 3 (0, 0)) := by
      unfold sortWorld
      have : (grow (putRow encF (Sort.ahead w m) g 0 dk) os).heap[g]? = (putRow encF (Sort.ahead w m) g 0 dk).heap[g]? := by
        simp only [grow]; rw [Array.getElem?_append_left (by simpa using hlt)]
      rw [this]
      simp [putRow, mapBlock, Sort.ahead, Array.getElem?_modify, hh, onCells]
    refine ⟨⟨by simp [ints, hs], .inr ⟨g, cap, _, rfl, hg, hblk, hc, hm, by simp [putCells, hsz], ?_⟩⟩, rfl, rfl, rfl, ?_, fun b hb hne => ?_⟩
    · apply List.ext_getElem?
      intro j
      by_cases hj : j < n + 1
      · rw [List.getElem?_take_of_lt (by omega), Array.getElem?_toList]
        simp only [putCells, Array.getElem?_mapIdx]
        rw [Array.getElem?_eq_getElem (show j < cur.size by omega), Option.map_some, if_pos ⟨by omega, by omega⟩, Nat.sub_zero, getElem!_pos dk j (by omega)]
        simp [ints, show j < dk.size by omega, encF]
      · rw [List.getElem?_take_eq_none (by omega), List.getElem?_eq_none (by simp [ints]; omega)]
    · unfold sortWorld; rw [size_grow, size_putRow]; show w.heap.size ≤ w.heap.size + _; omega
    · unfold sortWorld
      have : (grow (putRow encF (Sort.ahead w m) g 0 dk) os).heap[b]? = (putRow encF (Sort.ahead w m) g 0 dk).heap[b]? := by
        simp only [grow]; rw [Array.getElem?_append_left (by simpa using hb)]
      rw [this]
      simp [putRow, mapBlock, Sort.ahead, Array.getElem?_modify, Ne.symm hne]
theorem sw_kept {n : Nat} (w : World) (g m : Nat) (dk : Array (Fin (n + 1))) (os : Array Obj) : Kept (fun b => b = g) w (sortWorld encF w g 0 m dk os) := by
  refine ⟨rfl, rfl, rfl, ?_, fun b hb hne => ?_⟩
  · unfold sortWorld; rw [size_grow, size_putRow]; show w.heap.size ≤ w.heap.size + _; omega
  · unfold sortWorld
    have : (grow (putRow encF (Sort.ahead w m) g 0 dk) os).heap[b]? = (putRow encF (Sort.ahead w m) g 0 dk).heap[b]? := by
      simp only [grow]; rw [Array.getElem?_append_left (by simpa using hb)]
    rw [this]
    simp [putRow, mapBlock, Sort.ahead, Array.getElem?_modify, Ne.symm hne]
/-- The sort of places by the words that stand there. -/
theorem sortI_own (g cap B n bw : Nat) (ao : Option Addr) (wc : Nat) (ws : List Z.V) (w : World) (hn : ws.length = n + 1) (ho : w.ownsRow B 3 1 (.slice (some ⟨g, 0, none⟩) (n + 1) cap) (n + 1) ((ints (List.range (n + 1))).map (Value.int .i64)))
    (hsl : SlV w ao (n + 1) wc ws) (hb : w.cell? ⟨bw, 0, none⟩ = some (.slice ao (n + 1) wc)) (hbl : bw < w.heap.size) (hbg : bw ≠ g) (hag : ∀ x, ao = some x → x.block ≠ g) (hl : n + 1 ≤ 140737488355328) :
    Calls Tryz.prog 83 #[.slice (some ⟨g, 0, none⟩) (n + 1) cap, .func (.func 84) #[] #[.pointer (some ⟨bw, 0, none⟩)]] w fun e w' => e = .returned (.tuple #[]) ∧ ∃ dk : Array Nat, Srt ws dk ∧ w'.ownsRow B 3 1 (.slice (some ⟨g, 0, none⟩) (n + 1) cap) (n + 1) ((ints dk.toList).map (Value.int .i64)) ∧ Kept (fun b => b = g) w w' := by
  have R := row1_of_own ho
  refine (sortStableI layI Tryz.func131 Tryz.func126 Tryz.func119 Tryz.func120 Tryz.func110 Tryz.func83 (encF (n := n)) (cfF ws) (fun x : Fin (n + 1) => x.val) (Y.lx_swo (cfF_swo ws n) _) 84 #[.pointer (some ⟨bw, 0, none⟩)] g 0 cap (fr n) w R (enters_of Tryz.func84 (by kernel_rfl) rfl) ?_ (n + 1) (by rw [fr_size]) (by omega) (fun i hi => by rw [fr_get n i hi])).mono ?_
  · intro m os dk hs x y
    have hk := sw_kept w g m dk os
    have hx : ws[x.val]? = some (ws.getD x.val Z.o) := by rw [List.getD_eq_getElem?_getD, List.getElem?_eq_getElem (by rw [hn]; exact x.isLt)]; rfl
    have hy : ws[y.val]? = some (ws.getD y.val Z.o) := by rw [List.getD_eq_getElem?_getD, List.getElem?_eq_getElem (by rw [hn]; exact y.isLt)]; rfl
    refine (placesC_any ao (n + 1) wc bw ws x.val y.val _ _ _ (hsl.kept hk (fun a ha => hag a ha)) ?_ (Nat.lt_of_lt_of_le hbl hk.size) hx hy hl)
    have e := hk.block bw hbl hbg
    simp only [World.cell?] at hb ⊢
    rw [e]; exact hb
  · rintro e w' ⟨rfl, dk, h1, h2, h3⟩
    have hs : dk.size = n + 1 := by rw [h2.1, fr_size]
    have := own1_sorted ho hs h1
    exact ⟨rfl, _, srt_fin hn h2 h3, this.1, this.2⟩
end Go.Proofs.YtmhfpipeoojacaaGreat

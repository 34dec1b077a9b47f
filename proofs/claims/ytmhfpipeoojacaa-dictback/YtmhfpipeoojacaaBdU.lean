/- slices.stableCmpFunc and slices.SortStableFunc at rows of ints: sorted by value and then by place. Conditions: labels are places; fewer than 2^60. -/
import Derived.Test.YtmhfpipeoojacaaBdQ
import Derived.Test.YtmhfpipeoojacaaBdT
import Derived.Test.YtmhfpipeoojacaaRows
import Derived.WalkKit
import Derived.WalkSpells
import Derived.WalkLawsBesides
import Derived.Test.YtmhfpipeoojacaaBdE
import Derived.Test.YtmhfpipeoojacaaBdO
import Derived.BigQuiet
import Derived.WalkSmall
namespace Go.Proofs.Ytmhfpipeoojacaa
open Go.Shelf Go.RowKit Go.Lib Go.Sort
set_option maxRecDepth 1000000
set_option linter.unusedVariables false
variable {P : Program} {α : Type} [Inhabited α]
set_option maxHeartbeats 16000000 in
theorem stableI (LY : LayI P) (Fsw : P.funcs[104]? = some Try.f104) (Fro : P.funcs[97]? = some Try.f97) (Fin : P.funcs[85]? = some Try.f85) (Fsm : P.funcs[86]? = some Try.f86) (Fst : P.funcs[62]? = some Try.f62) (enc : α → Value) (cf : α → α → Int) (lab : α → Nat) (hL : SWO (Y.lx (ltOf cf) lab)) (g : Nat) (cb : Array Value) (blk off cap : Nat) (d : Array α) (w : World)
    (R : Row1 enc w blk off d) (eg : ∀ args w, (callFunc g args).run P w = .ok (.enter g args) w) (hcmp : CmpLays1 P g cb enc cf blk off d.size w) (n : Nat) (hn : n = d.size) (hsz : n < 1152921504606846976) (hlab : ∀ i, i < n → lab d[i]! = i) :
    Calls P 62 #[.slice (some ⟨blk, off, none⟩) n cap, .int .i64 n, .func (.func g) #[] cb] w fun e w' => e = .returned (.tuple #[]) ∧ ∃ d', SW enc w blk off d' w' ∧ PermIn 0 n d d' ∧ SortedIn (Y.lx (ltOf cf) lab) 0 n d' := by
  have mixed := LY.mixed; have tUnit := LY.tUnit; have aUnit := LY.aUnit; have zUnit := LY.zUnit; have vUnit := LY.vUnit; have tInt := LY.tInt; have aInt := LY.aInt; have zInt := LY.zInt; have vInt := LY.vInt; have tBool := LY.tBool; have aBool := LY.aBool; have zBool := LY.zBool; have vBool := LY.vBool; have tUint := LY.tUint; have aUint := LY.aUint; have zUint := LY.zUint; have vUint := LY.vUint; have tSl := LY.tSl; have aSl := LY.aSl; have zSl := LY.zSl; have vSl := LY.vSl; have tFn := LY.tFn; have aFn := LY.aFn; have zFn := LY.zFn; have vFn := LY.vFn
  have uSl := run_underlying LY.tSl
  have HN : Hid (n = d.size) := hn
  have HB : Aside (∀ i, i < n → lab d[i]! = i) := hlab
  have HC : Aside _ := hcmp
  have HR : Aside _ := R
  have ein : ∀ args w, (callFunc 85 args).run P w = .ok (.enter 85 args) w := enters_of Fin (by kernel_rfl) rfl
  have esm : ∀ args w, (callFunc 86 args).run P w = .ok (.enter 86 args) w := enters_of Fsm (by kernel_rfl) rfl
  have S0 : Aside (SW enc w blk off d w) := SW.start R.hH
  have P0 : Aside (PermIn 0 n d d) := permIn_refl d 0 n
  have B0 : Aside (Y.Bl (ltOf cf) lab 20 0 0 d) := Y.Bl.none 20 0 d
  have INS : Aside (∀ (a b : Nat) (dk : Array α) (wk : World), dk.size = n → SW enc w blk off dk wk → a ≤ b → b ≤ n → (∀ i, a ≤ i → i < n → dk[i]! = d[i]!) → Calls P 85 #[.slice (some ⟨blk, off, none⟩) n cap, .int .i64 a, .int .i64 b, .func (.func g) #[] cb] wk fun e w' => e = .returned (.tuple #[]) ∧ ∃ d', SW enc w blk off d' w' ∧ PermIn a b dk d' ∧ SortedIn (Y.lx (ltOf cf) lab) a b d') := fun a b dk wk h1 h2 h3 h4 h5 => by
    have := insI LY Fin enc cf lab hL g cb blk off cap d w R eg hcmp a b dk wk (by omega) h2 h3 (by omega) (by omega) (fun x y k1 k2 k3 => by rw [h5 x k1 (by omega), h5 y (by omega) (by omega), hlab x (by omega), hlab y (by omega)]; exact k2)
    rw [h1] at this
    exact this
  have SYM : Aside (∀ (a m b : Nat) (dk : Array α) (wk : World), dk.size = n → SW enc w blk off dk wk → a < m → m < b → b ≤ n → SortedIn (Y.lx (ltOf cf) lab) a m dk → SortedIn (Y.lx (ltOf cf) lab) m b dk → Y.Cross (ltOf cf) lab a m b dk → Calls P 86 #[.slice (some ⟨blk, off, none⟩) n cap, .int .i64 a, .int .i64 m, .int .i64 b, .func (.func g) #[] cb] wk fun e w' => e = .returned (.tuple #[]) ∧ ∃ d', SW enc w blk off d' w' ∧ PermIn a b dk d' ∧ SortedIn (Y.lx (ltOf cf) lab) a b d') := fun a m b dk wk h1 h2 h3 h4 h5 h6 h7 h8 => by
    have := symI LY Fsw Fro Fsm enc cf lab hL g cb blk off cap d w R eg hcmp (b - a) a m b dk wk (Nat.le_refl _) (by omega) h2 h3 h4 (by omega) (by omega) h6 h7 h8
    rw [h1] at this
    exact this
  clear hcmp hL hlab hn R
  go_enter Fst, Try.ntmps62
  go_wp2
  go_loopg [7, 8] (n + 20) (fun kx s7 s8 wr => ∃ (q A B : Nat) (dk : Array α), s7 = .int .i64 A ∧ s8 = .int .i64 B ∧ Hid (A = q * 20) ∧ A + 20 ≤ B ∧ B ≤ A + 20 ∧ A ≤ n ∧ n + 20 - A ≤ kx ∧ dk.size = n ∧ Aside (SW enc w blk off dk wr) ∧ Aside (PermIn 0 n d dk) ∧ Aside (Y.Bl (ltOf cf) lab 20 0 A dk) ∧ Aside (∀ i, A ≤ i → i < n → dk[i]! = d[i]!))
  case atStart => exact ⟨0, 0, 20, d, rfl, rfl, rfl, by omega, by omega, by omega, by omega, HN.out.symm, S0, P0, B0, fun _ _ _ => rfl⟩
  case round =>
    clear S0 P0 B0
    obtain ⟨q, A, B, dk, rfl, rfl, hA, hB1, hB2, hAn, hkx, hds, S1, P1, B1, E1⟩ := hrel
    by_cases hle : (B : Int) ≤ (n : Int)
    · obtain ⟨B2, hC1, hC2⟩ : ∃ B2, B + 20 ≤ B2 ∧ B2 ≤ B + 20 := ⟨B + 20, by omega, by omega⟩
      have zB : (B : Int) + 20 = (B2 : Int) := by omega
      have rB : IntKind.i64.wrap (B2 : Int) = (B2 : Int) := by rw [IntKind.wrap_i64]; omega
      go_wp2_with fail
      refine (INS.out A B dk _ hds S1.out (by omega) (by omega) E1.out).mono ?_
      rintro _ w2 ⟨rfl, d2, s2, p2, r2⟩
      have S2 : Aside _ := s2
      have hd2 : d2.size = n := p2.1.trans hds
      have P2 : Aside (PermIn 0 n d d2) := permIn_trans d dk d2 0 n P1.out (permIn_mono dk d2 A B 0 n (by omega) (by omega) (by omega) p2)
      have B2' : Aside (Y.Bl (ltOf cf) lab 20 0 B d2) := (by
          have h0 := B1.out
          have h1 := h0.keep p2 (Or.inl (Nat.le_refl _))
          have e1 := hA.out
          subst e1
          have h2 := Y.bl_block (lt := ltOf cf) (lab := lab) (s := 20) (q := q) (b := B) (by omega) (by omega) p2 r2 fun i k1 k2 => by rw [E1.out i k1 (by omega), HB.out i (by omega)]; exact Y.div_in k1 (by omega)
          exact h1.join h2 (by omega))
      have E2 : Aside (∀ i, B ≤ i → i < n → d2[i]! = d[i]!) := fun i k1 k2 => by rw [p2.2.1 i (Or.inr k1)]; exact E1.out i (by omega) k2
      clear s2 p2 r2 S1 P1 B1 E1
      go_wp2
      go_roundg (n + 20 - B)
      case measure => omega
      case rel => exact ⟨q + 1, B, B2, d2, rfl, rfl, (by have := hA.out; show B = (q + 1) * 20; omega), by omega, by omega, by omega, Nat.le_refl _, hd2, S2, P2, B2', E2⟩
    · go_wp2_with fail
      refine (INS.out A n dk _ hds S1.out hAn (Nat.le_refl _) E1.out).mono ?_
      rintro _ w2 ⟨rfl, d2, s2, p2, r2⟩
      have S2 : Aside _ := s2
      have hd2 : d2.size = n := p2.1.trans hds
      have P2 : Aside (PermIn 0 n d d2) := permIn_trans d dk d2 0 n P1.out (permIn_mono dk d2 A n 0 n (by omega) (by omega) (by omega) p2)
      have B2 : Aside (Y.Bl (ltOf cf) lab 20 0 n d2) := (by
          have h1 := B1.out.keep p2 (Or.inl (Nat.le_refl _))
          have e1 := hA.out
          subst e1
          have h2 := Y.bl_block (lt := ltOf cf) (lab := lab) (s := 20) (q := q) (b := n) (by omega) (by omega) p2 r2 fun i k1 k2 => by rw [E1.out i k1 k2, HB.out i k2]; exact Y.div_in k1 (by omega)
          exact h1.join h2 (by omega))
      clear s2 p2 r2 S1 P1 B1 E1 hA
      go_wp2
      go_loopg [6] (n + 20) (fun kx s6 wr => ∃ (s : Nat) (dk : Array α), s6 = .int .i64 s ∧ 20 ≤ s ∧ s ≤ 2 * n + 20 ∧ n + 20 - s ≤ kx ∧ dk.size = n ∧ Aside (SW enc w blk off dk wr) ∧ Aside (PermIn 0 n d dk) ∧ Aside (Y.Bl (ltOf cf) lab s 0 n dk))
      case atStart => exact ⟨20, d2, rfl, by omega, by omega, by omega, hd2, S2, P2, B2⟩
      case round =>
        clear S2 P2 B2 hd2
        obtain ⟨s, dk, rfl, hs1, hs2, hkx, hds, S1, P1, B1⟩ := hrel
        by_cases hlt : (s : Int) < (n : Int)
        · obtain ⟨t, ht1, ht2⟩ : ∃ t, t ≤ 2 * s ∧ 2 * s ≤ t := ⟨2 * s, by omega, by omega⟩
          have zt : (2 : Int) * (s : Int) = (t : Int) := by omega
          have zt2 : (s : Int) * 2 = (t : Int) := by omega
          have rt : IntKind.i64.wrap (t : Int) = (t : Int) := by rw [IntKind.wrap_i64]; omega
          have B0 : Aside (Y.Bl (ltOf cf) lab (2 * s) 0 0 dk) := Y.Bl.none (2 * s) 0 dk
          go_wp2
          go_loopg [7, 8] (n + s) (fun kx s7 s8 wr => ∃ (q A B : Nat) (dj : Array α), s7 = .int .i64 A ∧ s8 = .int .i64 B ∧ Hid (A = q * (2 * s)) ∧ A + t ≤ B ∧ B ≤ A + t ∧ A ≤ n ∧ n + s - A ≤ kx ∧ dj.size = n ∧ Aside (SW enc w blk off dj wr) ∧ Aside (PermIn 0 n d dj) ∧ Aside (Y.Bl (ltOf cf) lab (2 * s) 0 A dj) ∧ Aside (Y.Bl (ltOf cf) lab s A n dj))
          case atStart => exact ⟨0, 0, t, dk, rfl, rfl, (show (0 : Nat) = 0 * (2 * s) by omega), by omega, by omega, by omega, by omega, hds, S1, P1, B0, B1⟩
          case round =>
            clear S1 P1 B0 B1
            obtain ⟨q, A, B, dj, rfl, rfl, hA, hB1, hB2, hAn, hkx, hdj, S2, P2, L2, U2⟩ := hrel
            obtain ⟨M, hM1, hM2⟩ : ∃ M, M ≤ A + s ∧ A + s ≤ M := ⟨A + s, by omega, by omega⟩
            have zM : (A : Int) + (s : Int) = (M : Int) := by omega
            have rM : IntKind.i64.wrap (M : Int) = (M : Int) := by rw [IntKind.wrap_i64]; omega
            have MG : Aside (∀ b, M < b → b ≤ n → b ≤ B → ∀ wk, SW enc w blk off dj wk → Calls P 86 #[.slice (some ⟨blk, off, none⟩) n cap, .int .i64 A, .int .i64 M, .int .i64 b, .func (.func g) #[] cb] wk fun e w' => e = .returned (.tuple #[]) ∧ ∃ d', d'.size = n ∧ SW enc w blk off d' w' ∧ PermIn 0 n d d' ∧ Y.Bl (ltOf cf) lab (2 * s) 0 b d' ∧ Y.Bl (ltOf cf) lab s b n d') := fun b k1 k2 k3 wk sk => by
              obtain rfl : M = A + s := by omega
              have e1 := hA.out
              subst e1
              refine (SYM.out _ _ b dj wk hdj sk (by omega) k1 k2 (Y.bl_left U2.out (by omega)) (Y.bl_right U2.out (by omega) k2) (Y.bl_cross U2.out (by omega) (by omega) k2)).mono ?_
              rintro _ w' ⟨rfl, d3, s3, p3, r3⟩
              exact ⟨rfl, d3, p3.1.trans hdj, s3, permIn_trans d dj d3 0 n P2.out (permIn_mono dj d3 _ b 0 n (by omega) k2 (by omega) p3), (L2.out.keep p3 (Or.inl (Nat.le_refl _))).join (Y.bl_merged U2.out (by omega) (by omega) k2 (by omega) p3 r3) (by omega), (U2.out.cut (by omega) (Nat.le_refl _)).keep p3 (Or.inr (Nat.le_refl _))⟩
            by_cases hle : (B : Int) ≤ (n : Int)
            · obtain ⟨B2, hC1, hC2⟩ : ∃ B2, B + t ≤ B2 ∧ B2 ≤ B + t := ⟨B + t, by omega, by omega⟩
              have zB : (B : Int) + (t : Int) = (B2 : Int) := by omega
              have rB : IntKind.i64.wrap (B2 : Int) = (B2 : Int) := by rw [IntKind.wrap_i64]; omega
              go_wp2_with fail
              refine (MG.out B (by omega) (by omega) (Nat.le_refl _) _ S2.out).mono ?_
              rintro _ w3 ⟨rfl, d3, hd3, s3, p3, l3, u3⟩
              have S3 : Aside _ := s3
              have P3 : Aside _ := p3
              have L3 : Aside _ := l3
              have U3 : Aside _ := u3
              clear s3 p3 l3 u3 S2 P2 L2 U2 MG
              go_wp2
              go_roundg (n + s - B)
              case measure => omega
              case rel => exact ⟨q + 1, B, B2, d3, rfl, rfl, (by have e1 := hA.out; show B = (q + 1) * (2 * s); rw [Nat.add_mul, Nat.one_mul, ← e1]; omega), by omega, by omega, by omega, Nat.le_refl _, hd3, S3, P3, L3, U3⟩
            · by_cases hMn : (M : Int) < (n : Int)
              · go_wp2_with fail
                refine (MG.out n (by omega) (Nat.le_refl _) (by omega) _ S2.out).mono ?_
                rintro _ w3 ⟨rfl, d3, hd3, s3, p3, l3, u3⟩
                have S3 : Aside _ := s3
                have P3 : Aside _ := p3
                have L3 : Aside (Y.Bl (ltOf cf) lab t 0 n d3) := (by rw [show t = 2 * s by omega]; exact l3)
                clear s3 p3 l3 u3 S2 P2 L2 U2 MG
                go_wp2
                go_roundg (n + 20 - t)
                case measure => omega
                case rel => exact ⟨t, d3, rfl, by omega, by omega, Nat.le_refl _, hd3, S3, P3, L3⟩
              · have L3 : Aside (Y.Bl (ltOf cf) lab t 0 n dj) := (by
                  have e1 := hA.out
                  rw [show t = 2 * s by omega]
                  have h1 := L2.out
                  have h2 := U2.out
                  rw [e1] at h1 h2
                  exact h1.join (Y.bl_lone h2 (by omega)) (by omega))
                go_wp2
                go_roundg (n + 20 - t)
                case measure => omega
                case rel => exact ⟨t, dj, rfl, by omega, by omega, Nat.le_refl _, hdj, S2, P2, L3⟩
        · go_wp2
          go_end0
          exact ⟨rfl, dk, S1.out, P1.out, Y.bl_all B1.out (by omega)⟩
set_option maxHeartbeats 4000000 in
theorem sortStableI (LY : LayI P) (Fsw : P.funcs[104]? = some Try.f104) (Fro : P.funcs[97]? = some Try.f97) (Fin : P.funcs[85]? = some Try.f85) (Fsm : P.funcs[86]? = some Try.f86) (Fst : P.funcs[62]? = some Try.f62) (Fss : P.funcs[39]? = some Try.f39) (enc : α → Value) (cf : α → α → Int) (lab : α → Nat) (hL : SWO (Y.lx (ltOf cf) lab)) (g : Nat) (cb : Array Value) (blk off cap : Nat) (d : Array α) (w : World)
    (R : Row1 enc w blk off d) (eg : ∀ args w, (callFunc g args).run P w = .ok (.enter g args) w) (hcmp : CmpLays1 P g cb enc cf blk off d.size w) (n : Nat) (hn : n = d.size) (hsz : n < 1152921504606846976) (hlab : ∀ i, i < n → lab d[i]! = i) :
    Calls P 39 #[.slice (some ⟨blk, off, none⟩) n cap, .func (.func g) #[] cb] w fun e w' => e = .returned (.tuple #[]) ∧ ∃ d', SW enc w blk off d' w' ∧ PermIn 0 n d d' ∧ SortedIn (Y.lx (ltOf cf) lab) 0 n d' := by
  have mixed := LY.mixed; have tUnit := LY.tUnit; have aUnit := LY.aUnit; have zUnit := LY.zUnit; have vUnit := LY.vUnit; have tInt := LY.tInt; have aInt := LY.aInt; have zInt := LY.zInt; have vInt := LY.vInt; have tBool := LY.tBool; have aBool := LY.aBool; have zBool := LY.zBool; have vBool := LY.vBool; have tUint := LY.tUint; have aUint := LY.aUint; have zUint := LY.zUint; have vUint := LY.vUint; have tSl := LY.tSl; have aSl := LY.aSl; have zSl := LY.zSl; have vSl := LY.vSl; have tFn := LY.tFn; have aFn := LY.aFn; have zFn := LY.zFn; have vFn := LY.vFn
  have uSl := run_underlying LY.tSl
  have est : ∀ args w, (callFunc 62 args).run P w = .ok (.enter 62 args) w := enters_of Fst (by kernel_rfl) rfl
  have HS : Aside _ := stableI LY Fsw Fro Fin Fsm Fst enc cf lab hL g cb blk off cap d w R eg hcmp n hn hsz hlab
  clear hcmp hL hlab hn R
  go_enter Fss, Try.ntmps39
  go_wp2_with fail
  refine Calls.mono HS.out ?_
  rintro _ w2 ⟨rfl, d2, s2, p2, r2⟩
  have X : Aside _ := s2
  have Z1 : Aside _ := p2
  have Z2 : Aside _ := r2
  clear s2 p2 r2 HS
  go_wp2
  go_end0
  exact ⟨rfl, d2, X.out, Z1.out, Z2.out⟩
end Go.Proofs.Ytmhfpipeoojacaa
/- The contracts of the reference's Parts, IsNan, Clean, Key, Bits, Compare. -/
namespace Go.Proofs.Ytmhfpipeoojacaa
set_option linter.unusedVariables false
open Go.RowKit

theorem rparts_any (b : Int) (w : World) (h0 : 0 ≤ b) (h1 : b < 18446744073709551616) :
    Calls Try.prog 84 #[.int .u64 b] w fun e w' => e = .returned (.tuple #[.bool (decide (9223372036854775808 ≤ b)), .int .u64 (b / 4503599627370496 % 2048), .int .u64 (b % 4503599627370496)]) ∧ w' = w := by
  go_enter Try.func84, Try.ntmps84
  go_wp2
  go_ret3
  exact ⟨rfl, rfl⟩
theorem risnan_any (b : Int) (w : World) (h0 : 0 ≤ b) (h1 : b < 18446744073709551616) :
    Calls Try.prog 96 #[.int .u64 b] w fun e w' => e = .returned (.bool (D.isN b)) ∧ w' = w := by
  go_enter Try.func96, Try.ntmps96
  go_wp2_with fail
  refine (rparts_any b w h0 h1).mono ?_
  rintro e w1 ⟨rfl, rfl⟩
  obtain ⟨E, hE⟩ : ∃ E, b / 4503599627370496 % 2048 = E := ⟨_, rfl⟩
  obtain ⟨F, hF⟩ : ∃ F, b % 4503599627370496 = F := ⟨_, rfl⟩
  rw [hE, hF]
  have hI : Hid (D.isN b = ((E == 2047) && (F != 0))) := by show _ = _; unfold D.isN; rw [hE, hF]
  clear hE hF
  cases hb : (E == 2047) with
  | false =>
    go_wp2
    go_ret
    exact ⟨by rw [hI.out, hb]; rfl, rfl⟩
  | true =>
    go_wp2
    go_ret
    exact ⟨by rw [hI.out, hb]; rfl, rfl⟩
theorem rclean_any (b : Int) (w : World) (h0 : 0 ≤ b) (h1 : b < 18446744073709551616) :
    Calls Try.prog 83 #[.int .u64 b] w fun e w' => e = .returned (.int .u64 (D.cl b)) ∧ w' = w := by
  go_enter Try.func83, Try.ntmps83
  go_wp2_with fail
  refine (risnan_any b w h0 h1).mono ?_
  rintro e w1 ⟨rfl, rfl⟩
  cases hb : D.isN b with
  | false =>
    have HC : Hid (D.cl b = b) := D.cl_num hb
    go_wp2
    go_ret
    exact ⟨by rw [HC.out]; rfl, rfl⟩
  | true =>
    have HC : Hid (D.cl b = 9221120237041090560) := D.cl_nan hb
    go_wp2
    go_ret
    exact ⟨by rw [HC.out]; rfl, rfl⟩
theorem rkey_any (b : Int) (w : World) (h0 : 0 ≤ b) (h1 : b < 18446744073709551616) :
    Calls Try.prog 61 #[.int .u64 b] w fun e w' => e = .returned (.int .u64 (D.ky b)) ∧ w' = w := by
  have hc := D.cl_in (b := b) ⟨h0, h1⟩
  go_enter Try.func61, Try.ntmps61
  go_wp2_with fail
  refine (rclean_any b w h0 h1).mono ?_
  rintro e w1 ⟨rfl, rfl⟩
  obtain ⟨c, hce⟩ : ∃ c, D.cl b = c := ⟨_, rfl⟩
  rw [hce] at hc ⊢
  have HK : Hid (D.ky b = if 9223372036854775808 ≤ c then 18446744073709551615 - c else c + 9223372036854775808) := by show _ = _; unfold D.ky; rw [hce]
  obtain ⟨hc0, hc1⟩ := hc
  clear hce
  by_cases hs : 9223372036854775808 ≤ c
  · go_wp2_with fail
    refine (rparts_any c w1 hc0 hc1).mono ?_
    rintro e w2 ⟨rfl, rfl⟩
    have hd : decide (9223372036854775808 ≤ c) = true := by simp [hs]
    rw [hd]
    go_wp2
    go_ret
    exact ⟨by rw [HK.out, if_pos hs]; rfl, rfl⟩
  · go_wp2_with fail
    refine (rparts_any c w1 hc0 hc1).mono ?_
    rintro e w2 ⟨rfl, rfl⟩
    have hd : decide (9223372036854775808 ≤ c) = false := by simp; omega
    rw [hd]
    go_wp2
    go_ret
    exact ⟨by rw [HK.out, if_neg (by omega)]; rfl, rfl⟩
theorem rcompare_any (a b : Int) (w : World) (h0 : 0 ≤ a) (h1 : a < 18446744073709551616) (h2 : 0 ≤ b) (h3 : b < 18446744073709551616) :
    Calls Try.prog 37 #[.int .u64 a, .int .u64 b] w fun e w' => e = .returned (.int .i64 (D.cp a b)) ∧ w' = w := by
  have hk := fun w => rkey_any a w h0 h1
  have hl := fun w => rkey_any b w h2 h3
  have HC : Hid (D.cp a b = if D.ky a < D.ky b then -1 else if D.ky b < D.ky a then 1 else 0) := by show _ = _; rfl
  obtain ⟨x, hx⟩ : ∃ x, D.ky a = x := ⟨_, rfl⟩
  obtain ⟨y, hy⟩ : ∃ y, D.ky b = y := ⟨_, rfl⟩
  simp only [hx] at hk HC
  simp only [hy] at hl HC
  have HK : Hid (∀ w, Calls Try.prog 61 #[.int .u64 a] w fun e w' => e = .returned (.int .u64 x) ∧ w' = w) := hk
  have HL : Hid (∀ w, Calls Try.prog 61 #[.int .u64 b] w fun e w' => e = .returned (.int .u64 y) ∧ w' = w) := hl
  clear hk hl hx hy
  generalize D.cp a b = cpv at HC ⊢
  go_enter Try.func37, Try.ntmps37
  go_wp2_with fail
  refine (HK.out _).mono ?_
  rintro e w1 ⟨rfl, rfl⟩
  go_wp2_with fail
  refine (HL.out _).mono ?_
  rintro e w2 ⟨rfl, rfl⟩
  by_cases c1 : x < y
  · have HV : Hid (cpv = -1) := by show _ = _; rw [HC.out, if_pos c1]
    go_wp2
    go_ret
    exact ⟨by rw [HV.out]; rfl, rfl⟩
  · have HX : Hid (cpv = if y < x then 1 else 0) := by show _ = _; rw [HC.out, if_neg c1]
    go_wp2_with fail
    refine (HK.out _).mono ?_
    rintro e w3 ⟨rfl, rfl⟩
    go_wp2_with fail
    refine (HL.out _).mono ?_
    rintro e w4 ⟨rfl, rfl⟩
    by_cases c2 : y < x
    · have HV : Hid (cpv = 1) := by show _ = _; rw [HX.out, if_pos c2]
      go_wp2
      go_ret
      exact ⟨by rw [HV.out]; rfl, rfl⟩
    · have HV : Hid (cpv = 0) := by show _ = _; rw [HX.out, if_neg c2]
      go_wp2
      go_ret
      exact ⟨by rw [HV.out]; rfl, rfl⟩
end Go.Proofs.Ytmhfpipeoojacaa
/- The document's order of values: astragalref05.Compare and what it calls. Conditions: none. -/
namespace Go.Proofs.Ytmhfpipeoojacaa
set_option linter.unusedVariables false
open Go.RowKit Go.Sort
theorem uorder_any (p q : Bool) (w : World) : Calls Try.prog 36 #[.bool p, .bool q] w fun e w' => e = .returned (.int .i64 (if p = true then -1 else if q = true then 1 else 0)) ∧ w' = w := by
  cases p <;> cases q <;> (go_enter Try.func36, Try.ntmps36; go_wp2; go_ret; exact ⟨rfl, rfl⟩)
theorem utexts_any (s t : ByteArray) (w : World) (hs : s.size ≤ 9223372036854775807) (ht : t.size ≤ 9223372036854775807) : Calls Try.prog 38 #[.string s, .string t] w fun e w' => e = .returned (.int .i64 (Z.cs s t)) ∧ ∃ q, w' = w.drewN q := by
  go_enter Try.func38, Try.ntmps38
  go_wp2_with fail
  go_loopw [5] (fun i wr => ∃ j q : Nat, j ≤ s.size ∧ j ≤ t.size ∧ i = .int .i64 j ∧ wr = w.drewN q ∧ Hid (Lib.compareBytes (s.data.toList.drop j) (t.data.toList.drop j) = Z.cs s t)) (fun i _ => s.size - (intOf i).toNat)
  case atStart => exact ⟨0, 0, Nat.zero_le _, Nat.zero_le _, rfl, rfl, hide rfl⟩
  case round =>
    obtain ⟨j, q, hj, hk, rfl, rfl, HI⟩ := hrel
    by_cases h1 : j < s.size
    · by_cases h2 : j < t.size
      · have e1 : s.data.toList.drop j = s[j] :: s.data.toList.drop (j + 1) := by rw [List.drop_eq_getElem_cons (by simpa using h1)]; rfl
        have e2 : t.data.toList.drop j = t[j] :: t.data.toList.drop (j + 1) := by rw [List.drop_eq_getElem_cons (by simpa using h2)]; rfl
        have HE : Hid (Z.cs s t = if s[j].toNat < t[j].toNat then -1 else if t[j].toNat < s[j].toNat then 1 else Lib.compareBytes (s.data.toList.drop (j + 1)) (t.data.toList.drop (j + 1))) := by
          show _ = _
          rw [← HI.out, e1, e2, Z.cb_step]
        clear e1 e2
        by_cases h3 : s[j].toNat < t[j].toNat
        · go_wp2_with fail
          go_quiet (fail)
          go_wp2
          go_ret
          exact ⟨by rw [HE.out, if_pos h3]; rfl, q + nq, by rw [World.drewN_drewN]⟩
        · have h3d : decide (s[j].toNat < t[j].toNat) = false := decide_eq_false h3
          by_cases h4 : t[j].toNat < s[j].toNat
          · go_wp2_with fail
            go_quiet (fail)
            obtain ⟨q1, hq1⟩ : ∃ q1, (w.drewN q).drewN nq = w.drewN q1 := ⟨q + nq, World.drewN_drewN _ _ _⟩
            rw [hq1]
            clear hq1 nq
            go_wp2_with fail
            go_quiet (fail)
            go_wp2
            go_ret
            exact ⟨by rw [HE.out, if_neg h3, if_pos h4]; rfl, q1 + nq, by rw [World.drewN_drewN]⟩
          · have h4d : decide (t[j].toNat < s[j].toNat) = false := decide_eq_false h4
            go_wp2_with fail
            go_quiet (fail)
            obtain ⟨q1, hq1⟩ : ∃ q1, (w.drewN q).drewN nq = w.drewN q1 := ⟨q + nq, World.drewN_drewN _ _ _⟩
            rw [hq1]
            clear hq1 nq
            go_wp2_with fail
            go_quiet (fail)
            obtain ⟨q2, hq2⟩ : ∃ q2, (w.drewN q1).drewN nq = w.drewN q2 := ⟨q1 + nq, World.drewN_drewN _ _ _⟩
            rw [hq2]
            clear hq2 nq
            have HJ : Hid (Lib.compareBytes (s.data.toList.drop (j + 1)) (t.data.toList.drop (j + 1)) = Z.cs s t) := by show _ = _; rw [HE.out, if_neg h3, if_neg h4]
            clear HE HI
            go_wp2
            go_round
            · exact ⟨j + 1, q2, by omega, by omega, by go_num, rfl, HJ⟩
            · simp [intOf]; omega
      · have HE : Hid ((if decide (s.size < t.size) = true then (-1 : Int) else if decide (t.size < s.size) = true then 1 else 0) = Z.cs s t) := by
          show _ = _
          rw [← HI.out, show t.data.toList.drop j = [] from List.drop_eq_nil_of_le (by simp only [Array.length_toList]; show t.size ≤ j; omega)]
          rw [List.drop_eq_getElem_cons (by simpa using h1), if_neg (by simp; omega), if_pos (by simp; omega)]
          simp [Lib.compareBytes]
        clear HI
        go_wp2_with fail
        refine (uorder_any _ _ _).mono ?_
        rintro e w1 ⟨rfl, rfl⟩
        rw [HE.out]
        go_wp2
        go_ret
        exact ⟨rfl, q, rfl⟩
    · have HE : Hid ((if decide (s.size < t.size) = true then (-1 : Int) else if decide (t.size < s.size) = true then 1 else 0) = Z.cs s t) := by
        show _ = _
        rw [← HI.out, show s.data.toList.drop j = [] from List.drop_eq_nil_of_le (by simp only [Array.length_toList]; show s.size ≤ j; omega)]
        by_cases h2 : j < t.size
        · rw [List.drop_eq_getElem_cons (by simpa using h2), if_pos (by simp; omega)]; simp [Lib.compareBytes]
        · rw [show t.data.toList.drop j = [] from List.drop_eq_nil_of_le (by simp only [Array.length_toList]; show t.size ≤ j; omega), if_neg (by simp; omega), if_neg (by simp; omega)]; simp [Lib.compareBytes]
      clear HI
      go_wp2_with fail
      refine (uorder_any _ _ _).mono ?_
      rintro e w1 ⟨rfl, rfl⟩
      rw [HE.out]
      go_wp2
      go_ret
      exact ⟨rfl, q, rfl⟩
theorem ci_order (a b : Int) : (if decide (a < b) = true then (-1 : Int) else if decide (b < a) = true then 1 else 0) = Z.ci a b := by
  unfold Z.ci; simp only [decide_eq_true_eq]
/-- Two blocks more, behind some draws. -/
theorem two_more (w : World) (a b : Obj) (q : Nat) : ((w.alloc a).alloc b).drewN q = grow (w.drewN q) #[a, b] := by
  rw [alloc_eq_grow, alloc_eq_grow, grow_grow]; rfl
theorem two_none (w : World) (a b : Obj) : (w.alloc a).alloc b = grow (w.drewN 0) #[a, b] := two_more w a b 0
/-- What a comparison answers. -/
def CmpAns (w : World) (c : Int) (e : Ending) (w' : World) : Prop := e = .returned (.int .i64 c) ∧ ∃ q os, w' = grow (w.drewN q) os
set_option maxHeartbeats 1000000 in
theorem ucompare_two (ak ai : Int) (az : ByteArray) (bk bi : Int) (bz : ByteArray) (w : World) (hs : az.size ≤ 9223372036854775807) (ht : bz.size ≤ 9223372036854775807) :
    Calls Try.prog 19 #[.agg #[.int .i64 ak, .int .i64 ai, .string az], .agg #[.int .i64 bk, .int .i64 bi, .string bz]] w (CmpAns w (Z.cv ⟨ak, ai, az⟩ ⟨bk, bi, bz⟩)) := by
  by_cases hk : ak = bk
  · subst hk
    by_cases k1 : ak = 1
    · subst k1
      rw [cv_int]
      have HO : Hid _ := ci_order ai bi
      go_enter Try.func19, Try.ntmps19
      go_wp2_with fail
      refine (uorder_any _ _ _).mono ?_
      rintro e w1 ⟨rfl, rfl⟩
      rw [HO.out]
      go_wp2
      go_ret
      exact ⟨rfl, 0, _, two_none _ _ _⟩
    · by_cases k2 : ak = 2
      · subst k2
        rw [cv_float]
        have HA : Hid (IntKind.u64.wrap ai = Z.u ai) := u64_wrap ai
        have HB : Hid (IntKind.u64.wrap bi = Z.u bi) := u64_wrap bi
        have HI := Z.u_in ai
        have HJ := Z.u_in bi
        go_enter Try.func19, Try.ntmps19
        go_wp2_with fail
        rw [HA.out, HB.out]
        refine (rcompare_any _ _ _ HI.1 HI.2 HJ.1 HJ.2).mono ?_
        rintro e w2 ⟨rfl, rfl⟩
        go_wp2
        go_ret
        exact ⟨rfl, 0, _, two_none _ _ _⟩
      · by_cases k3 : ak = 3
        · subst k3
          rw [cv_text]
          go_enter Try.func19, Try.ntmps19
          go_wp2_with fail
          refine (utexts_any _ _ _ hs ht).mono ?_
          rintro e w2 ⟨rfl, q, rfl⟩
          go_wp2
          go_ret
          exact ⟨rfl, q, _, two_more _ _ _ _⟩
        · rw [cv_else k1 k2 k3]
          go_enter Try.func19, Try.ntmps19
          go_wp2
          go_ret
          exact ⟨rfl, 0, _, two_none _ _ _⟩
  · rw [cv_kind hk]
    have HO : Hid _ := ci_order ak bk
    go_enter Try.func19, Try.ntmps19
    go_wp2_with fail
    refine (uorder_any _ _ _).mono ?_
    rintro e w1 ⟨rfl, rfl⟩
    rw [HO.out]
    go_wp2
    go_ret
    exact ⟨rfl, 0, _, two_none _ _ _⟩
end Go.Proofs.Ytmhfpipeoojacaa

/- slices.stableCmpFunc and slices.SortStableFunc at rows of values: sorted by value and then by place. Conditions: labels are places; fewer than 2^60. -/
import Derived.Test.YtmhfpipeoojacaaBdH
import Derived.Test.YtmhfpipeoojacaaBdJ
import Derived.Test.YtmhfpipeoojacaaBdF
import Derived.Deep.RegionWith
import Derived.Test.YtmhfpipeoojacaaBdD
namespace Go.Proofs.Ytmhfpipeoojacaa
open Go.Shelf Go.RowKit Go.Lib Go.Sort
set_option maxRecDepth 1000000
set_option linter.unusedVariables false
variable {P : Program} {α : Type} [Inhabited α]
set_option maxHeartbeats 16000000 in
theorem stableV (LY : LayV P) (Fsw : P.funcs[103]? = some Try.f103) (Fro : P.funcs[95]? = some Try.f95) (Fin : P.funcs[81]? = some Try.f81) (Fsm : P.funcs[82]? = some Try.f82) (Fst : P.funcs[60]? = some Try.f60) (k : Nat) (aE : ∀ w, (isAgg 24).run P w = .ok true w) (zE : ∀ w, (Go.sizeOf 24).run P w = .ok k w) (enc : α → List Value) (cf : α → α → Int) (lab : α → Nat) (hL : SWO (Y.lx (ltOf cf) lab)) (g : Nat) (cb : Array Value) (blk off cap : Nat) (d : Array α) (w : World)
    (R : RowK enc k w blk off d) (eg : ∀ args w, (callFunc g args).run P w = .ok (.enter g args) w) (hcmp : CmpLays P g cb enc k cf blk off d.size w) (n : Nat) (hn : n = d.size) (hsz : n < 1152921504606846976) (hlab : ∀ i, i < n → lab d[i]! = i) :
    Calls P 60 #[.slice (some ⟨blk, off, none⟩) n cap, .int .i64 n, .func (.func g) #[] cb] w fun e w' => e = .returned (.tuple #[]) ∧ ∃ d', SWK enc k w blk off d' w' ∧ PermIn 0 n d d' ∧ SortedIn (Y.lx (ltOf cf) lab) 0 n d' := by
  have mixed := LY.mixed; have tUnit := LY.tUnit; have aUnit := LY.aUnit; have zUnit := LY.zUnit; have vUnit := LY.vUnit; have tInt := LY.tInt; have aInt := LY.aInt; have zInt := LY.zInt; have vInt := LY.vInt; have tBool := LY.tBool; have aBool := LY.aBool; have zBool := LY.zBool; have vBool := LY.vBool; have tUint := LY.tUint; have aUint := LY.aUint; have zUint := LY.zUint; have vUint := LY.vUint; have tSl := LY.tSl; have aSl := LY.aSl; have zSl := LY.zSl; have vSl := LY.vSl; have tFn := LY.tFn; have aFn := LY.aFn; have zFn := LY.zFn; have vFn := LY.vFn
  have uSl := run_underlying LY.tSl
  have HN : Hid (n = d.size) := hn
  have HB : Aside (∀ i, i < n → lab d[i]! = i) := hlab
  have HC : Aside _ := hcmp
  have HR : Aside _ := R
  have ein : ∀ args w, (callFunc 81 args).run P w = .ok (.enter 81 args) w := enters_of Fin (by kernel_rfl) rfl
  have esm : ∀ args w, (callFunc 82 args).run P w = .ok (.enter 82 args) w := enters_of Fsm (by kernel_rfl) rfl
  have S0 : Aside (SWK enc k w blk off d w) := SWK.start R.hH
  have P0 : Aside (PermIn 0 n d d) := permIn_refl d 0 n
  have B0 : Aside (Y.Bl (ltOf cf) lab 20 0 0 d) := Y.Bl.none 20 0 d
  have INS : Aside (∀ (a b : Nat) (dk : Array α) (wk : World), dk.size = n → SWK enc k w blk off dk wk → a ≤ b → b ≤ n → (∀ i, a ≤ i → i < n → dk[i]! = d[i]!) → Calls P 81 #[.slice (some ⟨blk, off, none⟩) n cap, .int .i64 a, .int .i64 b, .func (.func g) #[] cb] wk fun e w' => e = .returned (.tuple #[]) ∧ ∃ d', SWK enc k w blk off d' w' ∧ PermIn a b dk d' ∧ SortedIn (Y.lx (ltOf cf) lab) a b d') := fun a b dk wk h1 h2 h3 h4 h5 => by
    have := insV LY Fin k aE zE enc cf lab hL g cb blk off cap d w R eg hcmp a b dk wk (by omega) h2 h3 (by omega) (by omega) (fun x y k1 k2 k3 => by rw [h5 x k1 (by omega), h5 y (by omega) (by omega), hlab x (by omega), hlab y (by omega)]; exact k2)
    rw [h1] at this
    exact this
  have SYM : Aside (∀ (a m b : Nat) (dk : Array α) (wk : World), dk.size = n → SWK enc k w blk off dk wk → a < m → m < b → b ≤ n → SortedIn (Y.lx (ltOf cf) lab) a m dk → SortedIn (Y.lx (ltOf cf) lab) m b dk → Y.Cross (ltOf cf) lab a m b dk → Calls P 82 #[.slice (some ⟨blk, off, none⟩) n cap, .int .i64 a, .int .i64 m, .int .i64 b, .func (.func g) #[] cb] wk fun e w' => e = .returned (.tuple #[]) ∧ ∃ d', SWK enc k w blk off d' w' ∧ PermIn a b dk d' ∧ SortedIn (Y.lx (ltOf cf) lab) a b d') := fun a m b dk wk h1 h2 h3 h4 h5 h6 h7 h8 => by
    have := symV LY Fsw Fro Fsm k aE zE enc cf lab hL g cb blk off cap d w R eg hcmp (b - a) a m b dk wk (Nat.le_refl _) (by omega) h2 h3 h4 (by omega) (by omega) h6 h7 h8
    rw [h1] at this
    exact this
  clear hcmp hL hlab hn R
  go_enter Fst, Try.ntmps60
  go_wp2
  go_loopg [7, 8] (n + 20) (fun kx s7 s8 wr => ∃ (q A B : Nat) (dk : Array α), s7 = .int .i64 A ∧ s8 = .int .i64 B ∧ Hid (A = q * 20) ∧ A + 20 ≤ B ∧ B ≤ A + 20 ∧ A ≤ n ∧ n + 20 - A ≤ kx ∧ dk.size = n ∧ Aside (SWK enc k w blk off dk wr) ∧ Aside (PermIn 0 n d dk) ∧ Aside (Y.Bl (ltOf cf) lab 20 0 A dk) ∧ Aside (∀ i, A ≤ i → i < n → dk[i]! = d[i]!))
  case atStart => exact ⟨0, 0, 20, d, rfl, rfl, rfl, by omega, by omega, by omega, by omega, HN.out.symm, S0, P0, B0, fun _ _ _ => rfl⟩
  case round =>
    clear S0 P0 B0
    obtain ⟨q, A, B, dk, rfl, rfl, hA, hB1, hB2, hAn, hkx, hds, S1, P1, B1, E1⟩ := hrel
    by_cases hle : (B : Int) ≤ (n : Int)
    · obtain ⟨B2, hC1, hC2⟩ : ∃ B2, B + 20 ≤ B2 ∧ B2 ≤ B + 20 := ⟨B + 20, by omega, by omega⟩
      have zB : (B : Int) + 20 = (B2 : Int) := by omega
      have rB : IntKind.i64.wrap (B2 : Int) = (B2 : Int) := by rw [IntKind.wrap_i64]; omega
      go_wp2_with fail
      refine (INS.out A B dk _ hds S1.out (by omega) (by omega) E1.out).mono ?_
      rintro _ w2 ⟨rfl, d2, s2, p2, r2⟩
      have S2 : Aside _ := s2
      have hd2 : d2.size = n := p2.1.trans hds
      have P2 : Aside (PermIn 0 n d d2) := permIn_trans d dk d2 0 n P1.out (permIn_mono dk d2 A B 0 n (by omega) (by omega) (by omega) p2)
      have B2' : Aside (Y.Bl (ltOf cf) lab 20 0 B d2) := (by
          have h0 := B1.out
          have h1 := h0.keep p2 (Or.inl (Nat.le_refl _))
          have e1 := hA.out
          subst e1
          have h2 := Y.bl_block (lt := ltOf cf) (lab := lab) (s := 20) (q := q) (b := B) (by omega) (by omega) p2 r2 fun i k1 k2 => by rw [E1.out i k1 (by omega), HB.out i (by omega)]; exact Y.div_in k1 (by omega)
          exact h1.join h2 (by omega))
      have E2 : Aside (∀ i, B ≤ i → i < n → d2[i]! = d[i]!) := fun i k1 k2 => by rw [p2.2.1 i (Or.inr k1)]; exact E1.out i (by omega) k2
      clear s2 p2 r2 S1 P1 B1 E1
      go_wp2
      go_roundg (n + 20 - B)
      case measure => omega
      case rel => exact ⟨q + 1, B, B2, d2, rfl, rfl, (by have := hA.out; show B = (q + 1) * 20; omega), by omega, by omega, by omega, Nat.le_refl _, hd2, S2, P2, B2', E2⟩
    · go_wp2_with fail
      refine (INS.out A n dk _ hds S1.out hAn (Nat.le_refl _) E1.out).mono ?_
      rintro _ w2 ⟨rfl, d2, s2, p2, r2⟩
      have S2 : Aside _ := s2
      have hd2 : d2.size = n := p2.1.trans hds
      have P2 : Aside (PermIn 0 n d d2) := permIn_trans d dk d2 0 n P1.out (permIn_mono dk d2 A n 0 n (by omega) (by omega) (by omega) p2)
      have B2 : Aside (Y.Bl (ltOf cf) lab 20 0 n d2) := (by
          have h1 := B1.out.keep p2 (Or.inl (Nat.le_refl _))
          have e1 := hA.out
          subst e1
          have h2 := Y.bl_block (lt := ltOf cf) (lab := lab) (s := 20) (q := q) (b := n) (by omega) (by omega) p2 r2 fun i k1 k2 => by rw [E1.out i k1 k2, HB.out i k2]; exact Y.div_in k1 (by omega)
          exact h1.join h2 (by omega))
      clear s2 p2 r2 S1 P1 B1 E1 hA
      go_wp2
      go_loopg [6] (n + 20) (fun kx s6 wr => ∃ (s : Nat) (dk : Array α), s6 = .int .i64 s ∧ 20 ≤ s ∧ s ≤ 2 * n + 20 ∧ n + 20 - s ≤ kx ∧ dk.size = n ∧ Aside (SWK enc k w blk off dk wr) ∧ Aside (PermIn 0 n d dk) ∧ Aside (Y.Bl (ltOf cf) lab s 0 n dk))
      case atStart => exact ⟨20, d2, rfl, by omega, by omega, by omega, hd2, S2, P2, B2⟩
      case round =>
        clear S2 P2 B2 hd2
        obtain ⟨s, dk, rfl, hs1, hs2, hkx, hds, S1, P1, B1⟩ := hrel
        by_cases hlt : (s : Int) < (n : Int)
        · obtain ⟨t, ht1, ht2⟩ : ∃ t, t ≤ 2 * s ∧ 2 * s ≤ t := ⟨2 * s, by omega, by omega⟩
          have zt : (2 : Int) * (s : Int) = (t : Int) := by omega
          have zt2 : (s : Int) * 2 = (t : Int) := by omega
          have rt : IntKind.i64.wrap (t : Int) = (t : Int) := by rw [IntKind.wrap_i64]; omega
          have B0 : Aside (Y.Bl (ltOf cf) lab (2 * s) 0 0 dk) := Y.Bl.none (2 * s) 0 dk
          go_wp2
          go_loopg [7, 8] (n + s) (fun kx s7 s8 wr => ∃ (q A B : Nat) (dj : Array α), s7 = .int .i64 A ∧ s8 = .int .i64 B ∧ Hid (A = q * (2 * s)) ∧ A + t ≤ B ∧ B ≤ A + t ∧ A ≤ n ∧ n + s - A ≤ kx ∧ dj.size = n ∧ Aside (SWK enc k w blk off dj wr) ∧ Aside (PermIn 0 n d dj) ∧ Aside (Y.Bl (ltOf cf) lab (2 * s) 0 A dj) ∧ Aside (Y.Bl (ltOf cf) lab s A n dj))
          case atStart => exact ⟨0, 0, t, dk, rfl, rfl, (show (0 : Nat) = 0 * (2 * s) by omega), by omega, by omega, by omega, by omega, hds, S1, P1, B0, B1⟩
          case round =>
            clear S1 P1 B0 B1
            obtain ⟨q, A, B, dj, rfl, rfl, hA, hB1, hB2, hAn, hkx, hdj, S2, P2, L2, U2⟩ := hrel
            obtain ⟨M, hM1, hM2⟩ : ∃ M, M ≤ A + s ∧ A + s ≤ M := ⟨A + s, by omega, by omega⟩
            have zM : (A : Int) + (s : Int) = (M : Int) := by omega
            have rM : IntKind.i64.wrap (M : Int) = (M : Int) := by rw [IntKind.wrap_i64]; omega
            have MG : Aside (∀ b, M < b → b ≤ n → b ≤ B → ∀ wk, SWK enc k w blk off dj wk → Calls P 82 #[.slice (some ⟨blk, off, none⟩) n cap, .int .i64 A, .int .i64 M, .int .i64 b, .func (.func g) #[] cb] wk fun e w' => e = .returned (.tuple #[]) ∧ ∃ d', d'.size = n ∧ SWK enc k w blk off d' w' ∧ PermIn 0 n d d' ∧ Y.Bl (ltOf cf) lab (2 * s) 0 b d' ∧ Y.Bl (ltOf cf) lab s b n d') := fun b k1 k2 k3 wk sk => by
              obtain rfl : M = A + s := by omega
              have e1 := hA.out
              subst e1
              refine (SYM.out _ _ b dj wk hdj sk (by omega) k1 k2 (Y.bl_left U2.out (by omega)) (Y.bl_right U2.out (by omega) k2) (Y.bl_cross U2.out (by omega) (by omega) k2)).mono ?_
              rintro _ w' ⟨rfl, d3, s3, p3, r3⟩
              exact ⟨rfl, d3, p3.1.trans hdj, s3, permIn_trans d dj d3 0 n P2.out (permIn_mono dj d3 _ b 0 n (by omega) k2 (by omega) p3), (L2.out.keep p3 (Or.inl (Nat.le_refl _))).join (Y.bl_merged U2.out (by omega) (by omega) k2 (by omega) p3 r3) (by omega), (U2.out.cut (by omega) (Nat.le_refl _)).keep p3 (Or.inr (Nat.le_refl _))⟩
            by_cases hle : (B : Int) ≤ (n : Int)
            · obtain ⟨B2, hC1, hC2⟩ : ∃ B2, B + t ≤ B2 ∧ B2 ≤ B + t := ⟨B + t, by omega, by omega⟩
              have zB : (B : Int) + (t : Int) = (B2 : Int) := by omega
              have rB : IntKind.i64.wrap (B2 : Int) = (B2 : Int) := by rw [IntKind.wrap_i64]; omega
              go_wp2_with fail
              refine (MG.out B (by omega) (by omega) (Nat.le_refl _) _ S2.out).mono ?_
              rintro _ w3 ⟨rfl, d3, hd3, s3, p3, l3, u3⟩
              have S3 : Aside _ := s3
              have P3 : Aside _ := p3
              have L3 : Aside _ := l3
              have U3 : Aside _ := u3
              clear s3 p3 l3 u3 S2 P2 L2 U2 MG
              go_wp2
              go_roundg (n + s - B)
              case measure => omega
              case rel => exact ⟨q + 1, B, B2, d3, rfl, rfl, (by have e1 := hA.out; show B = (q + 1) * (2 * s); rw [Nat.add_mul, Nat.one_mul, ← e1]; omega), by omega, by omega, by omega, Nat.le_refl _, hd3, S3, P3, L3, U3⟩
            · by_cases hMn : (M : Int) < (n : Int)
              · go_wp2_with fail
                refine (MG.out n (by omega) (Nat.le_refl _) (by omega) _ S2.out).mono ?_
                rintro _ w3 ⟨rfl, d3, hd3, s3, p3, l3, u3⟩
                have S3 : Aside _ := s3
                have P3 : Aside _ := p3
                have L3 : Aside (Y.Bl (ltOf cf) lab t 0 n d3) := (by rw [show t = 2 * s by omega]; exact l3)
                clear s3 p3 l3 u3 S2 P2 L2 U2 MG
                go_wp2
                go_roundg (n + 20 - t)
                case measure => omega
                case rel => exact ⟨t, d3, rfl, by omega, by omega, Nat.le_refl _, hd3, S3, P3, L3⟩
              · have L3 : Aside (Y.Bl (ltOf cf) lab t 0 n dj) := (by
                  have e1 := hA.out
                  rw [show t = 2 * s by omega]
                  have h1 := L2.out
                  have h2 := U2.out
                  rw [e1] at h1 h2
                  exact h1.join (Y.bl_lone h2 (by omega)) (by omega))
                go_wp2
                go_roundg (n + 20 - t)
                case measure => omega
                case rel => exact ⟨t, dj, rfl, by omega, by omega, Nat.le_refl _, hdj, S2, P2, L3⟩
        · go_wp2
          go_end0
          exact ⟨rfl, dk, S1.out, P1.out, Y.bl_all B1.out (by omega)⟩
set_option maxHeartbeats 4000000 in
theorem sortStableV (LY : LayV P) (Fsw : P.funcs[103]? = some Try.f103) (Fro : P.funcs[95]? = some Try.f95) (Fin : P.funcs[81]? = some Try.f81) (Fsm : P.funcs[82]? = some Try.f82) (Fst : P.funcs[60]? = some Try.f60) (Fss : P.funcs[33]? = some Try.f33) (k : Nat) (aE : ∀ w, (isAgg 24).run P w = .ok true w) (zE : ∀ w, (Go.sizeOf 24).run P w = .ok k w) (enc : α → List Value) (cf : α → α → Int) (lab : α → Nat) (hL : SWO (Y.lx (ltOf cf) lab)) (g : Nat) (cb : Array Value) (blk off cap : Nat) (d : Array α) (w : World)
    (R : RowK enc k w blk off d) (eg : ∀ args w, (callFunc g args).run P w = .ok (.enter g args) w) (hcmp : CmpLays P g cb enc k cf blk off d.size w) (n : Nat) (hn : n = d.size) (hsz : n < 1152921504606846976) (hlab : ∀ i, i < n → lab d[i]! = i) :
    Calls P 33 #[.slice (some ⟨blk, off, none⟩) n cap, .func (.func g) #[] cb] w fun e w' => e = .returned (.tuple #[]) ∧ ∃ d', SWK enc k w blk off d' w' ∧ PermIn 0 n d d' ∧ SortedIn (Y.lx (ltOf cf) lab) 0 n d' := by
  have mixed := LY.mixed; have tUnit := LY.tUnit; have aUnit := LY.aUnit; have zUnit := LY.zUnit; have vUnit := LY.vUnit; have tInt := LY.tInt; have aInt := LY.aInt; have zInt := LY.zInt; have vInt := LY.vInt; have tBool := LY.tBool; have aBool := LY.aBool; have zBool := LY.zBool; have vBool := LY.vBool; have tUint := LY.tUint; have aUint := LY.aUint; have zUint := LY.zUint; have vUint := LY.vUint; have tSl := LY.tSl; have aSl := LY.aSl; have zSl := LY.zSl; have vSl := LY.vSl; have tFn := LY.tFn; have aFn := LY.aFn; have zFn := LY.zFn; have vFn := LY.vFn
  have uSl := run_underlying LY.tSl
  have est : ∀ args w, (callFunc 60 args).run P w = .ok (.enter 60 args) w := enters_of Fst (by kernel_rfl) rfl
  have HS : Aside _ := stableV LY Fsw Fro Fin Fsm Fst k aE zE enc cf lab hL g cb blk off cap d w R eg hcmp n hn hsz hlab
  clear hcmp hL hlab hn R
  go_enter Fss, Try.ntmps33
  go_wp2_with fail
  refine Calls.mono HS.out ?_
  rintro _ w2 ⟨rfl, d2, s2, p2, r2⟩
  have X : Aside _ := s2
  have Z1 : Aside _ := p2
  have Z2 : Aside _ := r2
  clear s2 p2 r2 HS
  go_wp2
  go_end0
  exact ⟨rfl, d2, X.out, Z1.out, Z2.out⟩
end Go.Proofs.Ytmhfpipeoojacaa
/- Two values held against each other; the contracts of val's May, Add. -/
namespace Go.Proofs.Ytmhfpipeoojacaa
set_option linter.unusedVariables false
open Go.RowKit

end Go.Proofs.Ytmhfpipeoojacaa
/- The contract of val's May; the statements' own head: 'shown'. -/
namespace Go.Proofs.Ytmhfpipeoojacaa
set_option linter.unusedVariables false
open Go.RowKit

theorem empty_of (s : ByteArray) : s.toList.isEmpty = decide (s = ⟨#[]⟩) := by
  rw [ByteArray.toList_eq]
  obtain ⟨⟨x⟩⟩ := s
  cases x <;> simp
theorem may_float {i : Int} {s : ByteArray} : Z.may ⟨2, i, s⟩ = (Z.same (Z.cl ⟨2, i, s⟩) ⟨2, i, s⟩ && s.toList.isEmpty) := by
  rw [empty_of]; unfold Z.may Z.cl Z.same; simp; rfl
theorem may_int {i : Int} {s : ByteArray} : Z.may ⟨1, i, s⟩ = s.toList.isEmpty := by
  rw [empty_of]; unfold Z.may; simp
theorem may_text {i : Int} {s : ByteArray} : Z.may ⟨3, i, s⟩ = ((i == 0) && decide ((s.size : Int) ≤ 1024)) := by
  unfold Z.may; simp; cases h : decide (i = 0) <;> simp_all; omega
theorem may_null {i : Int} {s : ByteArray} : Z.may ⟨0, i, s⟩ = Z.same ⟨0, i, s⟩ ⟨0, 0, ⟨#[]⟩⟩ := by
  unfold Z.may Z.same
  rw [← empty_of, ByteArray.toList_eq]
  obtain ⟨⟨x⟩⟩ := s
  cases x <;> simp [ByteArray.toList_eq] <;> rfl
theorem may_else {k i : Int} {s : ByteArray} (h0 : k ≠ 0) (h1 : k ≠ 1) (h2 : k ≠ 2) (h3 : k ≠ 3) : Z.may ⟨k, i, s⟩ = false := by
  unfold Z.may; rw [if_neg h2, if_neg h1, if_neg h3, if_neg h0]
set_option maxHeartbeats 800000 in
theorem may_f (i : Int) (s : ByteArray) (w : World) (hi : Z.I64 i) : Calls Try.prog 47 #[.agg #[.int .i64 2, .int .i64 i, .string s]] w fun e w' => e = .returned (.bool (Z.may ⟨2, i, s⟩)) ∧ Below w.heap.size w w' := by
  have HM : Hid (Z.may ⟨2, i, s⟩ = (Z.same (Z.cl ⟨2, i, s⟩) ⟨2, i, s⟩ && s.toList.isEmpty)) := may_float
  have HC : Hid (∀ w, Calls Try.prog 67 #[.agg #[.int .i64 2, .int .i64 i, .string s]] w fun e w' => e = .returned (Z.cl ⟨2, i, s⟩).v ∧ Below w.heap.size w w') := fun w => vclean_any 2 i s w hi
  obtain ⟨c, hc⟩ : ∃ c, Z.cl ⟨2, i, s⟩ = ⟨2, c, s⟩ := ⟨_, rfl⟩
  rw [hc] at HM HC
  clear hc
  have hq := vne_run 2 c s 2 i s
  obtain ⟨b, hb⟩ : ∃ b, Z.same ⟨2, c, s⟩ ⟨2, i, s⟩ = b := ⟨_, rfl⟩
  rw [hb] at HM
  simp only [hb] at hq
  clear hb
  have hal := heap_alloc_new w (.cells #[.int .i64 2, .int .i64 i, .string s] 24)
  go_enter Try.func47, Try.ntmps47
  go_wp2_with fail
  cases b with
  | true =>
    simp only [Bool.not_true] at hq
    go_region_with (go_at_call 67; refine (HC.out _).mono ?_; rintro e w1 ⟨rfl, hb1⟩; obtain ⟨c0, c1, c2⟩ := val_kept (by exact hal) hb1; replace hb1 := hide hb1; simp only [Z.V.v])
    all_goals go_wp2
    all_goals go_ret
    all_goals exact ⟨by rw [HM.out]; rfl, bthen (below_one w _).drew hb1.out⟩
  | false =>
    simp only [Bool.not_false] at hq
    go_region_with (go_at_call 67; refine (HC.out _).mono ?_; rintro e w1 ⟨rfl, hb1⟩; obtain ⟨c0, c1, c2⟩ := val_kept (by exact hal) hb1; replace hb1 := hide hb1; simp only [Z.V.v])
    all_goals go_wp2
    all_goals go_ret
    all_goals exact ⟨by rw [HM.out]; rfl, bthen (below_one w _).drew hb1.out⟩
theorem may_any (k i : Int) (s : ByteArray) (w : World) (hi : Z.I64 i) : Calls Try.prog 47 #[.agg #[.int .i64 k, .int .i64 i, .string s]] w fun e w' => e = .returned (.bool (Z.may ⟨k, i, s⟩)) ∧ Below w.heap.size w w' := by
  by_cases k2 : k = 2
  · subst k2
    exact may_f i s w hi
  · by_cases k1 : k = 1
    · subst k1
      have HM : Hid (Z.may ⟨1, i, s⟩ = s.toList.isEmpty) := may_int
      go_enter Try.func47, Try.ntmps47
      go_wp2
      go_ret
      exact ⟨by rw [HM.out]; rfl, below_one _ _⟩
    · by_cases k3 : k = 3
      · subst k3
        have HM : Hid (Z.may ⟨3, i, s⟩ = ((i == 0) && decide ((s.size : Int) ≤ 1024))) := may_text
        cases hi0 : (i == 0) with
        | true =>
          rw [hi0] at HM
          go_enter Try.func47, Try.ntmps47
          go_wp2
          go_ret
          exact ⟨by rw [HM.out]; rfl, below_one _ _⟩
        | false =>
          rw [hi0] at HM
          go_enter Try.func47, Try.ntmps47
          go_wp2
          go_ret
          exact ⟨by rw [HM.out]; rfl, below_one _ _⟩
      · by_cases k0 : k = 0
        · subst k0
          have HM : Hid (Z.may ⟨0, i, s⟩ = Z.same ⟨0, i, s⟩ ⟨0, 0, ⟨#[]⟩⟩) := may_null
          have hq := veq_run 0 i s 0 0 ⟨#[]⟩
          obtain ⟨b, hb⟩ : ∃ b, Z.same ⟨0, i, s⟩ ⟨0, 0, ⟨#[]⟩⟩ = b := ⟨_, rfl⟩
          rw [hb] at HM
          simp only [hb] at hq
          clear hb
          go_enter Try.func47, Try.ntmps47
          go_wp2
          go_ret
          exact ⟨by rw [HM.out]; rfl, below_one _ _⟩
        · have HM : Hid (Z.may ⟨k, i, s⟩ = false) := may_else k0 k1 k2 k3
          go_enter Try.func47, Try.ntmps47
          go_wp2
          go_ret
          exact ⟨by rw [HM.out]; rfl, below_one _ _⟩
end Go.Proofs.Ytmhfpipeoojacaa
/- The contract of leb's get. -/
namespace Go.Proofs.Ytmhfpipeoojacaa
set_option linter.unusedVariables false
open Go.RowKit

theorem or_at (a b J : Nat) (ha : a < 2 ^ J) (hb : b * 2 ^ J < 18446744073709551616) (hJ : J < 64) :
    bits .or .u64 (a : Int) (IntKind.u64.wrap ((b : Int) * 2 ^ J)) = ((a + 2 ^ J * b : Nat) : Int) := by
  rw [u64_wrap, ← pow_int, ← Int.natCast_mul]
  have hp : 2 ^ J ≤ 2 ^ 63 := Nat.pow_le_pow_right (by omega) (by omega)
  rw [show ((b * 2 ^ J : Nat) : Int) % 18446744073709551616 = ((b * 2 ^ J : Nat) : Int) by omega]
  rw [u64_or_nat a (b * 2 ^ J) (by omega) (by omega), Nat.or_comm, nat_join J (b * 2 ^ J) a (by simp) ha, Nat.mul_comm b, Nat.add_comm]

theorem take_snocN (l : List Nat) (k : Nat) (h : k < l.length) : l.take (k + 1) = l.take k ++ [l.getD k 0] := by
  rw [List.take_succ_eq_append_getElem h]; simp [List.getD, h]

/-- A byte more of a number. -/
theorem get_step (l : List Nat) (j : Nat) (N c : Int) (hj : j < l.length) (hj9 : j ≤ 9) (hN : ((E.val (l.take j) : Nat) : Int) = N) (hc : ((l.getD j 0 : Nat) : Int) = c) (h9 : j = 9 → c ≤ 1) :
    bits .or .u64 N (IntKind.u64.wrap (c % 128 * 2 ^ (j * 7))) = ((E.val (l.take (j + 1)) : Nat) : Int) := by
  have hl : (l.take j).length = j := by simp; omega
  have hv := E.val_lt (l.take j)
  rw [take_snocN l j hj, E.val_append, hl, ← hN, ← hc]
  rw [hl] at hv
  generalize l.getD j 0 = x at *
  generalize E.val (l.take j) = a at *
  have hp : 128 ^ j = 2 ^ (j * 7) := by rw [Nat.mul_comm, Nat.pow_mul]
  have hb : x % 128 * 2 ^ (j * 7) < 18446744073709551616 := by
    rcases Nat.lt_or_ge j 9 with h | h
    · have h1 : 2 ^ (j * 7) ≤ 2 ^ 56 := Nat.pow_le_pow_right (by omega) (by omega)
      have h2 : x % 128 * 2 ^ (j * 7) ≤ 127 * 2 ^ 56 := Nat.mul_le_mul (by omega) h1
      omega
    · obtain rfl : j = 9 := by omega
      have h1 := h9 rfl
      have h2 : x % 128 * 2 ^ (9 * 7) ≤ 1 * 2 ^ (9 * 7) := Nat.mul_le_mul_right _ (by omega)
      omega
  have h := or_at a (x % 128) (j * 7) (by rw [← hp]; exact hv) hb (by omega)
  rw [show (x : Int) % 128 = ((x % 128 : Nat) : Int) by omega, h, hp]
  simp only [E.val, Nat.mul_zero, Nat.add_zero]

/-- A panic with an error's number. -/
def pan (k : Int) : Ending := .panicked [{ v := .iface 28 (.int .i64 k), recovered := false }]

set_option maxHeartbeats 400000 in
theorem get_zero (ao : Option Addr) (cap : Nat) (w : World) :
    Calls Try.prog 91 #[.slice ao 0 cap] w fun e w' => e = pan 3 ∧ w' = w := by
  go_enter Try.func91, Try.ntmps91
  go_wp2_with fail
  go_loop [4, 9] (fun n i => n = .int .u64 0 ∧ i = .int .i64 0) (fun _ _ => 0)
  case atStart => exact ⟨rfl, rfl⟩
  case round =>
    obtain ⟨rfl, rfl⟩ := hrel
    go_wp2
    exact ⟨rfl, rfl, rfl⟩

set_option maxHeartbeats 1000000 in
theorem get_some (b off len cap : Nat) (l : List Nat) (w : World) (hl : l.length = len) (hm : len ≤ 140737488355328) (hc : ∀ i, i < len → w.cell? ⟨b, off + i, none⟩ = some (.int .u8 ((l.getD i 0 : Nat) : Int))) (h256 : ∀ x ∈ l, x < 256) :
    Calls Try.prog 91 #[.slice (some ⟨b, off, none⟩) len cap] w fun e w' => ((E.gE l = 0 ∧ e = .returned (.tuple #[.int .u64 ((E.gN l : Nat) : Int), .int .i64 ((E.gK l : Nat) : Int)])) ∨ (E.gE l ≠ 0 ∧ e = pan ((E.gE l : Nat) : Int))) ∧ w' = w := by
  have H2 := hide h256
  have HL := hide hl
  clear h256 hl
  go_enter Try.func91, Try.ntmps91
  go_wp2_with fail
  go_loop [4, 9] (fun n i => ∃ j : Nat, j ≤ 9 ∧ j ≤ len ∧ i = .int .i64 j ∧ (∀ t, t < j → 128 ≤ l.getD t 0) ∧ n = .int .u64 ((E.val (l.take j) : Nat) : Int)) (fun _ i => len - (intOf i).toNat)
  case atStart => exact ⟨0, by omega, Nat.zero_le _, rfl, fun t ht => by omega, rfl⟩
  case round =>
    obtain ⟨j, hj9, hjl, rfl, hlead, rfl⟩ := hrel
    have HLe := hide hlead
    clear hlead
    by_cases hlt : j < len
    · have hck := hc j hlt
      have hcl := E.getD_lt H2.out j
      obtain ⟨c, hce⟩ : ∃ c : Int, ((l.getD j 0 : Nat) : Int) = c := ⟨_, rfl⟩
      have hc0 : 0 ≤ c := by omega
      have hc1 : c < 256 := by omega
      rw [hce] at hck
      have HC := hide hce
      obtain ⟨N, hN⟩ : ∃ N : Int, ((E.val (l.take j) : Nat) : Int) = N := ⟨_, rfl⟩
      have hN0 : 0 ≤ N := by omega
      rw [hN]
      have HN := hide hN
      have HJL : Hid (j < l.length) := by have := HL.out; show _ < _; omega
      have HI : Hid (c < 128 ∨ j = 9 → E.IsLead 9 l j) := fun h => ⟨hj9, Nat.le_of_lt HJL.out, HLe.out, h.elim (fun h => .inr (.inr (by omega))) .inl⟩
      clear hc hce hcl hN
      by_cases h9 : j = 9
      · have b9 : ((j : Int) == 9) = true := by simp; omega
        have HJ := hide h9
        clear h9
        by_cases h1 : 1 < c
        · go_wp2
          have hg := E.gE_form (HI.out (.inr HJ.out)) HJL.out (.inl ⟨HJ.out, by have := HC.out; omega⟩)
          exact ⟨rfl, .inr ⟨by rw [hg]; decide, by rw [hg]; rfl⟩, rfl⟩
        · have hlt128 : c < 128 := by omega
          have hj0 : 0 < j := by have := HJ.out; omega
          by_cases hz : c = 0
          · have bz : (c == 0) = true := by simpa using hz
            have HZ := hide hz
            clear hz
            go_wp2
            have hg := E.gE_form (HI.out (.inr HJ.out)) HJL.out (.inr ⟨by omega, by have := HC.out; have := HZ.out; omega⟩)
            exact ⟨rfl, .inr ⟨by rw [hg]; decide, by rw [hg]; rfl⟩, rfl⟩
          · have bz : (c == 0) = false := by simpa using hz
            have HZ := hide hz
            clear hz
            have HS := hide (get_step l j N c HJL.out hj9 HN.out HC.out (fun _ => by omega))
            go_wp2
            go_ret2
            obtain ⟨e1, e2, e3⟩ := E.gE_ok (HI.out (.inr HJ.out)) HJL.out (fun _ => by have := HC.out; omega) (fun _ => by have := HC.out; have := HZ.out; omega)
            exact ⟨.inl ⟨e1, by rw [e2, e3, ← HS.out]; rfl⟩, rfl⟩
      · have b9 : ((j : Int) == 9) = false := by simp; omega
        have HS := hide (get_step l j N c HJL.out hj9 HN.out HC.out (fun h => absurd h h9))
        by_cases h128 : 128 ≤ c
        · go_wp2
          go_round
          case rel =>
            refine ⟨j + 1, by omega, by omega, by go_num, fun t ht => ?_, by rw [HS.out]⟩
            rcases Nat.lt_or_ge t j with h | h
            · exact HLe.out t h
            · obtain rfl : t = j := by omega
              have := HC.out; omega
          case measure => simp [intOf]; omega
        · have hlt128 : c < 128 := by omega
          by_cases hz : 0 < j ∧ c = 0
          · obtain ⟨hz0, hz1⟩ := hz
            have bz : (c == 0) = true := by simp; omega
            have HZ := hide hz1
            clear hz1
            go_wp2
            have hg := E.gE_form (HI.out (.inl hlt128)) HJL.out (.inr ⟨hz0, by have := HC.out; have := HZ.out; omega⟩)
            exact ⟨rfl, .inr ⟨by rw [hg]; decide, by rw [hg]; rfl⟩, rfl⟩
          · have bz : 0 < j → (c == 0) = false := fun h => by simp; omega
            have HZ : Hid (0 < j → c ≠ 0) := fun h e => hz ⟨h, e⟩
            clear hz
            by_cases hj0 : 0 < j
            all_goals
              first | (replace bz := bz hj0) | clear bz
              go_wp2
              go_ret2
              obtain ⟨e1, e2, e3⟩ := E.gE_ok (HI.out (.inl hlt128)) HJL.out (fun h => absurd h h9) (fun h => by have := HC.out; have := HZ.out h; omega)
              exact ⟨.inl ⟨e1, by rw [e2, e3, ← HS.out]; rfl⟩, rfl⟩
    · have HI : Hid (E.IsLead 9 l j) := ⟨hj9, by have := HL.out; omega, HLe.out, .inr (.inl (by have := HL.out; omega))⟩
      clear hc
      go_wp2
      have hg := E.gE_short HI.out (by have := HL.out; omega)
      exact ⟨rfl, .inr ⟨by rw [hg]; decide, by rw [hg]; rfl⟩, rfl⟩

/-- leb's get: the number and how many bytes it has, or a panic with the error. -/
theorem get_in (ao : Option Addr) (len cap : Nat) (l : List Nat) (w : World) (h : Sl w .u8 ao len cap (ints l)) (h256 : ∀ x ∈ l, x < 256) (hm : len ≤ 140737488355328) :
    Calls Try.prog 91 #[.slice ao len cap] w fun e w' => ((E.gE l = 0 ∧ e = .returned (.tuple #[.int .u64 ((E.gN l : Nat) : Int), .int .i64 ((E.gK l : Nat) : Int)])) ∨ (E.gE l ≠ 0 ∧ e = pan ((E.gE l : Nat) : Int))) ∧ w' = w := by
  obtain ⟨h1, h2, h3, h4, h5⟩ := h
  rw [ints_length] at h1
  by_cases h0 : len = 0
  · subst h0
    obtain rfl : l = [] := List.eq_nil_of_length_eq_zero h1
    refine (get_zero ao cap w).mono ?_
    rintro e w' ⟨rfl, rfl⟩
    exact ⟨.inr ⟨by decide, rfl⟩, rfl⟩
  · rcases h5 with h5 | ⟨b, off, rfl, hlt, h5⟩
    · omega
    · exact get_some b off len cap l w h1 hm (fun i hi => by rw [h5 i hi, ints_getD]) h256
end Go.Proofs.Ytmhfpipeoojacaa

/- The reference's Same of any two rows of values. -/
import Derived.Test.YtmhfpipeoojacaaBdY
import Derived.BigQuiet
import Derived.WalkSmall
import Derived.Test.YtmhfpipeoojacaaBdZB
import Derived.Test.YtmhfpipeoojacaaBdA
import Derived.ProofKit
import Derived.OpenShut
import Derived.ShutString
import Derived.ChangeOld
import Derived.Below
import Derived.SizedLaws
import Derived.Test.YtmhfpipeoojacaaBdE
import Derived.Lib.SmallJoins
import Derived.JoinedCond
import Derived.Test.YtmhfpipeoojacaaBdF
import Derived.Deep.SlicePairs
namespace Go.Proofs.Ytmhfpipeoojacaa
set_option linter.unusedVariables false
open Go.RowKit

/-- What Same answers. -/
def SameAns (l m : List Z.V) (w : World) (e : Ending) (w' : World) : Prop := ∃ q, e = .returned (.bool q) ∧ (q = true ↔ l = m) ∧ Below w.heap.size w w'
theorem SameAns.no {l m : List Z.V} {w w' : World} (h : l ≠ m) (hb : Below w.heap.size w w') : SameAns l m w (.returned (.bool false)) w' := ⟨false, rfl, ⟨fun e => absurd e (by decide), fun e => absurd e h⟩, hb⟩
theorem SameAns.yes {l m : List Z.V} {w w' : World} (h : l = m) (hb : Below w.heap.size w w') : SameAns l m w (.returned (.bool true)) w' := ⟨true, rfl, ⟨fun _ => h, fun _ => rfl⟩, hb⟩
theorem take_same {l m : List Z.V} {k : Nat} {x y : Z.V} (h : l.take k = m.take k) (hx : l[k]? = some x) (hy : m[k]? = some y) (e : x = y) : l.take (k + 1) = m.take (k + 1) := by
  obtain ⟨h1, h2⟩ := List.getElem?_eq_some_iff.1 hx
  obtain ⟨h3, h4⟩ := List.getElem?_eq_some_iff.1 hy
  rw [List.take_succ_eq_append_getElem h1, List.take_succ_eq_append_getElem h3, h, h2, h4, e]

set_option maxHeartbeats 1000000 in
theorem vsame_lens (ao bo : Option Addr) (n1 n2 ca cb : Nat) (l m : List Z.V) (w : World) (h1 : l.length = n1) (h2 : m.length = n2) (hne : n1 ≠ n2) :
    Calls Try.prog 17 #[.slice ao n1 ca, .slice bo n2 cb] w (SameAns l m w) := by
  have hb : ((n1 : Int) != (n2 : Int)) = true := by simp; omega
  have HN : Hid (l ≠ m) := fun e => hne (by rw [← h1, ← h2, e])
  clear h1 h2 hne
  go_enter Try.func17, Try.ntmps17
  go_wp2
  go_ret
  exact SameAns.no HN.out (Below.refl _ _)
set_option maxHeartbeats 1000000 in
theorem vsame_two (b1 o1 b2 o2 len ca cb : Nat) (l m : List Z.V) (w : World) (hl : l.length = len) (hl2 : m.length = len) (hm : len ≤ 140737488355328) (h1 : b1 < w.heap.size) (h2 : b2 < w.heap.size)
    (hc1 : ∀ j x, l[j]? = some x → w.cell? ⟨b1, o1 + j * 3, none⟩ = some (.int .i64 x.k) ∧ w.cell? ⟨b1, o1 + j * 3 + 1, none⟩ = some (.int .i64 x.i) ∧ w.cell? ⟨b1, o1 + j * 3 + 2, none⟩ = some (.string x.s))
    (hc2 : ∀ j x, m[j]? = some x → w.cell? ⟨b2, o2 + j * 3, none⟩ = some (.int .i64 x.k) ∧ w.cell? ⟨b2, o2 + j * 3 + 1, none⟩ = some (.int .i64 x.i) ∧ w.cell? ⟨b2, o2 + j * 3 + 2, none⟩ = some (.string x.s)) :
    Calls Try.prog 17 #[.slice (some ⟨b1, o1, none⟩) len ca, .slice (some ⟨b2, o2, none⟩) len cb] w (SameAns l m w) := by
  have hb : ((len : Int) != (len : Int)) = false := by simp
  have HC1 := hide hc1
  have HC2 := hide hc2
  have HL := hide hl
  have HM := hide hl2
  clear hc1 hc2 hl hl2
  go_enter Try.func17, Try.ntmps17
  go_wp2_with fail
  go_loopw [5] (fun i wr => ∃ k : Nat, k ≤ len ∧ i = .int .i64 k ∧ Hid (l.take k = m.take k) ∧ Hid (Below w.heap.size w wr)) (fun i _ => len - (intOf i).toNat)
  case atStart => exact ⟨0, Nat.zero_le _, rfl, hide rfl, hide (Below.refl _ _)⟩
  case round =>
    obtain ⟨k, hk, rfl, hsm, hkr⟩ := hrel
    by_cases hlt : k < len
    · obtain ⟨⟨xk, xi, xs⟩, hx⟩ : ∃ x, l[k]? = some x := ⟨l[k]'(by rw [HL.out]; exact hlt), List.getElem?_eq_getElem _⟩
      obtain ⟨⟨yk, yi, ys⟩, hy⟩ : ∃ x, m[k]? = some x := ⟨m[k]'(by rw [HM.out]; exact hlt), List.getElem?_eq_getElem _⟩
      obtain ⟨c1, c2, c3⟩ := HC1.out k _ hx
      obtain ⟨d1, d2, d3⟩ := HC2.out k _ hy
      have e1 : wr.cell? ⟨b1, o1 + k * 3, none⟩ = some (.int .i64 xk) := by rw [hkr.out.cell (p := ⟨b1, o1 + k * 3, none⟩) h1]; exact c1
      have e2 : wr.cell? ⟨b1, o1 + k * 3 + 1, none⟩ = some (.int .i64 xi) := by rw [hkr.out.cell (p := ⟨b1, o1 + k * 3 + 1, none⟩) h1]; exact c2
      have e3 : wr.cell? ⟨b1, o1 + k * 3 + 2, none⟩ = some (.string xs) := by rw [hkr.out.cell (p := ⟨b1, o1 + k * 3 + 2, none⟩) h1]; exact c3
      have g1 : wr.cell? ⟨b2, o2 + k * 3, none⟩ = some (.int .i64 yk) := by rw [hkr.out.cell (p := ⟨b2, o2 + k * 3, none⟩) h2]; exact d1
      have g2 : wr.cell? ⟨b2, o2 + k * 3 + 1, none⟩ = some (.int .i64 yi) := by rw [hkr.out.cell (p := ⟨b2, o2 + k * 3 + 1, none⟩) h2]; exact d2
      have g3 : wr.cell? ⟨b2, o2 + k * 3 + 2, none⟩ = some (.string ys) := by rw [hkr.out.cell (p := ⟨b2, o2 + k * 3 + 2, none⟩) h2]; exact d3
      have hv := fun w => vne_run xk xi xs yk yi ys w
      obtain ⟨z, hz⟩ : ∃ z, Z.same ⟨xk, xi, xs⟩ ⟨yk, yi, ys⟩ = z := ⟨_, rfl⟩
      have HZ := hide hz
      rw [hz] at hv
      have HX := hide hx
      have HY := hide hy
      have hki : (k : Int) < (len : Int) := by omega
      clear c1 c2 c3 d1 d2 d3 hx hy hz
      cases z with
      | true =>
        go_wp2_with fail
        go_quiet (fail)
        have HB := hide (below_drewN hkr.out nq)
        have HS : Hid (l.take (k + 1) = m.take (k + 1)) := take_same hsm.out HX.out HY.out ((Z.same_iff _ _).1 HZ.out)
        go_wp2
        go_roundw
        case rel => exact ⟨k + 1, by omega, by go_num, HS, HB⟩
        case measure => simp [intOf]; omega
      | false =>
        have HN : Hid (l ≠ m) := fun e => by
          have h3 := HX.out
          rw [e, HY.out] at h3
          have h4 := HZ.out
          rw [Option.some.inj h3, Z.same_self] at h4
          exact absurd h4 (by decide)
        go_wp2_with fail
        go_quiet (fail)
        have HB := hide (below_drewN hkr.out nq)
        go_wp2
        go_ret
        exact SameAns.no HN.out HB.out
    · obtain rfl : k = len := by omega
      have HE : Hid (l = m) := by
        have h3 := hsm.out
        rw [List.take_of_length_le (by rw [HL.out]; exact Nat.le_refl _), List.take_of_length_le (by rw [HM.out]; exact Nat.le_refl _)] at h3
        exact h3
      go_wp2
      go_ret
      exact SameAns.yes HE.out hkr.out
theorem vsame_any (ao bo : Option Addr) (n1 n2 ca cb : Nat) (l m : List Z.V) (w : World) (h1 : SlV w ao n1 ca l) (h2 : SlV w bo n2 cb m) (hm : n1 ≤ 140737488355328) :
    Calls Try.prog 17 #[.slice ao n1 ca, .slice bo n2 cb] w (SameAns l m w) := by
  by_cases hn : n1 = n2
  · subst hn
    by_cases h0 : n1 = 0
    · subst h0
      obtain rfl : l = [] := List.eq_nil_of_length_eq_zero h1.1
      obtain rfl : m = [] := List.eq_nil_of_length_eq_zero h2.1
      refine (vsame_none ao bo ca cb w).mono ?_
      rintro e w' ⟨rfl, hb⟩
      exact SameAns.yes rfl hb
    · rcases h1.2.2.2.2 with h | ⟨b1, o1, rfl, hb1, hc1⟩
      · omega
      · rcases h2.2.2.2.2 with h | ⟨b2, o2, rfl, hb2, hc2⟩
        · omega
        · exact vsame_two b1 o1 b2 o2 n1 ca cb l m w h1.1 h2.1 hm hb1 hb2 hc1 hc2
  · exact vsame_lens ao bo n1 n2 ca cb l m w h1.1 h2.1 hn
end Go.Proofs.Ytmhfpipeoojacaa
/- What stands at the head of dict's laws: few, shown. Conditions: none. -/
namespace Go.Proofs.Ytmhfpipeoojacaa
set_option linter.unusedVariables false
set_option maxRecDepth 10000
open Go.RowKit Go.Sort
def DFewAns (len : Nat) (w : World) (e : Ending) (w' : World) : Prop := ∃ q, e = .returned (.bool q) ∧ (q = true → len ≤ 1000) ∧ w' = w
theorem DFewAns.mk {len : Nat} {w : World} {v : Value} (q : Bool) (h0 : v = .bool q) (h : q = true → len ≤ 1000) : DFewAns len w (.returned v) w := ⟨q, by rw [h0], h, rfl⟩
theorem slV_two9 (w : World) (x y : Z.V) : SlV (w.alloc (.cells #[.int .i64 x.k, .int .i64 x.i, .string x.s, .int .i64 y.k, .int .i64 y.i, .string y.s] 24)) (some ⟨w.heap.size, 0, none⟩) 2 2 [x, y] := by
  refine ⟨rfl, Nat.le_refl _, by decide, by simp, .inr ⟨w.heap.size, 0, rfl, by simp, fun j u hu => ?_⟩⟩
  match j, hu with
  | 0, hu => simp at hu; subst hu; simp
  | 1, hu => simp at hu; subst hu; simp
theorem dfew_some (b off len cap : Nat) (l : List Z.V) (w : World) (hl : l.length = len) (hm : len ≤ 140737488355328) (hlt : b < w.heap.size)
    (hc : ∀ j x, l[j]? = some x → w.cell? ⟨b, off + j * 3, none⟩ = some (.int .i64 x.k) ∧ w.cell? ⟨b, off + j * 3 + 1, none⟩ = some (.int .i64 x.i) ∧ w.cell? ⟨b, off + j * 3 + 2, none⟩ = some (.string x.s)) :
    Calls Try.prog 9 #[.slice (some ⟨b, off, none⟩) len cap] w (DFewAns len w) := by
  have HC := hide hc
  have HL := hide hl
  clear hc hl
  go_enter Try.func9, Try.ntmps9
  go_wp2_with fail
  go_loopw [3, 4] (fun n i wr => ∃ (j : Nat) (x : Int), j ≤ len ∧ i = .int .i64 j ∧ n = .int .i64 x ∧ wr = w) (fun _ i _ => len - (intOf i).toNat)
  case atStart => exact ⟨0, 0, Nat.zero_le _, rfl, rfl, rfl⟩
  case round =>
    obtain ⟨j, x, hj, rfl, rfl, rfl⟩ := hrel
    by_cases hx : x ≤ 100000
    · have hxd : decide (x ≤ 100000) = true := by simpa using hx
      by_cases hjl : j < len
      · obtain ⟨⟨xk, xi, xs⟩, hx⟩ : ∃ x, l[j]? = some x := ⟨l[j]'(by rw [HL.out]; exact hjl), List.getElem?_eq_getElem _⟩
        obtain ⟨c1, c2, c3⟩ := HC.out j _ hx
        clear hx
        go_wp2
        go_roundw
        case rel => exact ⟨j + 1, _, hjl, by go_num, rfl, trivial⟩
        case measure => simp [intOf]; omega
      · obtain rfl : j = len := by omega
        by_cases h1 : j ≤ 1000
        · go_wp2
          go_ret
          exact DFewAns.mk _ rfl fun _ => h1
        · go_wp2
          go_ret
          exact DFewAns.mk _ rfl fun h => by simp at h
    · have hxd : decide (x ≤ 100000) = false := by simpa using hx
      by_cases h1 : len ≤ 1000
      · by_cases hjl : j < len
        · go_wp2
          go_ret
          exact DFewAns.mk _ rfl fun _ => h1
        · go_wp2
          go_ret
          exact DFewAns.mk _ rfl fun _ => h1
      · by_cases hjl : j < len
        · go_wp2
          go_ret
          exact DFewAns.mk _ rfl fun h => by simp at h
        · go_wp2
          go_ret
          exact DFewAns.mk _ rfl fun h => by simp at h
theorem dfew_none (ao : Option Addr) (cap : Nat) (w : World) :
    Calls Try.prog 9 #[.slice ao 0 cap] w (DFewAns 0 w) := by
  go_enter Try.func9, Try.ntmps9
  go_wp2_with fail
  go_rounds 1
  go_ret
  exact DFewAns.mk _ rfl fun _ => by omega
theorem dfew_any (ao : Option Addr) (len cap : Nat) (l : List Z.V) (w : World) (h : SlV w ao len cap l) (hm : len ≤ 140737488355328) :
    Calls Try.prog 9 #[.slice ao len cap] w (DFewAns len w) := by
  rcases h.2.2.2.2 with h5 | ⟨b, off, rfl, hlt, h5⟩
  · subst h5
    exact dfew_none ao cap w
  · exact dfew_some b off len cap l w h.1 hm hlt h5

theorem slV_three9 (w : World) (x y z : Z.V) : SlV (w.alloc (.cells #[.int .i64 x.k, .int .i64 x.i, .string x.s, .int .i64 y.k, .int .i64 y.i, .string y.s, .int .i64 z.k, .int .i64 z.i, .string z.s] 24)) (some ⟨w.heap.size, 0, none⟩) 3 3 [x, y, z] := by
  refine ⟨rfl, Nat.le_refl _, by decide, by simp, .inr ⟨w.heap.size, 0, rfl, by simp, fun j u hu => ?_⟩⟩
  match j, hu with
  | 0, hu => simp at hu; subst hu; simp
  | 1, hu => simp at hu; subst hu; simp
  | 2, hu => simp at hu; subst hu; simp

def vA : Z.V := ⟨3, 0, ⟨#[97]⟩⟩
def vB : Z.V := ⟨3, 0, ⟨#[98]⟩⟩
theorem ex_wds : Z.wds [vB, vA, vB] = [vA, vB] := by rfl
theorem ex_cdE : Z.cdE [vA, vB] [vB, vA, vB] = 0 := by decide
theorem ex_cdL : Z.cdL [vA, vB] [vB, vA, vB] = [1, 0, 1] := by decide
theorem ex_blw : Z.blw [vA, vB] vB = 1 := by decide
theorem sl_three (w : World) : Sl (w.alloc (.cells #[.int .u64 1, .int .u64 0, .int .u64 1] 44)) .u64 (some ⟨w.heap.size, 0, none⟩) 3 3 [1, 0, 1] := by
  refine ⟨rfl, Nat.le_refl _, by decide, by simp, .inr ⟨w.heap.size, 0, rfl, by simp, fun i hi => ?_⟩⟩
  match i, hi with
  | 0, _ => simp
  | 1, _ => simp
  | 2, _ => simp
/-- A value boxed a while ago. -/
theorem At.lie {w w' : World} {b : Nat} {k i : Int} {s : ByteArray} (h : At w b k i s) (hb : Below w.heap.size w w') : w'.cell? ⟨b, 0, none⟩ = some (.int .i64 k) ∧ w'.cell? ⟨b, 1, none⟩ = some (.int .i64 i) ∧ w'.cell? ⟨b, 2, none⟩ = some (.string s) := (h.below hb).cells
set_option maxHeartbeats 2000000 in
theorem dshown_any (w : World) : Calls Try.prog 8 #[] w fun e w' => e = .returned (.bool true) ∧ Below w.heap.size w w' := by
  obtain ⟨w2, hw2⟩ : ∃ w2, (w.alloc (.cells #[.int .i64 3, .int .i64 0, .string ⟨#[97]⟩] 24)).alloc (.cells #[.int .i64 3, .int .i64 0, .string ⟨#[98]⟩] 24) = w2 := ⟨_, rfl⟩
  have hA : At w2 w.heap.size 3 0 ⟨#[97]⟩ := by rw [← hw2]; exact (At.new w 3 0 ⟨#[97]⟩).alloc _
  have hB : At w2 (w.heap.size + 1) 3 0 ⟨#[98]⟩ := by rw [← hw2]; have := At.new (w.alloc (.cells #[.int .i64 3, .int .i64 0, .string ⟨#[97]⟩] 24)) 3 0 ⟨#[98]⟩; simpa using this
  have hb2 : Below w.heap.size w w2 := by rw [← hw2]; exact (below_one w _).trans ((below_one _ _).mono (by simp))
  have hz2 : w2.heap.size = w.heap.size + 1 + 1 := by rw [← hw2]; simp
  have hs2 := slV_three9 w2 vB vA vB
  rw [hz2] at hs2
  have HS2 := hide hs2
  have HW := hide hw2
  clear hs2
  have HA := hide hA
  have HB := hide hB
  have HB2 := hide hb2
  clear hw2 hA hB hb2
  go_enter Try.func8, Try.ntmps8
  go_wp2_with fail
  rw [HW.out]
  refine (words_some _ 3 3 [vB, vA, vB] _ HS2.out (by omega)).mono ?_
  rintro e w3 ⟨a, n, c, rfl, hs3, _, hb3⟩
  rw [ex_wds] at hs3
  obtain rfl : 2 = n := hs3.1
  have hb23 : Below w2.heap.size w2 w3 := (below_one w2 _).trans (hb3.mono (by simp))
  have HA3 := hide (HA.out.below hb23)
  have HB3 := hide (HB.out.below hb23)
  have HBW := hide (HB2.out.trans (hb23.mono HB2.out.size))
  have HS3 := hide hs3
  obtain ⟨a0, a1, a2⟩ := HA3.out.cells
  obtain ⟨b0, b1, b2⟩ := HB3.out.cells
  have hs4 := slV_three9 w3 vB vA vB
  have b4 := below_one w3 (.cells #[.int .i64 vB.k, .int .i64 vB.i, .string vB.s, .int .i64 vA.k, .int .i64 vA.i, .string vA.s, .int .i64 vB.k, .int .i64 vB.i, .string vB.s] 24)
  have HC := hide (codes_any a c [vA, vB] (some ⟨w3.heap.size, 0, none⟩) 3 [vB, vA, vB] _ (hs3.below b4) hs4 (by simp) (by simp))
  have HB4 := hide b4
  clear hs3 hs4 b4 hb3 hb23 HS2 HA HB HB2 hz2 HW
  go_wp2_with fail
  refine Calls.mono HC.out ?_
  rintro e w5 ⟨ac, nc, cc, rfl, hs5, hb5⟩
  rw [ex_cdL] at hs5
  rw [ex_cdE]
  obtain rfl : 3 = nc := hs5.1
  have hb35 : Below w3.heap.size w3 w5 := HB4.out.trans (hb5.mono HB4.out.size)
  have HA5 := hide (HA3.out.below hb35)
  have HB5 := hide (HB3.out.below hb35)
  have HW5 := hide (HBW.out.trans (hb35.mono HBW.out.size))
  have HV5 := hide (HS3.out.below hb35)
  have HS5 := hide hs5
  clear hs5 hb5 hb35 HA3 HB3 HBW HS3 HB4 HC a0 a1 a2 b0 b1 b2
  obtain ⟨a0, a1, a2⟩ := HA5.out.cells
  obtain ⟨b0, b1, b2⟩ := HB5.out.cells
  have b6 := below_one w5 (.cells #[.int .i64 vA.k, .int .i64 vA.i, .string vA.s, .int .i64 vB.k, .int .i64 vB.i, .string vB.s] 24)
  have HSM := hide (vsame_yes a (some ⟨w5.heap.size, 0, none⟩) 2 c 2 [vA, vB] _ (HV5.out.below b6) (slV_two9 w5 vA vB) (by omega))
  have HB6 := hide b6
  clear b6
  go_wp2_with fail
  refine Calls.mono HSM.out ?_
  rintro e w7 ⟨rfl, hb7⟩
  have hb57 : Below w5.heap.size w5 w7 := HB6.out.trans (hb7.mono HB6.out.size)
  have HA7 := hide (HA5.out.below hb57)
  have HB7 := hide (HB5.out.below hb57)
  have HW7 := hide (HW5.out.trans (hb57.mono HW5.out.size))
  have HV7 := hide (HV5.out.below hb57)
  have HS7 := hide (HS5.out.below hb57)
  clear hb7 hb57 HA5 HB5 HW5 HV5 HS5 HB6 HSM a0 a1 a2 b0 b1 b2
  obtain ⟨b0, b1, b2⟩ := HB7.out.cells
  have b8 := below_one w7 (.cells #[.int .u64 1, .int .u64 0, .int .u64 1] 44)
  have HSU := hide (u64same_yes ac (some ⟨w7.heap.size, 0, none⟩) 3 cc 3 [1, 0, 1] _ (HS7.out.below b8) (sl_three w7) (by omega))
  have HB8 := hide b8
  clear b8
  go_wp2_with fail
  refine Calls.mono HSU.out ?_
  rintro e w9 ⟨rfl, hk9⟩
  have hb79 : Below w7.heap.size w7 w9 := HB8.out.trans (hk9.below HB8.out.size (by simp))
  have HB9 := hide (HB7.out.below hb79)
  have HW9 := hide (HW7.out.trans (hb79.mono HW7.out.size))
  have HV9 := hide (HV7.out.below hb79)
  clear hk9 hb79 HB7 HA7 HW7 HV7 HS7 HB8 HSU b0 b1 b2
  obtain ⟨b0, b1, b2⟩ := HB9.out.cells
  have HBL := hide (dbelow_any a 2 c [vA, vB] 3 0 ⟨#[98]⟩ w9 HV9.out (by omega))
  go_wp2_with fail
  refine Calls.mono HBL.out ?_
  rintro e w10 ⟨rfl, hb10⟩
  rw [show Z.blw [vA, vB] ⟨3, 0, ⟨#[98]⟩⟩ = 1 from ex_blw]
  have HW10 := hide (HW9.out.trans (hb10.mono HW9.out.size))
  clear hb10 HBL b0 b1 b2
  go_wp2
  go_ret
  exact ⟨rfl, HW10.out⟩
end Go.Proofs.Ytmhfpipeoojacaa
/- What a row's step hands to the walks: slices of numbers that came in. -/
namespace Go.Proofs.Ytmhfpipeoojacaa
set_option linter.unusedVariables false
open Go.ChangeShapes Go.WideShapes Go.ChangeAt Go.RowKit

theorem own : ownKnob Try.prog.godebug = none := by kernel_rfl
theorem laidOut : laidOutB Try.prog = true := by kernel_rfl

/-- A slice of numbers that came in: its elements, each of its kind; how many bytes it takes. -/
def Came (k : IntKind) (w : World) (a : Option Addr) (len cap : Nat) (l : List Int) : Prop := Sl w k a len cap l ∧ ∀ n ∈ l, (Lit.int k n).wf = true

theorem wf_u8 {n : Int} (h : (Lit.int .u8 n).wf = true) : 0 ≤ n ∧ n < 256 := by
  have := bounds_u8 h; omega
theorem wf_u64 {n : Int} (h : (Lit.int .u64 n).wf = true) : 0 ≤ n ∧ n < 18446744073709551616 := by
  have := bounds_u64 h; omega
theorem wf_i64 {n : Int} (h : (Lit.int .i64 n).wf = true) : -9223372036854775808 ≤ n ∧ n < 9223372036854775808 := by
  have := bounds_i64 h; omega
theorem wf_u16 {n : Int} (h : (Lit.int .u16 n).wf = true) : 0 ≤ n ∧ n < 65536 := by
  have := bounds_u16 h; omega

theorem came_of_cells {k : IntKind} {w : World} {x : Addr} {len cap : Nat} {zs : List Int} (hl : len ≤ cap) (hm : cap ≤ maxLen) (hz : zs.length = cap) (hc : ∀ i, i < zs.length → w.cell? (x.add i) = some (.int k (zs.getD i 0))) (hw : ∀ n ∈ zs, (Lit.int k n).wf = true) :
    Came k w (some x) len cap (zs.take len) := by
  refine ⟨⟨by simp; omega, hl, hm, by simp, ?_⟩, fun n hn => hw n (List.mem_of_mem_take hn)⟩
  by_cases h0 : len = 0
  · exact .inl h0
  · obtain ⟨b, off, spot⟩ := x
    have h1 := hc 0 (by omega)
    have hspot : spot = none := by simpa [Addr.add] using World.cell?_spot h1
    subst hspot
    refine .inr ⟨b, off, rfl, ?_, fun i hi => ?_⟩
    · have := cell_lt h1
      simpa [Addr.add] using this
    · have h2 := hc i (by omega)
      rw [Addr.add_lit] at h2
      rw [h2]
      simp [List.getD, hi]

/-- What the reading of such a slice weighs. -/
def Heavy {H : Type} (d : DataW H) (cap : Nat) : Prop := cap = 0 ∨ ∃ elems spare, d = .slice elems spare ∧ elems.length + spare.length = cap

/-- A slice of numbers that came in, opened. -/
theorem open_came {H : Type} {enc : TypeId × Value → H} {W : World} {t e : TypeId} {k : IntKind} {a : Option Addr} {len cap : Nat} {d : DataW H} {p : List MemPlace}
    (ht : Try.prog.underlying t = some (.slice e)) (he : Try.prog.underlying e = some (.int k)) (hc : Try.prog.cellsOf e = 1)
    (h : DataW.Trod enc Try.prog W 0 (fun _ => true) true t (.slice a len cap) d p) : (∃ l, Came k W a len cap l) ∧ Heavy d cap := by
  obtain ⟨fuel, hf⟩ := h
  rcases open_ints ht he hc hf with ⟨hcs, _⟩ | ⟨x, l, c, zs, hcs, _, hl, hm, hz, hd, hcell, hwz⟩
  · simp [Value.cells] at hcs
    obtain ⟨rfl, rfl, rfl⟩ := hcs
    exact ⟨⟨[], ⟨rfl, Nat.le_refl _, by decide, fun _ => rfl, .inl rfl⟩, by simp⟩, .inl rfl⟩
  · simp [Value.cells] at hcs
    obtain ⟨rfl, rfl, rfl⟩ := hcs
    have hz' : zs.length = cap := by simpa using hz
    refine ⟨⟨zs.take len, came_of_cells hl hm hz' hcell hwz⟩, .inr ⟨_, _, (Prod.mk.inj hd).1, ?_⟩⟩
    simp [lits]; omega

theorem reach_came {H : Type} {ts : List TypeId} {ds : List (DataW H)} {j : Nat} {t e : TypeId} {d : DataW H} {cap : Nat} (hsz : (DataW.weightsEach Try.prog ts ds).all (· ≤ reachBytes) = true)
    (ht : ts[j]? = some t) (hdj : ds[j]? = some d) (hu : Try.prog.underlying t = some (.slice e)) (hd : Heavy d cap) : cap * Try.prog.bytesOf e ≤ 140737488351232 := by
  rcases hd with rfl | ⟨el, sp, rfl, rfl⟩
  · simp
  · have := sized_slice hsz ht hdj hu
    simpa [reachBytes] using this
/-- Bytes that came in. -/
theorem came_bytes {w : World} {a : Option Addr} {len cap : Nat} {z : List Int} (h : Came .u8 w a len cap z) : ∃ l : List Nat, z = ints l ∧ (∀ x ∈ l, x < 256) := by
  refine ⟨z.map Int.toNat, ?_, ?_⟩
  · simp only [ints, List.map_map]
    conv => lhs; rw [← List.map_id z]
    apply List.map_congr_left
    intro x hx
    have := wf_u8 (h.2 x hx)
    simp; omega
  · intro x hx
    obtain ⟨y, hy, rfl⟩ := List.mem_map.1 hx
    have := wf_u8 (h.2 y hy)
    omega

end Go.Proofs.Ytmhfpipeoojacaa
/- What a row's step hands to the walks: a value that came in. -/
namespace Go.Proofs.Ytmhfpipeoojacaa
set_option linter.unusedVariables false
open Go.ChangeShapes Go.WideShapes Go.ChangeAt Go.RowKit

theorem Try.cellsVal : Try.prog.cellsOf 24 = 3 := by kernel_rfl
set_option maxRecDepth 10000 in
theorem open_val {H : Type} {enc : TypeId × Value → H} {W : World} {base : Nat} {v : Value} {d : DataW H} {p : List MemPlace}
    (hv : Value.okWide Try.prog W .any base 24 v) (h : DataW.Trod enc Try.prog W 0 (fun _ => true) true 24 v d p) :
    ∃ (k i : Int) (s : ByteArray), v = .agg #[.int .i64 k, .int .i64 i, .string s] ∧ Z.I64 k ∧ Z.I64 i ∧ s.size ≤ maxLen ∧ d = .agg [.lit (.int .i64 k), .lit (.int .i64 i), .lit (.string s.data.toList)] := by
  obtain ⟨c0, c1, c2, y0, y1, y2, m, rfl, rfl, rfl, hy0, hy1, hy2⟩ := Joins.open_agg3 Try.underlying24 (by kernel_rfl) Try.cellsVal hv h
  obtain ⟨x, e0, rfl, wx⟩ := DataW.trod_int Try.underlying3 hy0
  obtain ⟨y, e1, rfl, wy⟩ := DataW.trod_int Try.underlying2 hy1
  obtain ⟨s, e2, rfl, ws⟩ := DataW.trod_string Try.underlying9 hy2
  simp at e0 e1 e2
  subst e0 e1 e2
  have h1 := wf_i64 wx
  have h2 := wf_i64 wy
  exact ⟨x, y, s, rfl, h1, h2, ws, rfl⟩
end Go.Proofs.Ytmhfpipeoojacaa
/- What the bound of the second statements gives: how much an argument holds. -/
namespace Go.Proofs.Ytmhfpipeoojacaa
set_option linter.unusedVariables false
open Go.ChangeShapes Go.WideShapes Go.ChangeAt Go.RowKit

/-- Whatever is read weighs something. -/
theorem bulk_pos {H : Type} (d : DataW H) : 0 < Rows.uptoBulk d := by
  cases d with
  | lit x => cases x <;> exact Nat.succ_pos _
  | _ => exact Nat.succ_pos _
theorem bulk_count {H : Type} : ∀ l : List (DataW H), l.length ≤ Rows.uptoBulkAll l
  | [] => Nat.le_refl _
  | d :: r => by
    have h1 := bulk_pos d
    have h2 := bulk_count r
    show r.length + 1 ≤ Rows.uptoBulk d + Rows.uptoBulkAll r
    omega
theorem bulk_among {H : Type} {d : DataW H} : ∀ {l : List (DataW H)}, d ∈ l → Rows.uptoBulk d ≤ Rows.uptoBulkAll l
  | x :: r, h => by
    show _ ≤ Rows.uptoBulk x + Rows.uptoBulkAll r
    rcases List.mem_cons.1 h with rfl | h
    · exact Nat.le_add_right _ _
    · exact Nat.le_trans (bulk_among h) (Nat.le_add_left _ _)
theorem bulk_slice {H : Type} {d : DataW H} {cap : Nat} (h : Heavy d cap) : cap ≤ Rows.uptoBulk d := by
  rcases h with rfl | ⟨el, sp, rfl, rfl⟩
  · omega
  · have h1 := bulk_count el
    have h2 := bulk_count sp
    show _ ≤ Rows.uptoBulkAll el + Rows.uptoBulkAll sp + 1
    omega
theorem bulk_string {H : Type} (s : ByteArray) : s.size ≤ Rows.uptoBulk (DataW.lit (H := H) (.string s.data.toList)) := by
  have e : s.data.toList.length = s.size := by simp
  simp only [Rows.uptoBulk]; omega
/-- Each argument is of at most so many values and letters. -/
theorem bulk_le {H : Type} {l : List (DataW H)} (hk : Rows.uptoSmall H l = true) {d : DataW H} (h : d ∈ l) : Rows.uptoBulk d ≤ 1048576 := by
  have h1 : Rows.uptoBulkAll l ≤ 1048576 := of_decide_eq_true hk
  exact Nat.le_trans (bulk_among h) h1
end Go.Proofs.Ytmhfpipeoojacaa
/- What a row's step hands to the walks: a slice of values that came in. -/
namespace Go.Proofs.Ytmhfpipeoojacaa
set_option linter.unusedVariables false
open Go.ChangeShapes Go.WideShapes Go.ChangeAt Go.RowKit Go.Deep

set_option maxRecDepth 10000 in
theorem open_vals {H : Type} {enc : TypeId × Value → H} {W : World} {a : Option Addr} {len cap : Nat} {d : DataW H} {p : List MemPlace}
    (h : DataW.Trod enc Try.prog W 0 (fun _ => true) true 22 (.slice a len cap) d p) : (∃ l : List Z.V, SlV W a len cap l) ∧ Heavy d cap := by
  obtain ⟨fuel, hf⟩ := h
  rcases open_slice Try.underlying22 hf with ⟨hcs, _⟩ | ⟨x, l, c, m, n, D, Pl, hcs, _, hl, hm, hmm, hd, hx⟩
  · simp [Value.cells] at hcs
    obtain ⟨rfl, rfl, rfl⟩ := hcs
    exact ⟨⟨[], rfl, Nat.le_refl _, by decide, fun _ => rfl, .inl rfl⟩, .inl rfl⟩
  · simp [Value.cells] at hcs
    obtain ⟨rfl, rfl, rfl⟩ := hcs
    simp only [if_true] at hmm
    subst hmm
    have each : ∀ i, i < m → ∃ q : Z.V, W.cell? (x.add (i * 3)) = some (.int .i64 q.k) ∧ W.cell? (x.add (i * 3 + 1)) = some (.int .i64 q.i) ∧ W.cell? (x.add (i * 3 + 2)) = some (.string q.s) := by
      intro i hi
      obtain ⟨cs', h1, h2⟩ := hx i hi
      rw [Try.cellsVal] at h1
      obtain ⟨_, hlen, hcell⟩ := World.cells?_some h1
      obtain ⟨xs, k, hk, hxy, _, hxl, hf⟩ := DataW.trod_struct Try.underlying24 h2
      match xs, hxl, cs', hlen with
      | [y0, y1, y2], _, [v0, v1, v2], _ =>
        have k0 : Try.prog.cellsOf 3 = 1 := by kernel_rfl
        have k1 : Try.prog.cellsOf 2 = 1 := by kernel_rfl
        have k2 : Try.prog.cellsOf 9 = 1 := by kernel_rfl
        have g0 := hf 0 _ rfl
        have g1 := hf 1 _ rfl
        have g2 := hf 2 _ rfl
        simp [k0, k1, k2] at g0 g1 g2
        obtain ⟨n0, e0, _, _⟩ := DataW.trod_int Try.underlying3 g0
        obtain ⟨n1, e1, _, _⟩ := DataW.trod_int Try.underlying2 g1
        obtain ⟨s2, e2, _, _⟩ := DataW.trod_string Try.underlying9 g2
        simp at e0 e1 e2
        subst e0 e1 e2
        have c0 := hcell 0 (by omega)
        have c1 := hcell 1 (by omega)
        have c2 := hcell 2 (by omega)
        rw [add_add] at c0 c1 c2
        exact ⟨⟨n0, n1, s2⟩, by simpa using c0, by simpa using c1, by simpa using c2⟩
    obtain ⟨q, hq⟩ := @choose_lt Z.V ⟨⟨0, 0, ⟨#[]⟩⟩⟩ _ _ each
    refine ⟨⟨(List.range len).map q, by simp, hl, hm, by simp, ?_⟩, .inr ⟨_, _, (Prod.mk.inj hd).1, by simp; omega⟩⟩
    by_cases h0 : len = 0
    · exact .inl h0
    · obtain ⟨b, off, spot⟩ := x
      have h1 := (hq 0 (by omega)).1
      have hspot : spot = none := by simpa [Addr.add] using World.cell?_spot h1
      subst hspot
      refine .inr ⟨b, off, rfl, ?_, fun j y hy => ?_⟩
      · have := cell_lt h1
        simpa [Addr.add] using this
      · have hj : j < len := by have := (List.getElem?_eq_some_iff.1 hy).1; simpa using this
        obtain rfl : q j = y := by simpa [hj] using hy
        obtain ⟨c0, c1, c2⟩ := hq j (by omega)
        rw [Addr.add_lit] at c0 c1 c2
        exact ⟨c0, by rw [← Nat.add_assoc] at c1; exact c1, by rw [← Nat.add_assoc] at c2; exact c2⟩
end Go.Proofs.Ytmhfpipeoojacaa
/- What a row's step hands to the walks: a slice of values that came in, whose parts are numbers and texts of the machine. -/
namespace Go.Proofs.Ytmhfpipeoojacaa
set_option linter.unusedVariables false
open Go.ChangeShapes Go.WideShapes Go.ChangeAt Go.RowKit Go.Deep

/-- A value whose parts are numbers and a text of the machine. -/
def Z.Wf (x : Z.V) : Prop := Z.I64 x.k ∧ Z.I64 x.i ∧ x.s.size ≤ maxLen
set_option maxRecDepth 10000 in
theorem open_valsI {H : Type} {enc : TypeId × Value → H} {W : World} {a : Option Addr} {len cap : Nat} {d : DataW H} {p : List MemPlace}
    (h : DataW.Trod enc Try.prog W 0 (fun _ => true) true 22 (.slice a len cap) d p) : (∃ l : List Z.V, SlV W a len cap l ∧ ∀ x ∈ l, Z.Wf x) ∧ Heavy d cap := by
  obtain ⟨fuel, hf⟩ := h
  rcases open_slice Try.underlying22 hf with ⟨hcs, _⟩ | ⟨x, l, c, m, n, D, Pl, hcs, _, hl, hm, hmm, hd, hx⟩
  · simp [Value.cells] at hcs
    obtain ⟨rfl, rfl, rfl⟩ := hcs
    exact ⟨⟨[], ⟨rfl, Nat.le_refl _, by decide, fun _ => rfl, .inl rfl⟩, by simp⟩, .inl rfl⟩
  · simp [Value.cells] at hcs
    obtain ⟨rfl, rfl, rfl⟩ := hcs
    simp only [if_true] at hmm
    subst hmm
    have each : ∀ i, i < m → ∃ q : Z.V, W.cell? (x.add (i * 3)) = some (.int .i64 q.k) ∧ W.cell? (x.add (i * 3 + 1)) = some (.int .i64 q.i) ∧ W.cell? (x.add (i * 3 + 2)) = some (.string q.s) ∧ Z.Wf q := by
      intro i hi
      obtain ⟨cs', h1, h2⟩ := hx i hi
      rw [Try.cellsVal] at h1
      obtain ⟨_, hlen, hcell⟩ := World.cells?_some h1
      obtain ⟨xs, k, hk, hxy, _, hxl, hf⟩ := DataW.trod_struct Try.underlying24 h2
      match xs, hxl, cs', hlen with
      | [y0, y1, y2], _, [v0, v1, v2], _ =>
        have k0 : Try.prog.cellsOf 3 = 1 := by kernel_rfl
        have k1 : Try.prog.cellsOf 2 = 1 := by kernel_rfl
        have k2 : Try.prog.cellsOf 9 = 1 := by kernel_rfl
        have g0 := hf 0 _ rfl
        have g1 := hf 1 _ rfl
        have g2 := hf 2 _ rfl
        simp [k0, k1, k2] at g0 g1 g2
        obtain ⟨n0, e0, _, wx⟩ := DataW.trod_int Try.underlying3 g0
        obtain ⟨n1, e1, _, wy⟩ := DataW.trod_int Try.underlying2 g1
        obtain ⟨s2, e2, _, ws⟩ := DataW.trod_string Try.underlying9 g2
        simp at e0 e1 e2
        subst e0 e1 e2
        have c0 := hcell 0 (by omega)
        have c1 := hcell 1 (by omega)
        have c2 := hcell 2 (by omega)
        rw [add_add] at c0 c1 c2
        exact ⟨⟨n0, n1, s2⟩, by simpa using c0, by simpa using c1, by simpa using c2, wf_i64 wx, wf_i64 wy, ws⟩
    obtain ⟨q, hq⟩ := @choose_lt Z.V ⟨⟨0, 0, ⟨#[]⟩⟩⟩ _ _ each
    refine ⟨⟨(List.range len).map q, ⟨by simp, hl, hm, by simp, ?_⟩, fun y hy => ?_⟩, .inr ⟨_, _, (Prod.mk.inj hd).1, by simp; omega⟩⟩
    rotate_left
    · obtain ⟨j, hj, rfl⟩ := List.mem_map.1 hy
      exact (hq j (by have := List.mem_range.1 hj; omega)).2.2.2
    by_cases h0 : len = 0
    · exact .inl h0
    · obtain ⟨b, off, spot⟩ := x
      have h1 := (hq 0 (by omega)).1
      have hspot : spot = none := by simpa [Addr.add] using World.cell?_spot h1
      subst hspot
      refine .inr ⟨b, off, rfl, ?_, fun j y hy => ?_⟩
      · have := cell_lt h1
        simpa [Addr.add] using this
      · have hj : j < len := by have := (List.getElem?_eq_some_iff.1 hy).1; simpa using this
        obtain rfl : q j = y := by simpa [hj] using hy
        obtain ⟨c0, c1, c2, _⟩ := hq j (by omega)
        rw [Addr.add_lit] at c0 c1 c2
        exact ⟨c0, by rw [← Nat.add_assoc] at c1; exact c1, by rw [← Nat.add_assoc] at c2; exact c2⟩
end Go.Proofs.Ytmhfpipeoojacaa

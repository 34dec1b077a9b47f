/- The reference's Same of any two rows of values. -/
import Derived.Test.YtkcpfgjkplailaaBdY
import Derived.BigQuiet
import Derived.WalkSmall
namespace Go.Proofs.Ytkcpfgjkplailaa
set_option linter.unusedVariables false
open Go.RowKit

/-- What Same answers. -/
def SameAns (l m : List Z.V) (w : World) (e : Ending) (w' : World) : Prop := ∃ q, e = .returned (.bool q) ∧ (q = true ↔ l = m) ∧ Below w.heap.size w w'
theorem SameAns.no {l m : List Z.V} {w w' : World} (h : l ≠ m) (hb : Below w.heap.size w w') : SameAns l m w (.returned (.bool false)) w' := ⟨false, rfl, ⟨fun e => absurd e (by decide), fun e => absurd e h⟩, hb⟩
theorem SameAns.yes {l m : List Z.V} {w w' : World} (h : l = m) (hb : Below w.heap.size w w') : SameAns l m w (.returned (.bool true)) w' := ⟨true, rfl, ⟨fun _ => h, fun _ => rfl⟩, hb⟩
theorem take_same {l m : List Z.V} {k : Nat} {x y : Z.V} (h : l.take k = m.take k) (hx : l[k]? = some x) (hy : m[k]? = some y) (e : x = y) : l.take (k + 1) = m.take (k + 1) := by
  obtain ⟨h1, h2⟩ := List.getElem?_eq_some_iff.1 hx
  obtain ⟨h3, h4⟩ := List.getElem?_eq_some_iff.1 hy
  rw [List.take_succ_eq_append_getElem h1, List.take_succ_eq_append_getElem h3, h, h2, h4, e]

set_option maxHeartbeats 1000000 in
theorem vsame_lens (ao bo : Option Addr) (n1 n2 ca cb : Nat) (l m : List Z.V) (w : World) (h1 : l.length = n1) (h2 : m.length = n2) (hne : n1 ≠ n2) :
    Calls Try.prog 19 #[.slice ao n1 ca, .slice bo n2 cb] w (SameAns l m w) := by
  have hb : ((n1 : Int) != (n2 : Int)) = true := by simp; omega
  have HN : Hid (l ≠ m) := fun e => hne (by rw [← h1, ← h2, e])
  clear h1 h2 hne
  go_enter Try.func19, Try.ntmps19
  go_wp2
  go_ret
  exact SameAns.no HN.out (Below.refl _ _)
set_option maxHeartbeats 1000000 in
theorem vsame_two (b1 o1 b2 o2 len ca cb : Nat) (l m : List Z.V) (w : World) (hl : l.length = len) (hl2 : m.length = len) (hm : len ≤ 140737488355328) (h1 : b1 < w.heap.size) (h2 : b2 < w.heap.size)
    (hc1 : ∀ j x, l[j]? = some x → w.cell? ⟨b1, o1 + j * 3, none⟩ = some (.int .i64 x.k) ∧ w.cell? ⟨b1, o1 + j * 3 + 1, none⟩ = some (.int .i64 x.i) ∧ w.cell? ⟨b1, o1 + j * 3 + 2, none⟩ = some (.string x.s))
    (hc2 : ∀ j x, m[j]? = some x → w.cell? ⟨b2, o2 + j * 3, none⟩ = some (.int .i64 x.k) ∧ w.cell? ⟨b2, o2 + j * 3 + 1, none⟩ = some (.int .i64 x.i) ∧ w.cell? ⟨b2, o2 + j * 3 + 2, none⟩ = some (.string x.s)) :
    Calls Try.prog 19 #[.slice (some ⟨b1, o1, none⟩) len ca, .slice (some ⟨b2, o2, none⟩) len cb] w (SameAns l m w) := by
  have hb : ((len : Int) != (len : Int)) = false := by simp
  have HC1 := hide hc1
  have HC2 := hide hc2
  have HL := hide hl
  have HM := hide hl2
  clear hc1 hc2 hl hl2
  go_enter Try.func19, Try.ntmps19
  go_wp2_with fail
  go_loopw [5] (fun i wr => ∃ k : Nat, k ≤ len ∧ i = .int .i64 k ∧ Hid (l.take k = m.take k) ∧ Hid (Below w.heap.size w wr)) (fun i _ => len - (intOf i).toNat)
  case atStart => exact ⟨0, Nat.zero_le _, rfl, hide rfl, hide (Below.refl _ _)⟩
  case round =>
    obtain ⟨k, hk, rfl, hsm, hkr⟩ := hrel
    by_cases hlt : k < len
    · obtain ⟨⟨xk, xi, xs⟩, hx⟩ : ∃ x, l[k]? = some x := ⟨l[k]'(by rw [HL.out]; exact hlt), List.getElem?_eq_getElem _⟩
      obtain ⟨⟨yk, yi, ys⟩, hy⟩ : ∃ x, m[k]? = some x := ⟨m[k]'(by rw [HM.out]; exact hlt), List.getElem?_eq_getElem _⟩
      obtain ⟨c1, c2, c3⟩ := HC1.out k _ hx
      obtain ⟨d1, d2, d3⟩ := HC2.out k _ hy
      have e1 : wr.cell? ⟨b1, o1 + k * 3, none⟩ = some (.int .i64 xk) := by rw [hkr.out.cell (p := ⟨b1, o1 + k * 3, none⟩) h1]; exact c1
      have e2 : wr.cell? ⟨b1, o1 + k * 3 + 1, none⟩ = some (.int .i64 xi) := by rw [hkr.out.cell (p := ⟨b1, o1 + k * 3 + 1, none⟩) h1]; exact c2
      have e3 : wr.cell? ⟨b1, o1 + k * 3 + 2, none⟩ = some (.string xs) := by rw [hkr.out.cell (p := ⟨b1, o1 + k * 3 + 2, none⟩) h1]; exact c3
      have g1 : wr.cell? ⟨b2, o2 + k * 3, none⟩ = some (.int .i64 yk) := by rw [hkr.out.cell (p := ⟨b2, o2 + k * 3, none⟩) h2]; exact d1
      have g2 : wr.cell? ⟨b2, o2 + k * 3 + 1, none⟩ = some (.int .i64 yi) := by rw [hkr.out.cell (p := ⟨b2, o2 + k * 3 + 1, none⟩) h2]; exact d2
      have g3 : wr.cell? ⟨b2, o2 + k * 3 + 2, none⟩ = some (.string ys) := by rw [hkr.out.cell (p := ⟨b2, o2 + k * 3 + 2, none⟩) h2]; exact d3
      have hv := fun w => vne_run xk xi xs yk yi ys w
      obtain ⟨z, hz⟩ : ∃ z, Z.same ⟨xk, xi, xs⟩ ⟨yk, yi, ys⟩ = z := ⟨_, rfl⟩
      have HZ := hide hz
      rw [hz] at hv
      have HX := hide hx
      have HY := hide hy
      have hki : (k : Int) < (len : Int) := by omega
      clear c1 c2 c3 d1 d2 d3 hx hy hz
      cases z with
      | true =>
        go_wp2_with fail
        go_quiet (fail)
        have HB := hide (below_drewN hkr.out nq)
        have HS : Hid (l.take (k + 1) = m.take (k + 1)) := take_same hsm.out HX.out HY.out ((Z.same_iff _ _).1 HZ.out)
        go_wp2
        go_roundw
        case rel => exact ⟨k + 1, by omega, by go_num, HS, HB⟩
        case measure => simp [intOf]; omega
      | false =>
        have HN : Hid (l ≠ m) := fun e => by
          have h3 := HX.out
          rw [e, HY.out] at h3
          have h4 := HZ.out
          rw [Option.some.inj h3, Z.same_self] at h4
          exact absurd h4 (by decide)
        go_wp2_with fail
        go_quiet (fail)
        have HB := hide (below_drewN hkr.out nq)
        go_wp2
        go_ret
        exact SameAns.no HN.out HB.out
    · obtain rfl : k = len := by omega
      have HE : Hid (l = m) := by
        have h3 := hsm.out
        rw [List.take_of_length_le (by rw [HL.out]; exact Nat.le_refl _), List.take_of_length_le (by rw [HM.out]; exact Nat.le_refl _)] at h3
        exact h3
      go_wp2
      go_ret
      exact SameAns.yes HE.out hkr.out
theorem vsame_any (ao bo : Option Addr) (n1 n2 ca cb : Nat) (l m : List Z.V) (w : World) (h1 : SlV w ao n1 ca l) (h2 : SlV w bo n2 cb m) (hm : n1 ≤ 140737488355328) :
    Calls Try.prog 19 #[.slice ao n1 ca, .slice bo n2 cb] w (SameAns l m w) := by
  by_cases hn : n1 = n2
  · subst hn
    by_cases h0 : n1 = 0
    · subst h0
      obtain rfl : l = [] := List.eq_nil_of_length_eq_zero h1.1
      obtain rfl : m = [] := List.eq_nil_of_length_eq_zero h2.1
      refine (vsame_none ao bo ca cb w).mono ?_
      rintro e w' ⟨rfl, hb⟩
      exact SameAns.yes rfl hb
    · rcases h1.2.2.2.2 with h | ⟨b1, o1, rfl, hb1, hc1⟩
      · omega
      · rcases h2.2.2.2.2 with h | ⟨b2, o2, rfl, hb2, hc2⟩
        · omega
        · exact vsame_two b1 o1 b2 o2 n1 ca cb l m w h1.1 h2.1 hm hb1 hb2 hc1 hc2
  · exact vsame_lens ao bo n1 n2 ca cb l m w h1.1 h2.1 hn
end Go.Proofs.Ytkcpfgjkplailaa

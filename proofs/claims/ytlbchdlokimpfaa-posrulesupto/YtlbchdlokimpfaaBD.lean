/- Whether a number is in spans, and how many are below it. -/
import Derived.Test.YtlbchdlokimpfaaBC
namespace Go.Proofs.Ytlbchdlokimpfaa
set_option linter.unusedVariables false
set_option maxRecDepth 10000
open Go.RowKit

/-- Which side of a number a span lies on. -/
def Z.sd (a b at' : Nat) : Int := if b ≤ at' then -1 else if at' < a then 1 else 0
theorem side_any (a b at' : Nat) (w : World) : Calls Try.prog 74 #[.agg #[.int .i64 (a : Int), .int .i64 (b : Int)], .int .i64 (at' : Int)] w fun e w' => e = .returned (.int .i64 (Z.sd a b at')) ∧ Below w.heap.size w w' := by
  unfold Z.sd
  have hb0 := below_one w (.cells #[.int .i64 (a : Int), .int .i64 (b : Int)] 86)
  by_cases h1 : b ≤ at'
  · have h2 : (b : Int) ≤ (at' : Int) := by omega
    rw [if_pos h1]
    go_enter Try.func74, Try.ntmps74
    go_wp2
    go_ret
    exact ⟨rfl, hb0⟩
  · have h2 : ¬ ((b : Int) ≤ (at' : Int)) := by omega
    rw [if_neg h1]
    by_cases h3 : at' < a
    · have h4 : (at' : Int) < (a : Int) := by omega
      rw [if_pos h3]
      go_enter Try.func74, Try.ntmps74
      go_wp2
      go_ret
      exact ⟨rfl, hb0⟩
    · have h4 : ¬ ((at' : Int) < (a : Int)) := by omega
      rw [if_neg h3]
      go_enter Try.func74, Try.ntmps74
      go_wp2
      go_ret
      exact ⟨rfl, hb0⟩
/-- Where a search among spans ends. -/
structure FndS (r : List (Nat × Nat)) (at' i : Nat) (f : Bool) : Prop where
  le : i ≤ r.length
  lo : ∀ t, t < i → (r.getD t (0, 0)).2 ≤ at'
  hi : ∀ t, i ≤ t → t < r.length → at' < (r.getD t (0, 0)).2
  is : f = (decide (i < r.length) && decide ((r.getD i (0, 0)).1 ≤ at'))
theorem SlP.get {w w' : World} {ao : Option Addr} {len cap : Nat} {r : List (Nat × Nat)} (h : SlP w ao len cap r) (hb : Below w.heap.size w w') {t : Nat} (ht : t < len) : ∃ b off, ao = some ⟨b, off, none⟩ ∧ w'.cell? ⟨b, off + t * 2, none⟩ = some (.int .i64 ((r.getD t (0, 0)).1 : Int)) ∧ w'.cell? ⟨b, off + t * 2 + 1, none⟩ = some (.int .i64 ((r.getD t (0, 0)).2 : Int)) := by
  rcases (h.below hb).2.2.2.2 with h5 | ⟨b, off, h1, h2, h3⟩
  · omega
  · refine ⟨b, off, h1, h3 t _ ?_⟩
    have : t < r.length := by have := h.1; omega
    simp [List.getD, this]
theorem spans_at {r : List (Nat × Nat)} (h : Z.Spans r) {i j : Nat} (hij : i < j) (hj : j < r.length) : (r.getD i (0, 0)).2 < (r.getD j (0, 0)).2 := by
  have h1 := (List.pairwise_iff_getElem.1 h.2) i j (by omega) hj hij
  have h2 := h.1 (r[j]) (List.getElem_mem hj)
  simp only [List.getD_eq_getElem?_getD, List.getElem?_eq_getElem hj, List.getElem?_eq_getElem (show i < r.length by omega), Option.getD_some]
  omega
set_option maxHeartbeats 2000000 in
theorem binf_any (ao : Option Addr) (len cap : Nat) (r : List (Nat × Nat)) (at' : Nat) (w : World) (h : SlP w ao len cap r) (hr : Z.Spans r) (hm : len ≤ 16777216) :
    Calls Try.prog 73 #[.slice ao len cap, .int .i64 (at' : Int), .func (.func 74) #[] #[]] w fun e w' => ∃ (i : Nat) (f : Bool), e = .returned (.tuple #[.int .i64 i, .bool f]) ∧ FndS r at' i f ∧ Below w.heap.size w w' := by
  have hl : r.length = len := h.1
  have GET : Hid (∀ wr, Below w.heap.size w wr → ∀ t, t < len → ∃ b off, ao = some ⟨b, off, none⟩ ∧ wr.cell? ⟨b, off + t * 2, none⟩ = some (.int .i64 ((r.getD t (0, 0)).1 : Int)) ∧ wr.cell? ⟨b, off + t * 2 + 1, none⟩ = some (.int .i64 ((r.getD t (0, 0)).2 : Int))) := fun wr hb t ht => h.get hb ht
  have RISE : Hid (∀ i j, i < j → j < len → (r.getD i (0, 0)).2 < (r.getD j (0, 0)).2) := fun i j h1 h2 => spans_at hr h1 (by omega)
  have LESS : Hid (∀ i, i < len → (r.getD i (0, 0)).1 < (r.getD i (0, 0)).2) := fun i hi => by
    have := hr.1 (r[i]'(by omega)) (List.getElem_mem _)
    simp only [List.getD_eq_getElem?_getD, List.getElem?_eq_getElem (show i < r.length by omega), Option.getD_some]
    exact this
  have HL := hide hl
  clear hr h hl
  go_enter Try.func73, Try.ntmps73
  go_wp2_with fail
  go_loopw [9, 10] (fun a b wr => ∃ i j : Nat, i ≤ j ∧ j ≤ len ∧ a = .int .i64 i ∧ b = .int .i64 j ∧ Hid (∀ t, t < i → (r.getD t (0, 0)).2 ≤ at') ∧ Hid (∀ t, j ≤ t → t < len → at' < (r.getD t (0, 0)).2) ∧ Hid (Below w.heap.size w wr)) (fun a b _ => (intOf b).toNat - (intOf a).toNat)
  case atStart => exact ⟨0, len, Nat.zero_le _, Nat.le_refl _, rfl, rfl, hide (fun t ht => by omega), hide (fun t h1 h2 => by omega), hide (Below.refl _ _)⟩
  case round =>
    obtain ⟨i, j, hij, hjn, rfl, rfl, A1, A2, HB⟩ := hrel
    by_cases hlt : i < j
    · obtain ⟨h, hh1, hh2⟩ : ∃ h, 2 * h ≤ i + j ∧ i + j ≤ 2 * h + 1 := ⟨(i + j) / 2, by omega, by omega⟩
      have zh : ((i : Int) + (j : Int)) / 2 = (h : Int) := by omega
      have rij : IntKind.i64.wrap ((i : Int) + (j : Int)) = (i : Int) + (j : Int) := by rw [IntKind.wrap_i64]; omega
      have hih : i ≤ h := by omega
      have hhj : h < j := by omega
      have hhn : (h : Int) < (len : Int) := by omega
      have hhp : (0 : Int) ≤ (h : Int) := by omega
      have hht : ((h : Int)).toNat = h := by omega
      have rh : IntKind.i64.wrap (h : Int) = (h : Int) := by rw [IntKind.wrap_i64]; omega
      obtain ⟨b, off, rfl, hc1, hc2⟩ := GET.out wr HB.out h (by omega)
      have hls := LESS.out h (by omega)
      obtain ⟨x, hx⟩ : ∃ x, (r.getD h (0, 0)).1 = x := ⟨_, rfl⟩
      obtain ⟨y, hy⟩ : ∃ y, (r.getD h (0, 0)).2 = y := ⟨_, rfl⟩
      rw [hx] at hc1
      rw [hy] at hc2
      rw [hx, hy] at hls
      have HX := hide hx
      have HY := hide hy
      clear hx hy
      have hsd : Z.sd x y at' < 0 ↔ y ≤ at' := by unfold Z.sd; split <;> (try split) <;> omega
      have HSD := hide hsd
      clear hsd hls
      go_wp2_with fail
      refine (side_any _ _ _ _).mono ?_
      rintro e w1 ⟨rfl, hb1⟩
      have HB2 := hide (HB.out.trans (hb1.mono HB.out.size))
      clear hb1 hc1 hc2 HB
      obtain ⟨s, hs⟩ : ∃ s, Z.sd x y at' = s := ⟨_, rfl⟩
      rw [hs] at HSD ⊢
      clear hs
      by_cases hcn : s < 0
      · have B1 : Hid (∀ t, t < h + 1 → (r.getD t (0, 0)).2 ≤ at') := fun t ht => by
          have h1 := HSD.out.1 hcn
          by_cases e : t = h
          · subst e; rw [HY.out]; exact h1
          · have := RISE.out t h (by omega) (by omega); rw [HY.out] at this; omega
        clear HX HY A1 HSD
        go_wp2
        go_round
        · exact ⟨h + 1, j, by omega, hjn, by go_num, rfl, B1, A2, HB2⟩
        · simp [intOf]; omega
      · have B2 : Hid (∀ t, h ≤ t → t < len → at' < (r.getD t (0, 0)).2) := fun t h1 h2 => by
          have h3 : ¬ y ≤ at' := fun e => hcn (HSD.out.2 e)
          by_cases e : t = h
          · subst e; rw [HY.out]; omega
          · have := RISE.out h t (by omega) (by omega); rw [HY.out] at this; omega
        clear HX HY A2 HSD
        go_wp2
        go_round
        · exact ⟨i, h, hih, by omega, rfl, rfl, A1, B2, HB2⟩
        · simp [intOf]; omega
    · obtain rfl : i = j := by omega
      by_cases hin : i < len
      · obtain ⟨b, off, rfl, hc1, hc2⟩ := GET.out wr HB.out i hin
        have hii : (i : Int) < (len : Int) := by omega
        obtain ⟨x, hx⟩ : ∃ x, (r.getD i (0, 0)).1 = x := ⟨_, rfl⟩
        obtain ⟨y, hy⟩ : ∃ y, (r.getD i (0, 0)).2 = y := ⟨_, rfl⟩
        have hay : at' < y := by rw [← hy]; exact A2.out i (Nat.le_refl _) hin
        rw [hx] at hc1
        rw [hy] at hc2
        have hsd : (Z.sd x y at' == 0) = decide (x ≤ at') := by
          unfold Z.sd
          rw [if_neg (by omega)]
          by_cases h : at' < x
          · rw [if_pos h]; simp; omega
          · rw [if_neg h]; simp; omega
        have FD : Hid (FndS r at' i (Z.sd x y at' == 0)) := ⟨by rw [HL.out]; exact hjn, A1.out, fun t h1 h2 => A2.out t h1 (by rw [← HL.out]; exact h2), by rw [hx, HL.out, hsd]; simp [hin]⟩
        clear hx hy A1 A2 hsd hay
        go_wp2_with fail
        refine (side_any _ _ _ _).mono ?_
        rintro e w1 ⟨rfl, hb1⟩
        have HB2 := hide (HB.out.trans (hb1.mono HB.out.size))
        clear hb1 hc1 hc2 HB
        go_wp2_with fail
        go_ret2
        exact ⟨i, _, rfl, FD.out, HB2.out⟩
      · have FD : Hid (FndS r at' i false) := ⟨by rw [HL.out]; exact hjn, A1.out, fun t h1 h2 => A2.out t h1 (by rw [← HL.out]; exact h2), by rw [HL.out]; simp [hin]⟩
        have hii : ¬ ((i : Int) < (len : Int)) := by omega
        clear A1 A2
        go_wp2_with fail
        go_ret2
        exact ⟨i, .inl ⟨rfl, FD.out, HB.out⟩⟩
end Go.Proofs.Ytlbchdlokimpfaa

/- slices.BinarySearch among numbers that rise. -/
import Derived.Test.YtlbchdlokimpfaaBA
namespace Go.Proofs.Ytlbchdlokimpfaa
set_option linter.unusedVariables false
set_option maxRecDepth 10000
open Go.RowKit

theorem snan_any (x : Int) (w : World) : Calls Try.prog 90 #[.int .i64 x] w fun e w' => e = .returned (.bool false) ∧ w' = w := by
  go_enter Try.func90, Try.ntmps90
  go_wp2
  go_ret
  simp
theorem cnan_any (x : Int) (w : World) : Calls Try.prog 92 #[.int .i64 x] w fun e w' => e = .returned (.bool false) ∧ w' = w := by
  go_enter Try.func92, Try.ntmps92
  go_wp2
  go_ret
  simp
theorem less_any (x y : Int) (w : World) : Calls Try.prog 89 #[.int .i64 x, .int .i64 y] w fun e w' => e = .returned (.bool (decide (x < y))) ∧ w' = w := by
  go_enter Try.func89, Try.ntmps89
  go_wp2_with fail
  refine (cnan_any _ _).mono ?_
  rintro e w1 ⟨rfl, rfl⟩
  go_wp2
  go_ret
  exact ⟨rfl, rfl⟩
/-- Where a search ends: all ahead are below, none from there on. -/
structure Fnd (l : List Nat) (at' i : Nat) (f : Bool) : Prop where
  le : i ≤ l.length
  lo : ∀ t, t < i → l.getD t 0 < at'
  hi : ∀ t, i ≤ t → t < l.length → at' ≤ l.getD t 0
  is : f = (decide (i < l.length) && (l.getD i 0 == at'))
theorem is_at (l : List Nat) (t : Nat) (h : t < l.length) : (Z.is l).getD t 0 = ((l.getD t 0 : Nat) : Int) := by simp [Z.is, List.getD, h]
theorem Sl.get {w : World} {ao : Option Addr} {len cap : Nat} {l : List Nat} (h : Sl w .i64 ao len cap (Z.is l)) {t : Nat} (ht : t < len) : ∃ b off, ao = some ⟨b, off, none⟩ ∧ w.cell? ⟨b, off + t, none⟩ = some (.int .i64 ((l.getD t 0 : Nat) : Int)) := by
  rcases h.2.2.2.2 with h5 | ⟨b, off, h1, h2, h3⟩
  · omega
  · refine ⟨b, off, h1, ?_⟩
    rw [h3 t ht, is_at l t (by have := h.1; simp [Z.is] at this; omega)]
theorem rise_at {l : List Nat} (h : l.Pairwise fun a b => a < b) {i j : Nat} (hij : i < j) (hj : j < l.length) : l.getD i 0 < l.getD j 0 := by
  have := (List.pairwise_iff_getElem.1 h) i j (by omega) hj hij
  simp [List.getD, hj, show i < l.length by omega]
  exact this
set_option maxHeartbeats 2000000 in
theorem binl_any (ao : Option Addr) (len cap : Nat) (l : List Nat) (at' : Nat) (w : World) (h : Sl w .i64 ao len cap (Z.is l)) (hr : l.Pairwise fun a b => a < b) (hm : len ≤ 16777216) :
    Calls Try.prog 87 #[.slice ao len cap, .int .i64 (at' : Int)] w fun e w' => ∃ (i : Nat) (f : Bool), e = .returned (.tuple #[.int .i64 i, .bool f]) ∧ Fnd l at' i f ∧ w' = w := by
  have hl : l.length = len := by have := h.1; simpa [Z.is] using this
  have GET : Hid (∀ t, t < len → ∃ b off, ao = some ⟨b, off, none⟩ ∧ w.cell? ⟨b, off + t, none⟩ = some (.int .i64 ((l.getD t 0 : Nat) : Int))) := fun t ht => h.get ht
  have RISE : Hid (∀ i j, i < j → j < len → l.getD i 0 < l.getD j 0) := fun i j h1 h2 => rise_at hr h1 (by omega)
  have HL := hide hl
  clear hr h hl
  go_enter Try.func87, Try.ntmps87
  go_wp2_with fail
  go_loopw [7, 8] (fun a b wr => ∃ i j : Nat, i ≤ j ∧ j ≤ len ∧ a = .int .i64 i ∧ b = .int .i64 j ∧ Hid (∀ t, t < i → l.getD t 0 < at') ∧ Hid (∀ t, j ≤ t → t < len → at' ≤ l.getD t 0) ∧ wr = w) (fun a b _ => (intOf b).toNat - (intOf a).toNat)
  case atStart => exact ⟨0, len, Nat.zero_le _, Nat.le_refl _, rfl, rfl, hide (fun t ht => by omega), hide (fun t h1 h2 => by omega), rfl⟩
  case round =>
    obtain ⟨i, j, hij, hjn, rfl, rfl, A1, A2, rfl⟩ := hrel
    by_cases hlt : i < j
    · obtain ⟨h, hh1, hh2⟩ : ∃ h, 2 * h ≤ i + j ∧ i + j ≤ 2 * h + 1 := ⟨(i + j) / 2, by omega, by omega⟩
      have zh : ((i : Int) + (j : Int)) / 2 = (h : Int) := by omega
      have rij : IntKind.i64.wrap ((i : Int) + (j : Int)) = (i : Int) + (j : Int) := by rw [IntKind.wrap_i64]; omega
      have hih : i ≤ h := by omega
      have hhj : h < j := by omega
      have hhn : (h : Int) < (len : Int) := by omega
      have hhp : (0 : Int) ≤ (h : Int) := by omega
      have hht : ((h : Int)).toNat = h := by omega
      have rh : IntKind.i64.wrap (h : Int) = (h : Int) := by rw [IntKind.wrap_i64]; omega
      obtain ⟨b, off, rfl, hc⟩ := GET.out h (by omega)
      obtain ⟨x, hx⟩ : ∃ x, l.getD h 0 = x := ⟨_, rfl⟩
      rw [hx] at hc
      have HX := hide hx
      clear hx
      go_wp2_with fail
      refine (less_any _ _ _).mono ?_
      rintro e w1 ⟨rfl, rfl⟩
      by_cases hcn : x < at'
      · have hcd : decide ((x : Int) < (at' : Int)) = true := decide_eq_true (by omega)
        rw [hcd]
        have B1 : Hid (∀ t, t < h + 1 → l.getD t 0 < at') := fun t ht => by
          by_cases e : t = h
          · subst e; rw [HX.out]; exact hcn
          · have := RISE.out t h (by omega) (by omega); rw [HX.out] at this; omega
        clear hc HX A1 hcd
        go_wp2
        go_round
        · exact ⟨h + 1, j, by omega, hjn, by go_num, rfl, B1, A2, trivial⟩
        · simp [intOf]; omega
      · have hcd : decide ((x : Int) < (at' : Int)) = false := decide_eq_false (by omega)
        rw [hcd]
        have B2 : Hid (∀ t, h ≤ t → t < len → at' ≤ l.getD t 0) := fun t h1 h2 => by
          by_cases e : t = h
          · subst e; rw [HX.out]; omega
          · have := RISE.out h t (by omega) (by omega); rw [HX.out] at this; omega
        clear hc HX A2 hcd
        go_wp2
        go_round
        · exact ⟨i, h, hih, by omega, rfl, rfl, A1, B2, trivial⟩
        · simp [intOf]; omega
    · obtain rfl : i = j := by omega
      by_cases hin : i < len
      · obtain ⟨b, off, rfl, hc⟩ := GET.out i hin
        obtain ⟨x, hx⟩ : ∃ x, l.getD i 0 = x := ⟨_, rfl⟩
        rw [hx] at hc
        have FD : Hid (Fnd l at' i (x == at')) := ⟨by rw [HL.out]; exact hjn, A1.out, fun t h1 h2 => A2.out t h1 (by rw [← HL.out]; exact h2), by rw [hx, HL.out]; simp [hin]⟩
        have hii : (i : Int) < (len : Int) := by omega
        clear hx A1 A2
        by_cases hxa : x = at'
        · have hxe : ((x : Int) == (at' : Int)) = true := by simp [hxa]
          have FD2 : Hid (Fnd l at' i true) := by have := FD.out; rwa [show (x == at') = true by simp [hxa]] at this
          clear FD
          go_wp2_with fail
          go_ret2
          exact ⟨i, _, rfl, FD2.out, rfl⟩
        · have hxe : ((x : Int) == (at' : Int)) = false := by simp; omega
          have FD2 : Hid (Fnd l at' i false) := by have := FD.out; rwa [show (x == at') = false by simp [hxa]] at this
          clear FD
          go_wp2_with fail
          refine (snan_any _ _).mono ?_
          rintro e w1 ⟨rfl, rfl⟩
          go_wp2_with fail
          go_ret2
          exact ⟨i, _, rfl, FD2.out, rfl⟩
      · have FD : Hid (Fnd l at' i false) := ⟨by rw [HL.out]; exact hjn, A1.out, fun t h1 h2 => A2.out t h1 (by rw [← HL.out]; exact h2), by rw [HL.out]; simp [hin]⟩
        have hii : ¬ ((i : Int) < (len : Int)) := by omega
        clear A1 A2
        go_wp2_with fail
        go_ret2
        exact ⟨i, .inl ⟨rfl, FD.out, rfl⟩⟩

/-- How many numbers of a set lie below one, and whether it is one, by where the search ends. -/
theorem fnd_below {bs : List Bool} {at' i : Nat} {f : Bool} (h : Fnd (Z.ls bs) at' i f) (ha : at' ≤ bs.length) : i = (Z.ps bs at').length := by
  have hr := ps_rise bs bs.length
  have e : (Z.ls bs).filter (fun x => decide (x < at')) = Z.ps bs at' := ps_below bs bs.length at' ha
  have h1 : (Z.ls bs).filter (fun x => decide (x < at')) = (Z.ls bs).take i := by
    have hd : (Z.ls bs) = (Z.ls bs).take i ++ (Z.ls bs).drop i := (List.take_append_drop i _).symm
    rw [hd, List.filter_append]
    have e1 : ((Z.ls bs).take i).filter (fun x => decide (x < at')) = (Z.ls bs).take i := by
      rw [List.filter_eq_self]
      intro x hx
      obtain ⟨t, ht, rfl⟩ := List.getElem_of_mem hx
      have ht1 : t < i := by simp at ht; omega
      have ht2 : t < (Z.ls bs).length := by simp at ht; omega
      have := h.lo t ht1
      simp [List.getD, ht2] at this
      simp [this]
    have e2 : ((Z.ls bs).drop i).filter (fun x => decide (x < at')) = [] := by
      rw [List.filter_eq_nil_iff]
      intro x hx
      obtain ⟨t, ht, rfl⟩ := List.getElem_of_mem hx
      have ht2 : i + t < (Z.ls bs).length := by simp at ht; omega
      have := h.hi (i + t) (by omega) ht2
      simp [List.getD, ht2] at this
      simp; omega
    rw [e1, e2, ← hd, List.append_nil]
  rw [← e, h1, List.length_take, Nat.min_eq_left h.le]
theorem fnd_is {bs : List Bool} {at' i : Nat} {f : Bool} (h : Fnd (Z.ls bs) at' i f) (ha : at' < bs.length) : f = bs.getD at' false := by
  rw [h.is]
  have hm := ps_mem bs bs.length at'
  cases hb : bs.getD at' false with
  | true =>
    have : at' ∈ Z.ls bs := hm.2 ⟨ha, hb⟩
    obtain ⟨t, ht, he⟩ := List.getElem_of_mem this
    have hge : i ≤ t := by
      refine Nat.le_of_not_lt fun hlt => ?_
      have := h.lo t hlt
      simp [List.getD, ht] at this
      omega
    have hti : t = i := by
      refine Nat.le_antisymm (Nat.le_of_not_lt fun hlt => ?_) hge
      have h1 := h.hi i (Nat.le_refl _) (by omega)
      have h2 := rise_at (ps_rise bs bs.length) hlt ht
      have h3 : (Z.ps bs bs.length).getD t 0 = at' := by rw [List.getD_eq_getElem?_getD, show (Z.ps bs bs.length)[t]? = some at' from by rw [← he]; exact List.getElem?_eq_getElem ht]; rfl
      have h4 : (Z.ps bs bs.length).getD i 0 = (Z.ls bs).getD i 0 := rfl
      omega
    subst hti
    simp [ht, List.getD, he]
  | false =>
    cases hi : decide (i < (Z.ls bs).length) with
    | false => rfl
    | true =>
      have hi2 := of_decide_eq_true hi
      cases hq : (Z.ls bs).getD i 0 == at' with
      | false => rfl
      | true =>
        have h2 : (Z.ls bs).getD i 0 = at' := by simpa using hq
        have h3 : at' ∈ Z.ls bs := by rw [← h2, List.getD_eq_getElem?_getD, List.getElem?_eq_getElem hi2]; exact List.getElem_mem hi2
        have h4 := (hm.1 h3).2
        rw [hb] at h4
        cases h4
theorem lihas_any (ao : Option Addr) (len cap : Nat) (bs : List Bool) (at' : Nat) (w : World) (h : Sl w .i64 ao len cap (Z.is (Z.ls bs))) (hn : bs.length ≤ 4096) (ha : at' < bs.length) :
    Calls Try.prog 84 #[.slice ao len cap, .int .i64 (at' : Int)] w fun e w' => e = .returned (.bool (bs.getD at' false)) ∧ w' = w := by
  have hl : (Z.ls bs).length = len := by have := h.1; simpa [Z.is] using this
  have hl2 := ls_len bs
  have H := hide (binl_any ao len cap (Z.ls bs) at' w h (ps_rise bs bs.length) (by omega))
  have HA := hide ha
  clear h hl hl2 ha hn
  go_enter Try.func84, Try.ntmps84
  go_wp2_with fail
  refine H.out.mono ?_
  rintro e w1 ⟨i, f, rfl, hf, rfl⟩
  have HF := hide (fnd_is hf HA.out)
  clear hf
  go_wp2
  go_ret
  exact ⟨by rw [HF.out]; rfl, rfl⟩
theorem libelow_any (ao : Option Addr) (len cap : Nat) (bs : List Bool) (at' : Nat) (w : World) (h : Sl w .i64 ao len cap (Z.is (Z.ls bs))) (hn : bs.length ≤ 4096) (ha : at' ≤ bs.length) :
    Calls Try.prog 83 #[.slice ao len cap, .int .i64 (at' : Int)] w fun e w' => e = .returned (.int .i64 ((Z.ps bs at').length : Int)) ∧ w' = w := by
  have hl : (Z.ls bs).length = len := by have := h.1; simpa [Z.is] using this
  have hl2 := ls_len bs
  have H := hide (binl_any ao len cap (Z.ls bs) at' w h (ps_rise bs bs.length) (by omega))
  have HA := hide ha
  clear h hl hl2 ha hn
  go_enter Try.func83, Try.ntmps83
  go_wp2_with fail
  refine H.out.mono ?_
  rintro e w1 ⟨i, f, rfl, hf, rfl⟩
  have HF := hide (fnd_below hf HA.out)
  clear hf
  go_wp2
  go_ret
  exact ⟨by rw [← HF.out]; rfl, rfl⟩
end Go.Proofs.Ytlbchdlokimpfaa

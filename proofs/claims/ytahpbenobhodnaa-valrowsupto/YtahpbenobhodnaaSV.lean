/- Rows of values: which of two is ahead; in memory; the contracts of slices.CompareFunc at values, and of val's Rows. -/
import Derived.Test.YtahpbenobhodnaaZ5
import Derived.Handy
namespace Go.Proofs.Ytahpbenobhodnaa
set_option linter.unusedVariables false
open Go.RowKit

/-- Which of two rows is ahead. -/
def Z.cr : List Z.V → List Z.V → Int
  | [], [] => 0
  | [], _ :: _ => -1
  | _ :: _, [] => 1
  | x :: a, y :: b => if Z.cv x y = 0 then Z.cr a b else Z.cv x y
theorem cr_step (x y : Z.V) (a b : List Z.V) : Z.cr (x :: a) (y :: b) = if Z.cv x y = 0 then Z.cr a b else Z.cv x y := rfl
theorem cr_self : ∀ a : List Z.V, Z.cr a a = 0
  | [] => rfl
  | x :: a => by rw [cr_step, Z.cv_refl, if_pos rfl, cr_self a]
theorem cr_more (v : Z.V) : ∀ a : List Z.V, Z.cr a (a ++ [v]) = -1
  | [] => rfl
  | x :: a => by rw [List.cons_append, cr_step, Z.cv_refl, if_pos rfl, cr_more v a]
theorem cr_less (v : Z.V) : ∀ a : List Z.V, Z.cr (a ++ [v]) a = 1
  | [] => rfl
  | x :: a => by rw [List.cons_append, cr_step, Z.cv_refl, if_pos rfl, cr_less v a]
theorem cr_first (v u : Z.V) (b : List Z.V) (h : Z.cv v u ≠ 0) : ∀ a : List Z.V, Z.cr (a ++ v :: b) (a ++ [u]) = Z.cv v u
  | [] => by rw [List.nil_append, List.nil_append, cr_step, if_neg h]
  | x :: a => by rw [List.cons_append, List.cons_append, cr_step, Z.cv_refl, if_pos rfl, cr_first v u b h a]
theorem cr_anti : ∀ a b : List Z.V, Z.cr a b = -Z.cr b a
  | [], [] => rfl
  | [], _ :: _ => rfl
  | _ :: _, [] => rfl
  | x :: a, y :: b => by
    have h := (Z.cv_ord x y x).1
    rw [cr_step, cr_step]
    by_cases h0 : Z.cv x y = 0
    · rw [if_pos h0, if_pos (by omega), cr_anti a b]
    · rw [if_neg h0, if_neg (by omega)]; omega
theorem cr_range : ∀ a b : List Z.V, Z.cr a b = -1 ∨ Z.cr a b = 0 ∨ Z.cr a b = 1
  | [], [] => .inr (.inl rfl)
  | [], _ :: _ => .inl rfl
  | _ :: _, [] => .inr (.inr rfl)
  | x :: a, y :: b => by
    rw [cr_step]
    split
    · exact cr_range a b
    · exact Z.cv_range x y
theorem cr_drop (l m : List Z.V) (j : Nat) (x y : Z.V) (hx : l[j]? = some x) (hy : m[j]? = some y) : Z.cr (l.drop j) (m.drop j) = if Z.cv x y = 0 then Z.cr (l.drop (j + 1)) (m.drop (j + 1)) else Z.cv x y := by
  obtain ⟨h1, e1⟩ := List.getElem?_eq_some_iff.1 hx
  obtain ⟨h2, e2⟩ := List.getElem?_eq_some_iff.1 hy
  rw [List.drop_eq_getElem_cons h1, List.drop_eq_getElem_cons h2, e1, e2, cr_step]
theorem cr_end1 (l m : List Z.V) (j : Nat) (x : Z.V) (hx : l[j]? = some x) (hm : m.length ≤ j) : Z.cr (l.drop j) (m.drop j) = 1 := by
  obtain ⟨h1, e1⟩ := List.getElem?_eq_some_iff.1 hx
  rw [List.drop_eq_getElem_cons h1, List.drop_eq_nil_of_le hm]; rfl
theorem cr_end2 (l m : List Z.V) (hm : l.length < m.length) : Z.cr (l.drop l.length) (m.drop l.length) = -1 := by
  rw [List.drop_length, List.drop_eq_getElem_cons hm]; rfl
theorem cr_end3 (l m : List Z.V) (hm : m.length ≤ l.length) : Z.cr (l.drop l.length) (m.drop l.length) = 0 := by
  rw [List.drop_length, List.drop_eq_nil_of_le hm]; rfl

/-- A slice of values that can be read. -/
def SlV (w : World) (ao : Option Addr) (len cap : Nat) (l : List Z.V) : Prop :=
  l.length = len ∧ len ≤ cap ∧ cap ≤ maxLen ∧ (ao = none → cap = 0) ∧ (len = 0 ∨ ∃ b off, ao = some ⟨b, off, none⟩ ∧ b < w.heap.size ∧ ∀ j x, l[j]? = some x → w.cell? ⟨b, off + j * 3, none⟩ = some (.int .i64 x.k) ∧ w.cell? ⟨b, off + j * 3 + 1, none⟩ = some (.int .i64 x.i) ∧ w.cell? ⟨b, off + j * 3 + 2, none⟩ = some (.string x.s))
theorem SlV.below {w w' : World} {ao : Option Addr} {len cap : Nat} {l : List Z.V} (h : SlV w ao len cap l) (hb : Below w.heap.size w w') : SlV w' ao len cap l := by
  obtain ⟨h1, h2, h3, h4, h5⟩ := h
  refine ⟨h1, h2, h3, h4, ?_⟩
  rcases h5 with h5 | ⟨b, off, rfl, hlt, h5⟩
  · exact .inl h5
  · refine .inr ⟨b, off, rfl, by have := hb.size; omega, fun j x hx => ?_⟩
    rw [hb.cell (p := ⟨b, off + j * 3, none⟩) hlt, hb.cell (p := ⟨b, off + j * 3 + 1, none⟩) hlt, hb.cell (p := ⟨b, off + j * 3 + 2, none⟩) hlt]
    exact h5 j x hx
set_option maxHeartbeats 1000000 in
theorem cmpfunc_some (b off len cap : Nat) (l : List Z.V) (bo : Option Addr) (lb cb : Nat) (m : List Z.V) (w : World) (hl : l.length = len) (hm : m.length = lb) (hcap : len ≤ 140737488355328) (hcb : lb ≤ 140737488355328) (hlt : b < w.heap.size)
    (hc : ∀ j x, l[j]? = some x → w.cell? ⟨b, off + j * 3, none⟩ = some (.int .i64 x.k) ∧ w.cell? ⟨b, off + j * 3 + 1, none⟩ = some (.int .i64 x.i) ∧ w.cell? ⟨b, off + j * 3 + 2, none⟩ = some (.string x.s)) (h2 : SlV w bo lb cb m) :
    Calls Try.prog 42 #[.slice (some ⟨b, off, none⟩) len cap, .slice bo lb cb, .func (.func 15) #[] #[]] w fun e w' => e = .returned (.int .i64 (Z.cr l m)) ∧ Below w.heap.size w w' := by
  have HC := hide hc
  have HL := hide hl
  have HM := hide hm
  have H2 := hide h2
  clear hc hl hm h2
  go_enter Try.func42, Try.ntmps42
  go_wp2_with fail
  go_loopw [13] (fun i wr => ∃ j : Nat, j ≤ len ∧ i = .int .i64 j ∧ Hid (Z.cr (l.drop j) (m.drop j) = Z.cr l m) ∧ Hid (Below w.heap.size w wr)) (fun i _ => len - (intOf i).toNat)
  case atStart => exact ⟨0, Nat.zero_le _, rfl, hide rfl, hide (Below.refl _ _)⟩
  case round =>
    obtain ⟨j, hj, rfl, hcr, hbw⟩ := hrel
    by_cases hjl : j < len
    · obtain ⟨⟨xk, xi, xs⟩, hx⟩ : ∃ x, l[j]? = some x := ⟨l[j]'(by rw [HL.out]; exact hjl), List.getElem?_eq_getElem _⟩
      obtain ⟨c1, c2, c3⟩ := HC.out j _ hx
      have d1 : wr.cell? ⟨b, off + j * 3, none⟩ = some (.int .i64 xk) := by rw [hbw.out.cell (p := ⟨b, off + j * 3, none⟩) hlt]; exact c1
      have d2 : wr.cell? ⟨b, off + j * 3 + 1, none⟩ = some (.int .i64 xi) := by rw [hbw.out.cell (p := ⟨b, off + j * 3 + 1, none⟩) hlt]; exact c2
      have d3 : wr.cell? ⟨b, off + j * 3 + 2, none⟩ = some (.string xs) := by rw [hbw.out.cell (p := ⟨b, off + j * 3 + 2, none⟩) hlt]; exact c3
      have HX := hide hx
      clear c1 c2 c3 hx
      by_cases hjm : j < lb
      · obtain ⟨⟨yk, yi, ys⟩, hy⟩ : ∃ y, m[j]? = some y := ⟨m[j]'(by rw [HM.out]; exact hjm), List.getElem?_eq_getElem _⟩
        rcases H2.out.2.2.2.2 with h5 | ⟨b2, off2, rfl, hlt2, h5⟩
        · omega
        obtain ⟨c1, c2, c3⟩ := h5 j _ hy
        have hbe : Below w.heap.size w (wr.alloc (.cells #[.int .i64 xk, .int .i64 xi, .string xs] 23)) := hbw.out.alloc hbw.out.size _
        have e1 : (wr.alloc (.cells #[.int .i64 xk, .int .i64 xi, .string xs] 23)).cell? ⟨b2, off2 + j * 3, none⟩ = some (.int .i64 yk) := by rw [hbe.cell (p := ⟨b2, off2 + j * 3, none⟩) hlt2]; exact c1
        have e2 : (wr.alloc (.cells #[.int .i64 xk, .int .i64 xi, .string xs] 23)).cell? ⟨b2, off2 + j * 3 + 1, none⟩ = some (.int .i64 yi) := by rw [hbe.cell (p := ⟨b2, off2 + j * 3 + 1, none⟩) hlt2]; exact c2
        have e3 : (wr.alloc (.cells #[.int .i64 xk, .int .i64 xi, .string xs] 23)).cell? ⟨b2, off2 + j * 3 + 2, none⟩ = some (.string ys) := by rw [hbe.cell (p := ⟨b2, off2 + j * 3 + 2, none⟩) hlt2]; exact c3
        have HD := hide (cr_drop l m j _ _ HX.out hy)
        clear c1 c2 c3 h5 hy hbe hlt2
        go_wp2_with fail
        refine (vcompare_any _ _ _ _ _ _ _).mono ?_
        rintro e w1 ⟨rfl, hb1⟩
        have hbn : Below w.heap.size w w1 := bthen (bthen hbw.out (below_two wr _ _)) hb1
        have HBN := hide hbn
        clear hb1 hbn d1 d2 d3 e1 e2 e3
        obtain ⟨c, hcv⟩ : ∃ c, Z.cv ⟨xk, xi, xs⟩ ⟨yk, yi, ys⟩ = c := ⟨_, rfl⟩
        rw [hcv] at HD ⊢
        clear hcv
        by_cases h0 : c = 0
        · subst h0
          go_wp2
          go_roundw
          case rel => exact ⟨j + 1, hjl, by go_num, hide (by rw [← hcr.out, HD.out]; simp), HBN⟩
          case measure => simp [intOf]; omega
        · go_wp2
          go_ret
          exact ⟨by rw [← hcr.out, HD.out, if_neg h0]; rfl, HBN.out⟩
      · have HE := hide (cr_end1 l m j _ HX.out (by rw [HM.out]; omega))
        go_wp2
        go_ret
        exact ⟨by rw [← hcr.out, HE.out]; rfl, bthen hbw.out (below_one wr _)⟩
    · obtain rfl : j = len := by omega
      by_cases hlm : j < lb
      · have HE : Hid (Z.cr (l.drop j) (m.drop j) = -1) := by show _ = _; rw [← HL.out]; exact cr_end2 l m (by rw [HL.out, HM.out]; exact hlm)
        go_wp2
        go_ret
        exact ⟨by rw [← hcr.out, HE.out]; rfl, hbw.out⟩
      · have HE : Hid (Z.cr (l.drop j) (m.drop j) = 0) := by show _ = _; rw [← HL.out]; exact cr_end3 l m (by rw [HL.out, HM.out]; omega)
        go_wp2
        go_ret
        exact ⟨by rw [← hcr.out, HE.out]; rfl, hbw.out⟩
theorem cmpfunc_none (ao : Option Addr) (cap : Nat) (bo : Option Addr) (lb cb : Nat) (m : List Z.V) (w : World) (hm : m.length = lb) (hcb : lb ≤ 140737488355328) :
    Calls Try.prog 42 #[.slice ao 0 cap, .slice bo lb cb, .func (.func 15) #[] #[]] w fun e w' => e = .returned (.int .i64 (Z.cr [] m)) ∧ Below w.heap.size w w' := by
  have HE : Hid (Z.cr [] m = if 0 < lb then -1 else 0) := by
    show _ = _
    subst hm
    cases m <;> rfl
  clear hm
  by_cases h0 : 0 < lb
  · go_enter Try.func42, Try.ntmps42
    go_wp2_with fail
    go_rounds 1
    go_ret
    exact ⟨by rw [HE.out, if_pos h0]; rfl, Below.refl _ _⟩
  · go_enter Try.func42, Try.ntmps42
    go_wp2_with fail
    go_rounds 1
    go_ret
    exact ⟨by rw [HE.out, if_neg h0]; rfl, Below.refl _ _⟩
theorem vrows_any (ao : Option Addr) (len cap : Nat) (l : List Z.V) (bo : Option Addr) (lb cb : Nat) (m : List Z.V) (w : World) (h1 : SlV w ao len cap l) (h2 : SlV w bo lb cb m) (hcap : len ≤ 140737488355328) (hcb : lb ≤ 140737488355328) :
    Calls Try.prog 18 #[.slice ao len cap, .slice bo lb cb] w fun e w' => e = .returned (.int .i64 (Z.cr l m)) ∧ Below w.heap.size w w' := by
  have HC : Hid (Calls Try.prog 42 #[.slice ao len cap, .slice bo lb cb, .func (.func 15) #[] #[]] w fun e w' => e = .returned (.int .i64 (Z.cr l m)) ∧ Below w.heap.size w w') := by
    show Calls _ _ _ _ _
    rcases h1.2.2.2.2 with h5 | ⟨b, off, rfl, hlt, h5⟩
    · subst h5
      obtain rfl : l = [] := List.eq_nil_of_length_eq_zero h1.1
      exact cmpfunc_none ao cap bo lb cb m w h2.1 hcb
    · exact cmpfunc_some b off len cap l bo lb cb m w h1.1 h2.1 hcap hcb hlt h5 h2
  clear h1 h2
  go_enter Try.func18, Try.ntmps18
  go_wp2_with fail
  refine HC.out.mono ?_
  rintro e w1 ⟨rfl, hb1⟩
  replace hb1 := hide hb1
  go_wp2
  go_ret
  exact ⟨rfl, hb1.out⟩
end Go.Proofs.Ytahpbenobhodnaa

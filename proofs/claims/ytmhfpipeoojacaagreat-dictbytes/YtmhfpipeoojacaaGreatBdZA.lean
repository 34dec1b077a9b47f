/- The document's answer for null: Same of bools, Same of values, Count. -/
import Derived.Test.YtmhfpipeoojacaaGreatBdI
import Derived.Test.YtmhfpipeoojacaaGreatBdZ
import Derived.Test.YtmhfpipeoojacaaGreatBdT
namespace Go.Proofs.YtmhfpipeoojacaaGreat
set_option linter.unusedVariables false
open Go.RowKit

theorem vsame_none (ao bo : Option Addr) (ca cb : Nat) (w : World) :
    Calls Tryz.prog 12 #[.slice ao 0 ca, .slice bo 0 cb] w fun e w' => e = .returned (.bool true) ∧ Below w.heap.size w w' := by
  go_enter Tryz.func12, Tryz.ntmps12
  go_wp2_with fail
  go_rounds 1
  go_ret
  exact ⟨rfl, Below.refl _ _⟩
set_option maxHeartbeats 1000000 in
theorem vsame_some (b1 o1 b2 o2 len ca cb : Nat) (l : List Z.V) (w : World) (hl : l.length = len) (hm : len ≤ 140737488355328) (h1 : b1 < w.heap.size) (h2 : b2 < w.heap.size)
    (hc1 : ∀ j x, l[j]? = some x → w.cell? ⟨b1, o1 + j * 3, none⟩ = some (.int .i64 x.k) ∧ w.cell? ⟨b1, o1 + j * 3 + 1, none⟩ = some (.int .i64 x.i) ∧ w.cell? ⟨b1, o1 + j * 3 + 2, none⟩ = some (.string x.s))
    (hc2 : ∀ j x, l[j]? = some x → w.cell? ⟨b2, o2 + j * 3, none⟩ = some (.int .i64 x.k) ∧ w.cell? ⟨b2, o2 + j * 3 + 1, none⟩ = some (.int .i64 x.i) ∧ w.cell? ⟨b2, o2 + j * 3 + 2, none⟩ = some (.string x.s)) :
    Calls Tryz.prog 12 #[.slice (some ⟨b1, o1, none⟩) len ca, .slice (some ⟨b2, o2, none⟩) len cb] w fun e w' => e = .returned (.bool true) ∧ Below w.heap.size w w' := by
  have hb : ((len : Int) != (len : Int)) = false := by simp
  have HC1 := hide hc1
  have HC2 := hide hc2
  have HL := hide hl
  clear hc1 hc2 hl
  go_enter Tryz.func12, Tryz.ntmps12
  go_wp2_with fail
  go_loopw [5] (fun i wr => ∃ k : Nat, k ≤ len ∧ i = .int .i64 k ∧ Hid (Below w.heap.size w wr)) (fun i _ => len - (intOf i).toNat)
  case atStart => exact ⟨0, Nat.zero_le _, rfl, hide (Below.refl _ _)⟩
  case round =>
    obtain ⟨k, hk, rfl, hkr⟩ := hrel
    by_cases hlt : k < len
    · obtain ⟨⟨xk, xi, xs⟩, hx⟩ : ∃ x, l[k]? = some x := ⟨l[k]'(by rw [HL.out]; exact hlt), List.getElem?_eq_getElem _⟩
      obtain ⟨c1, c2, c3⟩ := HC1.out k _ hx
      obtain ⟨d1, d2, d3⟩ := HC2.out k _ hx
      have e1 : wr.cell? ⟨b1, o1 + k * 3, none⟩ = some (.int .i64 xk) := by rw [hkr.out.cell (p := ⟨b1, o1 + k * 3, none⟩) h1]; exact c1
      have e2 : wr.cell? ⟨b1, o1 + k * 3 + 1, none⟩ = some (.int .i64 xi) := by rw [hkr.out.cell (p := ⟨b1, o1 + k * 3 + 1, none⟩) h1]; exact c2
      have e3 : wr.cell? ⟨b1, o1 + k * 3 + 2, none⟩ = some (.string xs) := by rw [hkr.out.cell (p := ⟨b1, o1 + k * 3 + 2, none⟩) h1]; exact c3
      have g1 : wr.cell? ⟨b2, o2 + k * 3, none⟩ = some (.int .i64 xk) := by rw [hkr.out.cell (p := ⟨b2, o2 + k * 3, none⟩) h2]; exact d1
      have g2 : wr.cell? ⟨b2, o2 + k * 3 + 1, none⟩ = some (.int .i64 xi) := by rw [hkr.out.cell (p := ⟨b2, o2 + k * 3 + 1, none⟩) h2]; exact d2
      have g3 : wr.cell? ⟨b2, o2 + k * 3 + 2, none⟩ = some (.string xs) := by rw [hkr.out.cell (p := ⟨b2, o2 + k * 3 + 2, none⟩) h2]; exact d3
      have hq : ∀ w : World, (binOp .neq 45 (.agg #[.int .i64 xk, .int .i64 xi, .string xs]) (.agg #[.int .i64 xk, .int .i64 xi, .string xs])).run Tryz.prog w = .ok (.bool false) w := fun w => by rw [vne_run, Z.same_self]; rfl
      clear c1 c2 c3 d1 d2 d3 hx
      go_wp2
      go_region
      all_goals go_wp2
      all_goals
        go_roundw
        case rel => exact ⟨k + 1, by omega, by go_num, hide hkr.out.drew⟩
        case measure => simp [intOf]; omega
    · go_wp2
      go_ret
      exact ⟨rfl, hkr.out⟩
/-- The reference's Same, of two lists of values that are the same. -/
theorem vsame_yes (ao bo : Option Addr) (len ca cb : Nat) (l : List Z.V) (w : World) (h1 : SlV w ao len ca l) (h2 : SlV w bo len cb l) (hm : len ≤ 140737488355328) :
    Calls Tryz.prog 12 #[.slice ao len ca, .slice bo len cb] w fun e w' => e = .returned (.bool true) ∧ Below w.heap.size w w' := by
  by_cases h0 : len = 0
  · subst h0; exact vsame_none ao bo ca cb w
  · rcases h1.2.2.2.2 with h | ⟨b1, o1, rfl, hb1, hc1⟩
    · omega
    · rcases h2.2.2.2.2 with h | ⟨b2, o2, rfl, hb2, hc2⟩
      · omega
      · exact vsame_some b1 o1 b2 o2 len ca cb l w h1.1 hm hb1 hb2 hc1 hc2

theorem cntT_le (bs : List Bool) (k : Nat) : cntT (bs.take k) ≤ k := by
  unfold cntT
  exact Nat.le_trans List.count_le_length (by rw [List.length_take]; omega)
end Go.Proofs.YtmhfpipeoojacaaGreat
/- How many words are below a value, and its place among them: dict.Below, and the document's Below and place. Conditions: none. -/
namespace Go.Proofs.YtmhfpipeoojacaaGreat
set_option linter.unusedVariables false
set_option maxRecDepth 10000
open Go.RowKit Go.Sort
theorem Tryz.mixed : Tryz.prog.follows .mixedOrders = true := by kernel_rfl
/-- One of a row. -/
theorem SlV.at {w : World} {ao : Option Addr} {len cap : Nat} {l : List Z.V} (h : SlV w ao len cap l) {j : Nat} (hj : j < len) : ∃ b off k i s, ao = some ⟨b, off, none⟩ ∧ b < w.heap.size ∧ l[j]? = some ⟨k, i, s⟩ ∧
    w.cell? ⟨b, off + j * 3, none⟩ = some (.int .i64 k) ∧ w.cell? ⟨b, off + j * 3 + 1, none⟩ = some (.int .i64 i) ∧ w.cell? ⟨b, off + j * 3 + 2, none⟩ = some (.string s) := by
  obtain ⟨h1, h2, h3, h4, h5⟩ := h
  rcases h5 with h5 | ⟨b, off, rfl, hlt, h5⟩
  · omega
  · obtain ⟨⟨k, i, s⟩, hx⟩ : ∃ x, l[j]? = some x := ⟨l[j]'(by omega), List.getElem?_eq_getElem _⟩
    obtain ⟨c1, c2, c3⟩ := h5 j _ hx
    exact ⟨b, off, k, i, s, rfl, hlt, hx, c1, c2, c3⟩
theorem blw_take {l : List Z.V} {j : Nat} {x v : Z.V} (h : l[j]? = some x) : Z.blw (l.take (j + 1)) v = Z.blw (l.take j) v + (if Z.cv x v < 0 then 1 else 0) := by rw [take_snocV h, blw_snoc]
theorem grow_below (w : World) (n : Nat) (os : Array Obj) : Below w.heap.size w (grow (w.drewN n) os) :=
  ⟨rfl, rfl, rfl, by rw [size_grow]; exact Nat.le_add_right _ _, fun k hk => by simp only [grow]; rw [Array.getElem?_append_left (by exact hk)]; rfl⟩
/-- A value that a call boxed, and the row that it reads: as they lie behind what has been laid since. -/
theorem box_at {w wr : World} {o : Obj} {p : Nat} {c : Value} (hb : Below (w.alloc o).heap.size (w.alloc o) wr) (h : (w.alloc o).cell? ⟨w.heap.size, p, none⟩ = some c) : ∀ n os, (grow (wr.drewN n) os).cell? ⟨w.heap.size, p, none⟩ = some c := fun n os => by
  have h1 : wr.cell? ⟨w.heap.size, p, none⟩ = some c := by rw [hb.cell (p := ⟨w.heap.size, p, none⟩) (by simp)]; exact h
  exact cell_grown (by have := hb.size; simp at this; exact this) h1 n os
set_option maxHeartbeats 1000000 in
theorem rbelow_any (ao : Option Addr) (len cap : Nat) (ws : List Z.V) (vk vi : Int) (vs : ByteArray) (w : World) (h : SlV w ao len cap ws) (hw : ∀ x ∈ ws, x.s.size ≤ 9223372036854775807) (hv : vs.size ≤ 9223372036854775807) (hl : len ≤ 140737488355328) :
    Calls Tryz.prog 42 #[.slice ao len cap, .agg #[.int .i64 vk, .int .i64 vi, .string vs]] w fun e w' => e = .returned (.int .i64 (Z.blw ws ⟨vk, vi, vs⟩ : Nat)) ∧ Below w.heap.size w w' := by
  have mixed := Tryz.mixed
  have HL := hide h.1
  have HS := hide h
  have HW := hide hw
  have HE := hide (show ws.take len = ws by rw [← h.1]; exact List.take_length)
  clear h hw
  go_enter Tryz.func42, Tryz.ntmps42
  go_wp2_with fail
  go_loopw [5, 6] (fun c i wr => ∃ j n : Nat, j ≤ len ∧ i = .int .i64 j ∧ c = .int .i64 n ∧ n ≤ j ∧ Hid (n = Z.blw (ws.take j) ⟨vk, vi, vs⟩) ∧ Hid (Below (w.alloc (.cells #[.int .i64 vk, .int .i64 vi, .string vs] 45)).heap.size (w.alloc (.cells #[.int .i64 vk, .int .i64 vi, .string vs] 45)) wr)) (fun _ i _ => len - (intOf i).toNat)
  case atStart => exact ⟨0, 0, Nat.zero_le _, rfl, rfl, Nat.zero_le _, hide (by simp [Z.blw]), hide (Below.refl _ _)⟩
  case round =>
    obtain ⟨j, n, hj, rfl, rfl, hn, HN, HB⟩ := hrel
    by_cases hjl : j < len
    · obtain ⟨b, off, xk, xi, xs, rfl, hlt, hx, c1, c2, c3⟩ := HS.out.at hjl
      have hbw : Below w.heap.size w wr := (below_one w _).trans (HB.out.mono (by simp))
      have d1 : ∀ m os, (grow (wr.drewN m) os).cell? ⟨b, off + j * 3, none⟩ = some (.int .i64 xk) := cell_grown (Nat.lt_of_lt_of_le hlt hbw.size) (by rw [hbw.cell (p := ⟨b, off + j * 3, none⟩) hlt]; exact c1)
      have d2 : ∀ m os, (grow (wr.drewN m) os).cell? ⟨b, off + j * 3 + 1, none⟩ = some (.int .i64 xi) := cell_grown (Nat.lt_of_lt_of_le hlt hbw.size) (by rw [hbw.cell (p := ⟨b, off + j * 3 + 1, none⟩) hlt]; exact c2)
      have d3 : ∀ m os, (grow (wr.drewN m) os).cell? ⟨b, off + j * 3 + 2, none⟩ = some (.string xs) := cell_grown (Nat.lt_of_lt_of_le hlt hbw.size) (by rw [hbw.cell (p := ⟨b, off + j * 3 + 2, none⟩) hlt]; exact c3)
      have f1 := box_at (p := 0) HB.out (c := .int .i64 vk) (by simp)
      have f2 := box_at (p := 1) HB.out (c := .int .i64 vi) (by simp)
      have f3 := box_at (p := 2) HB.out (c := .string vs) (by simp)
      have HX := hide hx
      have HT := hide (blw_take (v := ⟨vk, vi, vs⟩) hx)
      have hxs := hide (HW.out _ (List.mem_of_getElem? hx))
      obtain ⟨c, hc⟩ : ∃ c, Z.cv ⟨xk, xi, xs⟩ ⟨vk, vi, vs⟩ = c := ⟨_, rfl⟩
      have HC : Hid (∀ m os, Calls Tryz.prog 43 #[.agg #[.int .i64 xk, .int .i64 xi, .string xs], .agg #[.int .i64 vk, .int .i64 vi, .string vs]] (grow (wr.drewN m) os) fun e w' => e = .returned (.int .i64 c) ∧ ∃ q os', w' = grow ((grow (wr.drewN m) os).drewN q) os') := by
        intro m os; rw [← hc]; exact ucompare_two xk xi xs vk vi vs _ hxs.out hv
      rw [hc] at HT
      clear c1 c2 c3 hx hbw hc
      by_cases hcn : c < 0
      · go_wp2_with fail
        go_quiet_grown (first | (go_at_call 43; refine Calls.grown_of (HC.out _ _)) | (go_at_fn 43; refine Calls.grown_of (HC.out _ _)))
        have HB2 := hide (HB.out.trans ((grow_below wr nq osq).mono HB.out.size))
        clear d1 d2 d3 f1 f2 f3 HC HB
        generalize grow (wr.drewN nq) osq = w2 at HB2 ⊢
        clear nq osq
        go_wp2
        go_round
        · exact ⟨j + 1, n + 1, by omega, by go_num, by go_num, by omega, hide (by rw [HT.out, if_pos hcn, HN.out]), HB2⟩
        · simp [intOf]; omega
      · have hcd : decide (c < 0) = false := decide_eq_false hcn
        go_wp2_with fail
        go_quiet_grown (first | (go_at_call 43; refine Calls.grown_of (HC.out _ _)) | (go_at_fn 43; refine Calls.grown_of (HC.out _ _)))
        have HB2 := hide (HB.out.trans ((grow_below wr nq osq).mono HB.out.size))
        clear d1 d2 d3 f1 f2 f3 HC HB
        generalize grow (wr.drewN nq) osq = w2 at HB2 ⊢
        clear nq osq
        go_wp2
        go_round
        · exact ⟨j + 1, n, by omega, by go_num, rfl, by omega, hide (by rw [HT.out, if_neg (by omega), HN.out]; rfl), HB2⟩
        · simp [intOf]; omega
    · obtain rfl : j = len := by omega
      go_wp2
      go_ret
      refine ⟨?_, (below_one w _).trans (HB.out.mono (by simp))⟩
      have hn := HN.out
      rw [HE.out] at hn
      subst hn
      rfl
/-- A value's place, as a number. -/
def Z.plI (ws : List Z.V) (v : Z.V) : Int := match Z.pl ws v with | some j => (j : Int) | none => -1
theorem plI_at {ws : List Z.V} {v x : Z.V} {j : Nat} (hx : ws[j]? = some x) (hv : Z.cv x v = 0) (h : ∀ y ∈ ws.take j, Z.cv y v ≠ 0) : Z.plI ws v = j := by
  have hj := (List.getElem?_eq_some_iff.1 hx).1
  have : Z.pl ws v = some j := by
    unfold Z.pl
    rw [List.findIdx?_eq_some_iff_getElem]
    refine ⟨hj, ?_, fun i hi => ?_⟩
    · rw [(List.getElem?_eq_some_iff.1 hx).2]; exact decide_eq_true hv
    · simp only [decide_eq_true_eq]
      exact h _ (List.mem_take_iff_getElem.2 ⟨i, by omega, rfl⟩)
  unfold Z.plI; rw [this]
theorem plI_none {ws : List Z.V} {v : Z.V} (h : ∀ y ∈ ws, Z.cv y v ≠ 0) : Z.plI ws v = -1 := by
  have : Z.pl ws v = none := by
    unfold Z.pl
    rw [List.findIdx?_eq_none_iff]
    intro y hy; exact decide_eq_false (h y hy)
  unfold Z.plI; rw [this]
set_option maxHeartbeats 1000000 in
theorem rplace_any (ao : Option Addr) (len cap : Nat) (ws : List Z.V) (vk vi : Int) (vs : ByteArray) (w : World) (h : SlV w ao len cap ws) (hw : ∀ x ∈ ws, x.s.size ≤ 9223372036854775807) (hv : vs.size ≤ 9223372036854775807) (hl : len ≤ 140737488355328) :
    Calls Tryz.prog 63 #[.slice ao len cap, .agg #[.int .i64 vk, .int .i64 vi, .string vs]] w fun e w' => e = .returned (.int .i64 (Z.plI ws ⟨vk, vi, vs⟩)) ∧ Below w.heap.size w w' := by
  have mixed := Tryz.mixed
  have HL := hide h.1
  have HS := hide h
  have HW := hide hw
  have HE := hide (show ws.take len = ws by rw [← h.1]; exact List.take_length)
  clear h hw
  go_enter Tryz.func63, Tryz.ntmps63
  go_wp2_with fail
  go_loopw [5] (fun i wr => ∃ j : Nat, j ≤ len ∧ i = .int .i64 j ∧ Hid (∀ y ∈ ws.take j, Z.cv y ⟨vk, vi, vs⟩ ≠ 0) ∧ Hid (Below (w.alloc (.cells #[.int .i64 vk, .int .i64 vi, .string vs] 45)).heap.size (w.alloc (.cells #[.int .i64 vk, .int .i64 vi, .string vs] 45)) wr)) (fun i _ => len - (intOf i).toNat)
  case atStart => exact ⟨0, Nat.zero_le _, rfl, hide (by simp), hide (Below.refl _ _)⟩
  case round =>
    obtain ⟨j, hj, rfl, HN, HB⟩ := hrel
    by_cases hjl : j < len
    · obtain ⟨b, off, xk, xi, xs, rfl, hlt, hx, c1, c2, c3⟩ := HS.out.at hjl
      have hbw : Below w.heap.size w wr := (below_one w _).trans (HB.out.mono (by simp))
      have d1 : ∀ m os, (grow (wr.drewN m) os).cell? ⟨b, off + j * 3, none⟩ = some (.int .i64 xk) := cell_grown (Nat.lt_of_lt_of_le hlt hbw.size) (by rw [hbw.cell (p := ⟨b, off + j * 3, none⟩) hlt]; exact c1)
      have d2 : ∀ m os, (grow (wr.drewN m) os).cell? ⟨b, off + j * 3 + 1, none⟩ = some (.int .i64 xi) := cell_grown (Nat.lt_of_lt_of_le hlt hbw.size) (by rw [hbw.cell (p := ⟨b, off + j * 3 + 1, none⟩) hlt]; exact c2)
      have d3 : ∀ m os, (grow (wr.drewN m) os).cell? ⟨b, off + j * 3 + 2, none⟩ = some (.string xs) := cell_grown (Nat.lt_of_lt_of_le hlt hbw.size) (by rw [hbw.cell (p := ⟨b, off + j * 3 + 2, none⟩) hlt]; exact c3)
      have f1 := box_at (p := 0) HB.out (c := .int .i64 vk) (by simp)
      have f2 := box_at (p := 1) HB.out (c := .int .i64 vi) (by simp)
      have f3 := box_at (p := 2) HB.out (c := .string vs) (by simp)
      have HX := hide hx
      have hxs := hide (HW.out _ (List.mem_of_getElem? hx))
      obtain ⟨c, hc⟩ : ∃ c, Z.cv ⟨xk, xi, xs⟩ ⟨vk, vi, vs⟩ = c := ⟨_, rfl⟩
      have HC : Hid (∀ m os, Calls Tryz.prog 43 #[.agg #[.int .i64 xk, .int .i64 xi, .string xs], .agg #[.int .i64 vk, .int .i64 vi, .string vs]] (grow (wr.drewN m) os) fun e w' => e = .returned (.int .i64 c) ∧ ∃ q os', w' = grow ((grow (wr.drewN m) os).drewN q) os') := by
        intro m os; rw [← hc]; exact ucompare_two xk xi xs vk vi vs _ hxs.out hv
      have HV := hide hc
      clear c1 c2 c3 hx hbw hc
      by_cases hcn : c = 0
      · subst hcn
        go_wp2_with fail
        go_quiet_grown (first | (go_at_call 43; refine Calls.grown_of (HC.out _ _)) | (go_at_fn 43; refine Calls.grown_of (HC.out _ _)))
        have HB2 := hide (HB.out.trans ((grow_below wr nq osq).mono HB.out.size))
        clear d1 d2 d3 f1 f2 f3 HC HB
        generalize grow (wr.drewN nq) osq = w2 at HB2 ⊢
        clear nq osq
        go_wp2
        go_ret
        exact ⟨by rw [plI_at HX.out HV.out HN.out]; rfl, (below_one w _).trans (HB2.out.mono (by simp))⟩
      · have hcd : (c == 0) = false := beq_eq_false_iff_ne.2 hcn
        go_wp2_with fail
        go_quiet_grown (first | (go_at_call 43; refine Calls.grown_of (HC.out _ _)) | (go_at_fn 43; refine Calls.grown_of (HC.out _ _)))
        have HB2 := hide (HB.out.trans ((grow_below wr nq osq).mono HB.out.size))
        clear d1 d2 d3 f1 f2 f3 HC HB
        generalize grow (wr.drewN nq) osq = w2 at HB2 ⊢
        clear nq osq
        have HN2 : Hid (∀ y ∈ ws.take (j + 1), Z.cv y ⟨vk, vi, vs⟩ ≠ 0) := by
          intro y hy
          rw [take_snocV HX.out] at hy
          rcases List.mem_append.1 hy with hy | hy
          · exact HN.out y hy
          · simp at hy; subst hy; rw [HV.out]; exact hcn
        clear HN HV HX
        go_wp2
        go_round
        · exact ⟨j + 1, by omega, by go_num, HN2, HB2⟩
        · simp [intOf]; omega
    · obtain rfl : j = len := by omega
      go_wp2
      go_ret
      have hn := HN.out
      rw [HE.out] at hn
      exact ⟨by rw [plI_none hn]; rfl, (below_one w _).trans (HB.out.mono (by simp))⟩
set_option maxHeartbeats 1000000 in
theorem dbelow_any (ao : Option Addr) (len cap : Nat) (ws : List Z.V) (vk vi : Int) (vs : ByteArray) (w : World) (h : SlV w ao len cap ws) (hl : len ≤ 140737488355328) :
    Calls Tryz.prog 17 #[.slice ao len cap, .agg #[.int .i64 vk, .int .i64 vi, .string vs]] w fun e w' => e = .returned (.int .i64 (Z.blw ws ⟨vk, vi, vs⟩ : Nat)) ∧ Below w.heap.size w w' := by
  have HL := hide h.1
  have HS := hide h
  have HE := hide (show ws.take len = ws by rw [← h.1]; exact List.take_length)
  clear h
  go_enter Tryz.func17, Tryz.ntmps17
  go_wp2_with fail
  go_loopw [5, 10] (fun c i wr => ∃ j n : Nat, j ≤ len ∧ i = .int .i64 j ∧ c = .int .i64 n ∧ n ≤ j ∧ Hid (n = Z.blw (ws.take j) ⟨vk, vi, vs⟩) ∧ Hid (Below (w.alloc (.cells #[.int .i64 vk, .int .i64 vi, .string vs] 45)).heap.size (w.alloc (.cells #[.int .i64 vk, .int .i64 vi, .string vs] 45)) wr)) (fun _ i _ => len - (intOf i).toNat)
  case atStart => exact ⟨0, 0, Nat.zero_le _, rfl, rfl, Nat.zero_le _, hide (by simp [Z.blw]), hide (Below.refl _ _)⟩
  case round =>
    obtain ⟨j, n, hj, rfl, rfl, hn, HN, HB⟩ := hrel
    by_cases hjl : j < len
    · obtain ⟨b, off, xk, xi, xs, rfl, hlt, hx, c1, c2, c3⟩ := HS.out.at hjl
      have hbw : Below w.heap.size w wr := (below_one w _).trans (HB.out.mono (by simp))
      have d1 : wr.cell? ⟨b, off + j * 3, none⟩ = some (.int .i64 xk) := by rw [hbw.cell (p := ⟨b, off + j * 3, none⟩) hlt]; exact c1
      have d2 : wr.cell? ⟨b, off + j * 3 + 1, none⟩ = some (.int .i64 xi) := by rw [hbw.cell (p := ⟨b, off + j * 3 + 1, none⟩) hlt]; exact c2
      have d3 : wr.cell? ⟨b, off + j * 3 + 2, none⟩ = some (.string xs) := by rw [hbw.cell (p := ⟨b, off + j * 3 + 2, none⟩) hlt]; exact c3
      have hat : At wr w.heap.size vk vi vs := (At.new w vk vi vs).below HB.out
      obtain ⟨f1, f2, f3⟩ := hat.cells
      have hwlt : w.heap.size < wr.heap.size := by have := HB.out.size; simp at this; omega
      have HX := hide hx
      have HT := hide (blw_take (v := ⟨vk, vi, vs⟩) hx)
      obtain ⟨c, hc⟩ : ∃ c, Z.cv ⟨xk, xi, xs⟩ ⟨vk, vi, vs⟩ = c := ⟨_, rfl⟩
      have HC : Hid (∀ w, Calls Tryz.prog 39 #[.agg #[.int .i64 xk, .int .i64 xi, .string xs], .agg #[.int .i64 vk, .int .i64 vi, .string vs]] w fun e w' => e = .returned (.int .i64 c) ∧ Below w.heap.size w w') := by
        intro w; rw [← hc]; exact vcompare_any xk xi xs vk vi vs w
      rw [hc] at HT
      clear c1 c2 c3 hx hbw hc hat
      by_cases hcn : c < 0
      · go_wp2_with fail
        refine (HC.out _).mono ?_
        rintro e w2 ⟨rfl, hb2⟩
        have HB2 := hide (HB.out.trans ((bthen (below_one wr _) hb2).mono HB.out.size))
        clear d1 d2 d3 f1 f2 f3 HC HB hb2
        go_wp2
        go_round
        · exact ⟨j + 1, n + 1, by omega, by go_num, by go_num, by omega, hide (by rw [HT.out, if_pos hcn, HN.out]), HB2⟩
        · simp [intOf]; omega
      · go_wp2_with fail
        refine (HC.out _).mono ?_
        rintro e w2 ⟨rfl, hb2⟩
        have HB2 := hide (HB.out.trans ((bthen (below_one wr _) hb2).mono HB.out.size))
        clear d1 d2 d3 f1 f2 f3 HC HB hb2
        go_wp2
        go_round
        · exact ⟨j + 1, n, by omega, by go_num, rfl, by omega, hide (by rw [HT.out, if_neg (by omega), HN.out]; rfl), HB2⟩
        · simp [intOf]; omega
    · obtain rfl : j = len := by omega
      go_wp2
      go_ret
      refine ⟨?_, (below_one w _).trans (HB.out.mono (by simp))⟩
      have hn := HN.out
      rw [HE.out] at hn
      subst hn
      rfl
end Go.Proofs.YtmhfpipeoojacaaGreat
/- dict.toWord: one word read, and what stands behind it. Conditions: fewer than 2^47 bytes. -/
namespace Go.Proofs.YtmhfpipeoojacaaGreat
set_option linter.unusedVariables false
set_option maxRecDepth 10000
open Go.RowKit
/-- A value, and two more, told. -/
theorem results_val2 {fn : Func} {p u v : Tmp} (h : fn.results = #[.cell p 45, .tmp u, .tmp v]) (tmps : Array Value) (w : World) (g : Nat) {k i : Int} {s : ByteArray} (hp : tmps.getD p undef = .pointer (some ⟨g, 0, none⟩)) (hA : At w g k i s) :
    (results fn tmps).run Tryz.prog w = .ok (.tuple #[.agg #[.int .i64 k, .int .i64 i, .string s], tmps.getD u undef, tmps.getD v undef]) w := by
  have hp' : tmps[p]?.getD undef = .pointer (some ⟨g, 0, none⟩) := by simpa using hp
  unfold At at hA
  simp [results, h, hp', asAddr, run_loadVar_row w g 45 45 _ (0, 0) _ hA Tryz.underlying45 rfl (by kernel_rfl)]
def ToWordAns (W : World) (b : List Nat) (kind : Int) (w : World) (e : Ending) (w' : World) : Prop :=
  Below w.heap.size w w' ∧ ∃ a n c, e = .returned (.tuple #[(Z.oV b kind).v, .slice a n c, .int .i64 ((Z.oE b kind : Nat) : Int)]) ∧ (Z.oE b kind = 0 → n = (Z.oR b kind).length ∧ Sl W .u8 a n c (ints (Z.oR b kind)))
set_option maxHeartbeats 1000000 in
theorem toword_any (ao : Option Addr) (len cap : Nat) (b : List Nat) (kind : Int) (w W : World) (hW : Sl W .u8 ao len cap (ints b)) (h : Sl w .u8 ao len cap (ints b)) (h256 : ∀ x ∈ b, x < 256) (hm : len ≤ 140737488355328) (hk : kind = 1 ∨ kind = 2 ∨ kind = 3) :
    Calls Tryz.prog 67 #[.slice ao len cap, .int .i64 kind] w (ToWordAns W b kind w) := by
  have hl : b.length = len := by rw [← h.1, ints_length]
  have hA := At.new w 0 0 ⟨#[]⟩
  have b0 := below_one w (.cells #[.int .i64 0, .int .i64 0, .string ⟨#[]⟩] 45)
  obtain ⟨o1, o2, o3, o4⟩ := o_ahead4 hk b
  obtain ⟨Q, hQ⟩ : ∃ Q, min 1034 len = Q := ⟨_, rfl⟩
  have hQD : Q ≤ len := by omega
  have hQ4 : Q ≤ 1034 := by omega
  have hlt : b.take Q = b.take 1034 := by
    rw [← hQ]
    by_cases h5 : 1034 ≤ len
    · rw [Nat.min_eq_left h5]
    · rw [Nat.min_eq_right (by omega), List.take_of_length_le (by omega), List.take_of_length_le (by omega)]
  have hQl : (b.take 1034).length = Q := by rw [List.length_take, hl, hQ]
  obtain ⟨pa, hp, hp1, hp2⟩ := head_of (h.below b0) hQD
  rw [hlt] at hp
  have hmin : ∀ (ts : Array TypeId) (t : TypeId) (w : World), (Builtin.min_ ts t #[.int .i64 1034, .int .i64 (len : Int)]).run Tryz.prog w = .ok (.int .i64 (Q : Int)) w := fun ts t w => by
    rw [run_min_int2]
    have : (if (len : Int) < 1034 then (len : Int) else 1034) = (Q : Int) := by split <;> omega
    rw [this]
  have HPS := hide hp
  have HO1 := hide o1
  have HO2 := hide o2
  have HO3 := hide o3
  have HO4 := hide o4
  have HQL := hide hQl
  have HA := hide hA
  have HS := hide (h.below b0)
  have HW := hide hW
  have H256 := hide h256
  have HL := hide hl
  have HB0 := hide b0
  clear h hW h256 hl hA b0 hp o1 o2 o3 o4 hQl hlt hQ hk
  go_enter Tryz.func67, Tryz.ntmps67
  go_wp2_with fail
  refine (vof_any _ _ _ (b.take 1034) kind _ HPS.out (fun x hx => H256.out x (List.mem_of_mem_take hx)) (by omega)).mono ?_
  rintro e w2 ⟨ra, rc, rfl, _, hb2⟩
  rw [HO1.out, HO2.out]
  obtain ⟨n, hn⟩ : ∃ n, (Z.oR (b.take 1034) kind).length = n := ⟨_, rfl⟩
  obtain ⟨⟨vk, vi, vs⟩, hv⟩ : ∃ x, Z.oV b kind = x := ⟨_, rfl⟩
  obtain ⟨y, hy⟩ : ∃ y : Int, ((Z.oE b kind : Nat) : Int) = y := ⟨_, rfl⟩
  have hnQ : n ≤ Q := by have := HO4.out; rw [hn, HQL.out] at this; exact this
  obtain ⟨G, hG⟩ : ∃ G, Q - n = G := ⟨_, rfl⟩
  have hQG : (Q : Int) - (n : Int) = (G : Int) := by omega
  have hGD : G ≤ len := by omega
  obtain ⟨sa, hsa, hr3, hr4⟩ := rest_of HS.out hGD
  obtain ⟨sw, hsw, hw3, hw4⟩ := rest_of HW.out hGD
  have hss : sw = sa := by
    have h1 := hw3 w
    rw [hr3 w] at h1
    injection h1 with h1
    injection h1 with h1
    exact h1.symm
  subst hss
  have HSW : Hid (Z.oE b kind = 0 → b.drop G = Z.oR b kind) := fun h0 => by
    have h1 := HO3.out h0
    rw [hn, HQL.out, hG] at h1
    exact h1
  have HSL := hide hsw
  have HV := hide hv
  have HY := hide hy
  rw [hn, hv, hy, show (Z.V.v ⟨vk, vi, vs⟩) = .agg #[.int .i64 vk, .int .i64 vi, .string vs] from rfl]
  have b2 := below_one w2 (.cells #[.int .i64 vk, .int .i64 vi, .string vs] 45)
  have hA2 := (HA.out.below hb2).below b2
  have HA2 := hide hA2
  have HB2 := hide (bthen (bthen HB0.out hb2) b2)
  obtain ⟨a0, a1, a2⟩ := hA2.cells
  obtain ⟨t0, t1, t2⟩ := hA2.thawed
  obtain ⟨v0, v1, v2⟩ := (At.new w2 vk vi vs).cells
  rw [← hQG] at hr3 hr4
  clear hn hv hy hb2 hA2 b2 hp1 hp2 hmin hsa hsw hw3 hw4 hG hQG HPS HO3 HS
  obtain ⟨w3, hw3⟩ : ∃ w3, w2.alloc (.cells #[.int .i64 vk, .int .i64 vi, .string vs] 45) = w3 := ⟨_, rfl⟩
  go_wp2_with fail
  rw [hw3] at v0 v1 v2 a0 a1 a2 t0 t1 t2 HA2 HB2
  clear hw3
  go_region
  have hat : At (putV w3 w.heap.size vk vi vs).drew w.heap.size vk vi vs := HA2.out.set vk vi vs
  have hbl : Z.oE b kind = 0 → len - G = (Z.oR b kind).length := fun h0 => by rw [← HSW.out h0, List.length_drop, HL.out]
  have HAT := hide hat
  have HBF := hide (putV_below vk vi vs HB2.out (Nat.le_refl _)).drew
  have HFI : Hid (ToWordAns W b kind w (.returned (.tuple #[.agg #[.int .i64 vk, .int .i64 vi, .string vs], .slice sw (len - G) (cap - G), .int .i64 y])) (putV w3 w.heap.size vk vi vs).drew) :=
    ⟨HBF.out, sw, len - G, cap - G, by rw [HV.out, HY.out]; rfl, fun h0 => ⟨hbl h0, by rw [← HSW.out h0]; exact HSL.out⟩⟩
  clear hat hbl
  go_wp2
  exact bodyPost_ret (results_val2 Tryz.results67 _ _ w.heap.size rfl HAT.out) rfl HFI.out
end Go.Proofs.YtmhfpipeoojacaaGreat

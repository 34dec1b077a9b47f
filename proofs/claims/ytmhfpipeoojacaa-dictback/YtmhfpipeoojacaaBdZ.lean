/- How many words are below a value, and its place among them: dict.Below, and the document's Below and place. Conditions: none. -/
import Derived.Test.YtmhfpipeoojacaaBdU
import Derived.Test.YtmhfpipeoojacaaBdV
import Derived.Test.YtmhfpipeoojacaaBdY
import Derived.Test.YtmhfpipeoojacaaBdP
namespace Go.Proofs.Ytmhfpipeoojacaa
set_option linter.unusedVariables false
set_option maxRecDepth 10000
open Go.RowKit Go.Sort
theorem Try.mixed : Try.prog.follows .mixedOrders = true := by kernel_rfl
/-- One of a row. -/
theorem SlV.at {w : World} {ao : Option Addr} {len cap : Nat} {l : List Z.V} (h : SlV w ao len cap l) {j : Nat} (hj : j < len) : ∃ b off k i s, ao = some ⟨b, off, none⟩ ∧ b < w.heap.size ∧ l[j]? = some ⟨k, i, s⟩ ∧
    w.cell? ⟨b, off + j * 3, none⟩ = some (.int .i64 k) ∧ w.cell? ⟨b, off + j * 3 + 1, none⟩ = some (.int .i64 i) ∧ w.cell? ⟨b, off + j * 3 + 2, none⟩ = some (.string s) := by
  obtain ⟨h1, h2, h3, h4, h5⟩ := h
  rcases h5 with h5 | ⟨b, off, rfl, hlt, h5⟩
  · omega
  · obtain ⟨⟨k, i, s⟩, hx⟩ : ∃ x, l[j]? = some x := ⟨l[j]'(by omega), List.getElem?_eq_getElem _⟩
    obtain ⟨c1, c2, c3⟩ := h5 j _ hx
    exact ⟨b, off, k, i, s, rfl, hlt, hx, c1, c2, c3⟩
theorem blw_take {l : List Z.V} {j : Nat} {x v : Z.V} (h : l[j]? = some x) : Z.blw (l.take (j + 1)) v = Z.blw (l.take j) v + (if Z.cv x v < 0 then 1 else 0) := by rw [take_snocV h, blw_snoc]
theorem grow_below (w : World) (n : Nat) (os : Array Obj) : Below w.heap.size w (grow (w.drewN n) os) :=
  ⟨rfl, rfl, rfl, by rw [size_grow]; exact Nat.le_add_right _ _, fun k hk => by simp only [grow]; rw [Array.getElem?_append_left (by exact hk)]; rfl⟩
/-- A value that a call boxed, and the row that it reads: as they lie behind what has been laid since. -/
theorem box_at {w wr : World} {o : Obj} {p : Nat} {c : Value} (hb : Below (w.alloc o).heap.size (w.alloc o) wr) (h : (w.alloc o).cell? ⟨w.heap.size, p, none⟩ = some c) : ∀ n os, (grow (wr.drewN n) os).cell? ⟨w.heap.size, p, none⟩ = some c := fun n os => by
  have h1 : wr.cell? ⟨w.heap.size, p, none⟩ = some c := by rw [hb.cell (p := ⟨w.heap.size, p, none⟩) (by simp)]; exact h
  exact cell_grown (by have := hb.size; simp at this; exact this) h1 n os
set_option maxHeartbeats 1000000 in
theorem rbelow_any (ao : Option Addr) (len cap : Nat) (ws : List Z.V) (vk vi : Int) (vs : ByteArray) (w : World) (h : SlV w ao len cap ws) (hw : ∀ x ∈ ws, x.s.size ≤ 9223372036854775807) (hv : vs.size ≤ 9223372036854775807) (hl : len ≤ 140737488355328) :
    Calls Try.prog 14 #[.slice ao len cap, .agg #[.int .i64 vk, .int .i64 vi, .string vs]] w fun e w' => e = .returned (.int .i64 (Z.blw ws ⟨vk, vi, vs⟩ : Nat)) ∧ Below w.heap.size w w' := by
  have mixed := Try.mixed
  have HL := hide h.1
  have HS := hide h
  have HW := hide hw
  have HE := hide (show ws.take len = ws by rw [← h.1]; exact List.take_length)
  clear h hw
  go_enter Try.func14, Try.ntmps14
  go_wp2_with fail
  go_loopw [5, 6] (fun c i wr => ∃ j n : Nat, j ≤ len ∧ i = .int .i64 j ∧ c = .int .i64 n ∧ n ≤ j ∧ Hid (n = Z.blw (ws.take j) ⟨vk, vi, vs⟩) ∧ Hid (Below (w.alloc (.cells #[.int .i64 vk, .int .i64 vi, .string vs] 24)).heap.size (w.alloc (.cells #[.int .i64 vk, .int .i64 vi, .string vs] 24)) wr)) (fun _ i _ => len - (intOf i).toNat)
  case atStart => exact ⟨0, 0, Nat.zero_le _, rfl, rfl, Nat.zero_le _, hide (by simp [Z.blw]), hide (Below.refl _ _)⟩
  case round =>
    obtain ⟨j, n, hj, rfl, rfl, hn, HN, HB⟩ := hrel
    by_cases hjl : j < len
    · obtain ⟨b, off, xk, xi, xs, rfl, hlt, hx, c1, c2, c3⟩ := HS.out.at hjl
      have hbw : Below w.heap.size w wr := (below_one w _).trans (HB.out.mono (by simp))
      have d1 : ∀ m os, (grow (wr.drewN m) os).cell? ⟨b, off + j * 3, none⟩ = some (.int .i64 xk) := cell_grown (Nat.lt_of_lt_of_le hlt hbw.size) (by rw [hbw.cell (p := ⟨b, off + j * 3, none⟩) hlt]; exact c1)
      have d2 : ∀ m os, (grow (wr.drewN m) os).cell? ⟨b, off + j * 3 + 1, none⟩ = some (.int .i64 xi) := cell_grown (Nat.lt_of_lt_of_le hlt hbw.size) (by rw [hbw.cell (p := ⟨b, off + j * 3 + 1, none⟩) hlt]; exact c2)
      have d3 : ∀ m os, (grow (wr.drewN m) os).cell? ⟨b, off + j * 3 + 2, none⟩ = some (.string xs) := cell_grown (Nat.lt_of_lt_of_le hlt hbw.size) (by rw [hbw.cell (p := ⟨b, off + j * 3 + 2, none⟩) hlt]; exact c3)
      have f1 := box_at (p := 0) HB.out (c := .int .i64 vk) (by simp)
      have f2 := box_at (p := 1) HB.out (c := .int .i64 vi) (by simp)
      have f3 := box_at (p := 2) HB.out (c := .string vs) (by simp)
      have HX := hide hx
      have HT := hide (blw_take (v := ⟨vk, vi, vs⟩) hx)
      have hxs := hide (HW.out _ (List.mem_of_getElem? hx))
      obtain ⟨c, hc⟩ : ∃ c, Z.cv ⟨xk, xi, xs⟩ ⟨vk, vi, vs⟩ = c := ⟨_, rfl⟩
      have HC : Hid (∀ m os, Calls Try.prog 19 #[.agg #[.int .i64 xk, .int .i64 xi, .string xs], .agg #[.int .i64 vk, .int .i64 vi, .string vs]] (grow (wr.drewN m) os) fun e w' => e = .returned (.int .i64 c) ∧ ∃ q os', w' = grow ((grow (wr.drewN m) os).drewN q) os') := by
        intro m os; rw [← hc]; exact ucompare_two xk xi xs vk vi vs _ hxs.out hv
      rw [hc] at HT
      clear c1 c2 c3 hx hbw hc
      by_cases hcn : c < 0
      · go_wp2_with fail
        go_quiet_grown (first | (go_at_call 19; refine Calls.grown_of (HC.out _ _)) | (go_at_fn 19; refine Calls.grown_of (HC.out _ _)))
        have HB2 := hide (HB.out.trans ((grow_below wr nq osq).mono HB.out.size))
        clear d1 d2 d3 f1 f2 f3 HC HB
        generalize grow (wr.drewN nq) osq = w2 at HB2 ⊢
        clear nq osq
        go_wp2
        go_round
        · exact ⟨j + 1, n + 1, by omega, by go_num, by go_num, by omega, hide (by rw [HT.out, if_pos hcn, HN.out]), HB2⟩
        · simp [intOf]; omega
      · have hcd : decide (c < 0) = false := decide_eq_false hcn
        go_wp2_with fail
        go_quiet_grown (first | (go_at_call 19; refine Calls.grown_of (HC.out _ _)) | (go_at_fn 19; refine Calls.grown_of (HC.out _ _)))
        have HB2 := hide (HB.out.trans ((grow_below wr nq osq).mono HB.out.size))
        clear d1 d2 d3 f1 f2 f3 HC HB
        generalize grow (wr.drewN nq) osq = w2 at HB2 ⊢
        clear nq osq
        go_wp2
        go_round
        · exact ⟨j + 1, n, by omega, by go_num, rfl, by omega, hide (by rw [HT.out, if_neg (by omega), HN.out]; rfl), HB2⟩
        · simp [intOf]; omega
    · obtain rfl : j = len := by omega
      go_wp2
      go_ret
      refine ⟨?_, (below_one w _).trans (HB.out.mono (by simp))⟩
      have hn := HN.out
      rw [HE.out] at hn
      subst hn
      rfl
/-- A value's place, as a number. -/
def Z.plI (ws : List Z.V) (v : Z.V) : Int := match Z.pl ws v with | some j => (j : Int) | none => -1
theorem plI_at {ws : List Z.V} {v x : Z.V} {j : Nat} (hx : ws[j]? = some x) (hv : Z.cv x v = 0) (h : ∀ y ∈ ws.take j, Z.cv y v ≠ 0) : Z.plI ws v = j := by
  have hj := (List.getElem?_eq_some_iff.1 hx).1
  have : Z.pl ws v = some j := by
    unfold Z.pl
    rw [List.findIdx?_eq_some_iff_getElem]
    refine ⟨hj, ?_, fun i hi => ?_⟩
    · rw [(List.getElem?_eq_some_iff.1 hx).2]; exact decide_eq_true hv
    · simp only [decide_eq_true_eq]
      exact h _ (List.mem_take_iff_getElem.2 ⟨i, by omega, rfl⟩)
  unfold Z.plI; rw [this]
theorem plI_none {ws : List Z.V} {v : Z.V} (h : ∀ y ∈ ws, Z.cv y v ≠ 0) : Z.plI ws v = -1 := by
  have : Z.pl ws v = none := by
    unfold Z.pl
    rw [List.findIdx?_eq_none_iff]
    intro y hy; exact decide_eq_false (h y hy)
  unfold Z.plI; rw [this]
set_option maxHeartbeats 1000000 in
theorem rplace_any (ao : Option Addr) (len cap : Nat) (ws : List Z.V) (vk vi : Int) (vs : ByteArray) (w : World) (h : SlV w ao len cap ws) (hw : ∀ x ∈ ws, x.s.size ≤ 9223372036854775807) (hv : vs.size ≤ 9223372036854775807) (hl : len ≤ 140737488355328) :
    Calls Try.prog 24 #[.slice ao len cap, .agg #[.int .i64 vk, .int .i64 vi, .string vs]] w fun e w' => e = .returned (.int .i64 (Z.plI ws ⟨vk, vi, vs⟩)) ∧ Below w.heap.size w w' := by
  have mixed := Try.mixed
  have HL := hide h.1
  have HS := hide h
  have HW := hide hw
  have HE := hide (show ws.take len = ws by rw [← h.1]; exact List.take_length)
  clear h hw
  go_enter Try.func24, Try.ntmps24
  go_wp2_with fail
  go_loopw [5] (fun i wr => ∃ j : Nat, j ≤ len ∧ i = .int .i64 j ∧ Hid (∀ y ∈ ws.take j, Z.cv y ⟨vk, vi, vs⟩ ≠ 0) ∧ Hid (Below (w.alloc (.cells #[.int .i64 vk, .int .i64 vi, .string vs] 24)).heap.size (w.alloc (.cells #[.int .i64 vk, .int .i64 vi, .string vs] 24)) wr)) (fun i _ => len - (intOf i).toNat)
  case atStart => exact ⟨0, Nat.zero_le _, rfl, hide (by simp), hide (Below.refl _ _)⟩
  case round =>
    obtain ⟨j, hj, rfl, HN, HB⟩ := hrel
    by_cases hjl : j < len
    · obtain ⟨b, off, xk, xi, xs, rfl, hlt, hx, c1, c2, c3⟩ := HS.out.at hjl
      have hbw : Below w.heap.size w wr := (below_one w _).trans (HB.out.mono (by simp))
      have d1 : ∀ m os, (grow (wr.drewN m) os).cell? ⟨b, off + j * 3, none⟩ = some (.int .i64 xk) := cell_grown (Nat.lt_of_lt_of_le hlt hbw.size) (by rw [hbw.cell (p := ⟨b, off + j * 3, none⟩) hlt]; exact c1)
      have d2 : ∀ m os, (grow (wr.drewN m) os).cell? ⟨b, off + j * 3 + 1, none⟩ = some (.int .i64 xi) := cell_grown (Nat.lt_of_lt_of_le hlt hbw.size) (by rw [hbw.cell (p := ⟨b, off + j * 3 + 1, none⟩) hlt]; exact c2)
      have d3 : ∀ m os, (grow (wr.drewN m) os).cell? ⟨b, off + j * 3 + 2, none⟩ = some (.string xs) := cell_grown (Nat.lt_of_lt_of_le hlt hbw.size) (by rw [hbw.cell (p := ⟨b, off + j * 3 + 2, none⟩) hlt]; exact c3)
      have f1 := box_at (p := 0) HB.out (c := .int .i64 vk) (by simp)
      have f2 := box_at (p := 1) HB.out (c := .int .i64 vi) (by simp)
      have f3 := box_at (p := 2) HB.out (c := .string vs) (by simp)
      have HX := hide hx
      have hxs := hide (HW.out _ (List.mem_of_getElem? hx))
      obtain ⟨c, hc⟩ : ∃ c, Z.cv ⟨xk, xi, xs⟩ ⟨vk, vi, vs⟩ = c := ⟨_, rfl⟩
      have HC : Hid (∀ m os, Calls Try.prog 19 #[.agg #[.int .i64 xk, .int .i64 xi, .string xs], .agg #[.int .i64 vk, .int .i64 vi, .string vs]] (grow (wr.drewN m) os) fun e w' => e = .returned (.int .i64 c) ∧ ∃ q os', w' = grow ((grow (wr.drewN m) os).drewN q) os') := by
        intro m os; rw [← hc]; exact ucompare_two xk xi xs vk vi vs _ hxs.out hv
      have HV := hide hc
      clear c1 c2 c3 hx hbw hc
      by_cases hcn : c = 0
      · subst hcn
        go_wp2_with fail
        go_quiet_grown (first | (go_at_call 19; refine Calls.grown_of (HC.out _ _)) | (go_at_fn 19; refine Calls.grown_of (HC.out _ _)))
        have HB2 := hide (HB.out.trans ((grow_below wr nq osq).mono HB.out.size))
        clear d1 d2 d3 f1 f2 f3 HC HB
        generalize grow (wr.drewN nq) osq = w2 at HB2 ⊢
        clear nq osq
        go_wp2
        go_ret
        exact ⟨by rw [plI_at HX.out HV.out HN.out]; rfl, (below_one w _).trans (HB2.out.mono (by simp))⟩
      · have hcd : (c == 0) = false := beq_eq_false_iff_ne.2 hcn
        go_wp2_with fail
        go_quiet_grown (first | (go_at_call 19; refine Calls.grown_of (HC.out _ _)) | (go_at_fn 19; refine Calls.grown_of (HC.out _ _)))
        have HB2 := hide (HB.out.trans ((grow_below wr nq osq).mono HB.out.size))
        clear d1 d2 d3 f1 f2 f3 HC HB
        generalize grow (wr.drewN nq) osq = w2 at HB2 ⊢
        clear nq osq
        have HN2 : Hid (∀ y ∈ ws.take (j + 1), Z.cv y ⟨vk, vi, vs⟩ ≠ 0) := by
          intro y hy
          rw [take_snocV HX.out] at hy
          rcases List.mem_append.1 hy with hy | hy
          · exact HN.out y hy
          · simp at hy; subst hy; rw [HV.out]; exact hcn
        clear HN HV HX
        go_wp2
        go_round
        · exact ⟨j + 1, by omega, by go_num, HN2, HB2⟩
        · simp [intOf]; omega
    · obtain rfl : j = len := by omega
      go_wp2
      go_ret
      have hn := HN.out
      rw [HE.out] at hn
      exact ⟨by rw [plI_none hn]; rfl, (below_one w _).trans (HB.out.mono (by simp))⟩
set_option maxHeartbeats 1000000 in
theorem dbelow_any (ao : Option Addr) (len cap : Nat) (ws : List Z.V) (vk vi : Int) (vs : ByteArray) (w : World) (h : SlV w ao len cap ws) (hl : len ≤ 140737488355328) :
    Calls Try.prog 13 #[.slice ao len cap, .agg #[.int .i64 vk, .int .i64 vi, .string vs]] w fun e w' => e = .returned (.int .i64 (Z.blw ws ⟨vk, vi, vs⟩ : Nat)) ∧ Below w.heap.size w w' := by
  have HL := hide h.1
  have HS := hide h
  have HE := hide (show ws.take len = ws by rw [← h.1]; exact List.take_length)
  clear h
  go_enter Try.func13, Try.ntmps13
  go_wp2_with fail
  go_loopw [5, 10] (fun c i wr => ∃ j n : Nat, j ≤ len ∧ i = .int .i64 j ∧ c = .int .i64 n ∧ n ≤ j ∧ Hid (n = Z.blw (ws.take j) ⟨vk, vi, vs⟩) ∧ Hid (Below (w.alloc (.cells #[.int .i64 vk, .int .i64 vi, .string vs] 24)).heap.size (w.alloc (.cells #[.int .i64 vk, .int .i64 vi, .string vs] 24)) wr)) (fun _ i _ => len - (intOf i).toNat)
  case atStart => exact ⟨0, 0, Nat.zero_le _, rfl, rfl, Nat.zero_le _, hide (by simp [Z.blw]), hide (Below.refl _ _)⟩
  case round =>
    obtain ⟨j, n, hj, rfl, rfl, hn, HN, HB⟩ := hrel
    by_cases hjl : j < len
    · obtain ⟨b, off, xk, xi, xs, rfl, hlt, hx, c1, c2, c3⟩ := HS.out.at hjl
      have hbw : Below w.heap.size w wr := (below_one w _).trans (HB.out.mono (by simp))
      have d1 : wr.cell? ⟨b, off + j * 3, none⟩ = some (.int .i64 xk) := by rw [hbw.cell (p := ⟨b, off + j * 3, none⟩) hlt]; exact c1
      have d2 : wr.cell? ⟨b, off + j * 3 + 1, none⟩ = some (.int .i64 xi) := by rw [hbw.cell (p := ⟨b, off + j * 3 + 1, none⟩) hlt]; exact c2
      have d3 : wr.cell? ⟨b, off + j * 3 + 2, none⟩ = some (.string xs) := by rw [hbw.cell (p := ⟨b, off + j * 3 + 2, none⟩) hlt]; exact c3
      have hat : At wr w.heap.size vk vi vs := (At.new w vk vi vs).below HB.out
      obtain ⟨f1, f2, f3⟩ := hat.cells
      have hwlt : w.heap.size < wr.heap.size := by have := HB.out.size; simp at this; omega
      have HX := hide hx
      have HT := hide (blw_take (v := ⟨vk, vi, vs⟩) hx)
      obtain ⟨c, hc⟩ : ∃ c, Z.cv ⟨xk, xi, xs⟩ ⟨vk, vi, vs⟩ = c := ⟨_, rfl⟩
      have HC : Hid (∀ w, Calls Try.prog 23 #[.agg #[.int .i64 xk, .int .i64 xi, .string xs], .agg #[.int .i64 vk, .int .i64 vi, .string vs]] w fun e w' => e = .returned (.int .i64 c) ∧ Below w.heap.size w w') := by
        intro w; rw [← hc]; exact vcompare_any xk xi xs vk vi vs w
      rw [hc] at HT
      clear c1 c2 c3 hx hbw hc hat
      by_cases hcn : c < 0
      · go_wp2_with fail
        refine (HC.out _).mono ?_
        rintro e w2 ⟨rfl, hb2⟩
        have HB2 := hide (HB.out.trans ((bthen (below_one wr _) hb2).mono HB.out.size))
        clear d1 d2 d3 f1 f2 f3 HC HB hb2
        go_wp2
        go_round
        · exact ⟨j + 1, n + 1, by omega, by go_num, by go_num, by omega, hide (by rw [HT.out, if_pos hcn, HN.out]), HB2⟩
        · simp [intOf]; omega
      · go_wp2_with fail
        refine (HC.out _).mono ?_
        rintro e w2 ⟨rfl, hb2⟩
        have HB2 := hide (HB.out.trans ((bthen (below_one wr _) hb2).mono HB.out.size))
        clear d1 d2 d3 f1 f2 f3 HC HB hb2
        go_wp2
        go_round
        · exact ⟨j + 1, n, by omega, by go_num, rfl, by omega, hide (by rw [HT.out, if_neg (by omega), HN.out]; rfl), HB2⟩
        · simp [intOf]; omega
    · obtain rfl : j = len := by omega
      go_wp2
      go_ret
      refine ⟨?_, (below_one w _).trans (HB.out.mono (by simp))⟩
      have hn := HN.out
      rw [HE.out] at hn
      subst hn
      rfl
end Go.Proofs.Ytmhfpipeoojacaa
/- dict.risingPlaces: the places of words in the order of these, of alike ones the first place ahead. Conditions: fewer than 2^40 words. -/
namespace Go.Proofs.Ytmhfpipeoojacaa
set_option linter.unusedVariables false
set_option maxRecDepth 10000
open Go.RowKit Go.Sort
theorem SlV.kept {F : Nat → Prop} {w w' : World} {ao : Option Addr} {len cap : Nat} {l : List Z.V} (h : SlV w ao len cap l) (hb : Kept F w w') (hf : ∀ x, ao = some x → ¬ F x.block) : SlV w' ao len cap l := by
  obtain ⟨h1, h2, h3, h4, h5⟩ := h
  refine ⟨h1, h2, h3, h4, ?_⟩
  rcases h5 with h5 | ⟨b, off, rfl, hlt, h5⟩
  · exact .inl h5
  · refine .inr ⟨b, off, rfl, Nat.lt_of_lt_of_le hlt hb.size, fun j x hx => ?_⟩
    have e := hb.block b hlt (hf _ rfl)
    obtain ⟨c1, c2, c3⟩ := h5 j x hx
    simp only [World.cell?] at c1 c2 c3 ⊢
    rw [e]
    exact ⟨c1, c2, c3⟩
set_option maxHeartbeats 1000000 in
theorem placesC_any (ao : Option Addr) (len cap bw : Nat) (ws : List Z.V) (i j : Nat) (x y : Z.V) (w : World) (h : SlV w ao len cap ws) (hb : w.cell? ⟨bw, 0, none⟩ = some (.slice ao len cap)) (hbl : bw < w.heap.size) (hi : ws[i]? = some x) (hj : ws[j]? = some y) (hl : len ≤ 140737488355328) :
    Calls Try.prog 40 #[.int .i64 i, .int .i64 j, .pointer (some ⟨bw, 0, none⟩)] w fun e w' => e = .returned (.int .i64 (Z.cv x y)) ∧ ∃ q os, w' = grow (w.drewN q) os := by
  have mixed := Try.mixed
  have hil : i < len := by rw [← h.1]; exact (List.getElem?_eq_some_iff.1 hi).1
  have hjl : j < len := by rw [← h.1]; exact (List.getElem?_eq_some_iff.1 hj).1
  obtain ⟨b, off, xk, xi, xs, rfl, hlt, hx, c1, c2, c3⟩ := h.at hil
  obtain ⟨b', off', yk, yi, ys, e, _, hy, g1, g2, g3⟩ := h.at hjl
  obtain ⟨rfl, rfl⟩ : b = b' ∧ off = off' := by injection e with e; injection e with e1 e2 e3; exact ⟨e1, e2⟩
  rw [hx] at hi
  rw [hy] at hj
  obtain rfl := Option.some.inj hi
  obtain rfl := Option.some.inj hj
  have d1 := cell_grown hlt c1
  have d2 := cell_grown hlt c2
  have d3 := cell_grown hlt c3
  have f1 := cell_grown hlt g1
  have f2 := cell_grown hlt g2
  have f3 := cell_grown hlt g3
  have hbx := cell_grown (a := ⟨bw, 0, none⟩) hbl hb
  obtain ⟨c, hc⟩ : ∃ c, Z.cv ⟨xk, xi, xs⟩ ⟨yk, yi, ys⟩ = c := ⟨_, rfl⟩
  have HC : Hid (∀ m os, Calls Try.prog 23 #[.agg #[.int .i64 xk, .int .i64 xi, .string xs], .agg #[.int .i64 yk, .int .i64 yi, .string ys]] (grow (w.drewN m) os) fun e w' => e = .returned (.int .i64 c) ∧ ∃ q os', w' = grow ((grow (w.drewN m) os).drewN q) os') := by
    intro m os; rw [← hc]
    refine (vcompare_two xk xi xs yk yi ys _).mono ?_
    rintro e w' ⟨rfl, a, b, rfl⟩
    exact ⟨rfl, 0, _, two_grow _ _ _⟩
  rw [hc]
  clear hc h hx hy c1 c2 c3 g1 g2 g3 hb e hi hj
  go_enter Try.func40, Try.ntmps40
  go_wp2_with fail
  go_quiet_grown (first | (go_at_call 23; refine Calls.grown_of (HC.out _ _)))
  go_wp2
  go_ret
  exact ⟨rfl, _, _, rfl⟩
end Go.Proofs.Ytmhfpipeoojacaa
/- dict.risingPlaces: the places of words in the order of these, of alike ones the first place ahead. Conditions: fewer than 2^40 words. -/
namespace Go.Proofs.Ytmhfpipeoojacaa
set_option linter.unusedVariables false
set_option maxRecDepth 10000
open Go.RowKit Go.Sort
theorem Try.infoInt : (Try.prog.info? 3).map (fun i => (i.zero, i.size, i.bytes)) = some (some (.int .i64 0), 1, 8) := by kernel_rfl
def encF {n : Nat} (x : Fin (n + 1)) : Value := .int .i64 (x.val : Int)
def cfF (ws : List Z.V) {n : Nat} (x y : Fin (n + 1)) : Int := cfL ws x.val y.val
theorem cfF_swo (ws : List Z.V) (n : Nat) : SWO (ltOf (cfF ws (n := n))) := ⟨fun x => (cfL_swo ws).irrefl x.val, fun x y z => (cfL_swo ws).trans x.val y.val z.val, fun x y z => (cfL_swo ws).ntrans x.val y.val z.val⟩
/-- Places, one by one. -/
def fr (n : Nat) : Array (Fin (n + 1)) := Array.ofFn fun i => i
theorem fr_size (n : Nat) : (fr n).size = n + 1 := by simp [fr]
theorem fr_get (n i : Nat) (h : i < n + 1) : (fr n)[i]! = ⟨i, h⟩ := by
  rw [getElem!_pos _ i (by rw [fr_size]; exact h)]; simp [fr]
theorem map_get {n : Nat} (dk : Array (Fin (n + 1))) (i : Nat) (h : i < dk.size) : (dk.map (fun x => x.val))[i]! = (dk[i]!).val := by
  rw [getElem!_pos _ i (by simpa using h), getElem!_pos _ i h]; simp
theorem srt_fin {ws : List Z.V} {n : Nat} (hn : ws.length = n + 1) {dk : Array (Fin (n + 1))} (h1 : PermIn 0 (n + 1) (fr n) dk) (h2 : SortedIn (Y.lx (ltOf (cfF ws)) (fun x : Fin (n + 1) => x.val)) 0 (n + 1) dk) : Srt ws (dk.map fun x => x.val) := by
  have hs : dk.size = n + 1 := by rw [h1.1, fr_size]
  have hp := h1.2.2
  rw [extract_toList dk 0 (n + 1) (by omega), extract_toList _ 0 (n + 1) (by rw [fr_size]; exact Nat.le_refl _)] at hp
  simp only [Nat.sub_zero] at hp
  have hp := hp.map (fun x : Fin (n + 1) => x.val)
  rw [List.map_map, List.map_map] at hp
  have e1 : (List.range' 0 (n + 1)).map ((fun x : Fin (n + 1) => x.val) ∘ fun i => dk[i]!) = (List.range' 0 (n + 1)).map fun i => (dk.map (fun x => x.val))[i]! := by
    apply List.map_congr_left
    intro i hi
    have := (List.mem_range'_1.1 hi).2
    rw [map_get dk i (by omega)]; rfl
  have e2 : (List.range' 0 (n + 1)).map ((fun x : Fin (n + 1) => x.val) ∘ fun i => (fr n)[i]!) = List.range' 0 (n + 1) := by
    apply List.ext_getElem
    · simp
    · intro i a b
      have : i < n + 1 := by simpa using a
      simp [fr_get n i this]
  rw [e1, e2] at hp
  refine srt_of ?_ ?_
  · rw [hn]
    refine ⟨by simp [hs], fun i hi => ?_, ?_⟩
    · rcases hi with hi | hi
      · omega
      · rw [getElem!_neg _ i (by simp; omega), getElem!_neg _ i (by simp; omega)]
    · rw [extract_toList _ 0 (n + 1) (by simp; omega), extract_toList _ 0 (n + 1) (by simp)]
      simp only [Nat.sub_zero]
      have e3 : (List.range' 0 (n + 1)).map (fun i => (Array.range (n + 1))[i]!) = List.range' 0 (n + 1) := by
        apply List.ext_getElem
        · simp
        · intro i a b
          have : i < n + 1 := by simpa using a
          simp [this]
      rw [e3]
      exact hp
  · rw [hn]
    intro i j k1 k2 k3
    have := h2 i j k1 k2 k3
    rw [map_get dk i (by omega), map_get dk j (by omega)]
    exact this
/-- A row of ints of one's own, as a sort asks it. -/
theorem row1_of_own {w : World} {B g cap n : Nat} (h : w.ownsRow B 3 1 (.slice (some ⟨g, 0, none⟩) (n + 1) cap) (n + 1) ((ints (List.range (n + 1))).map (Value.int .i64))) : Row1 (encF (n := n)) w g 0 (fr n) := by
  rcases h.2 with ⟨h1, h2⟩ | ⟨g', cap', cur, hv, hg, hh, hc, hm, hsz, ht⟩
  · cases h1
  · injection hv with e1 e2 e3
    injection Option.some.inj e1 with e4 e5 e6
    subst e4
    refine ⟨fun _ => rfl, fun j hj => ?_, lt_of_block hh⟩
    rw [fr_size] at hj
    refine ⟨?_, by simp [World.frozen?, hh]⟩
    have e : cur.toList[j]? = some (.int .i64 (j : Int)) := by
      rw [show cur.toList[j]? = (cur.toList.take ((n + 1) * 1))[j]? by rw [List.getElem?_take_of_lt (by omega)], ht]
      simp [ints, hj]
    rw [fr_get n j hj]
    simp only [World.cell?, hh, Nat.zero_add, Option.isSome_none, Bool.false_eq_true, if_false, encF]
    rw [← Array.getElem?_toList, e]
theorem own1_sorted {w w2 : World} {B g cap n : Nat} {dk : Array (Fin (n + 1))} {xs : List Value} (h : w.ownsRow B 3 1 (.slice (some ⟨g, 0, none⟩) (n + 1) cap) (n + 1) xs) (hs : dk.size = n + 1) (hw : SW encF w g 0 dk w2) :
    w2.ownsRow B 3 1 (.slice (some ⟨g, 0, none⟩) (n + 1) cap) (n + 1) ((ints (dk.map fun x => x.val).toList).map (Value.int .i64)) ∧ Kept (fun b => b = g) w w2 := by
  obtain ⟨m, os, rfl⟩ := hw
  rcases h.2 with ⟨h1, h2⟩ | ⟨g', cap', cur, hv, hg, hh, hc, hm, hsz, ht⟩
  · cases h1
  · injection hv with e1 e2 e3
    injection Option.some.inj e1 with e4 e5 e6
    subst e4; subst e3
    have hlt : g < w.heap.size := lt_of_block hh
    have hblk : (sortWorld encF w g 0 m dk os).heap[g]? = some (.cells (putCells encF 0 dk cur) 3 (0, 0)) := by
      unfold sortWorld
      have : (grow (putRow encF (Sort.ahead w m) g 0 dk) os).heap[g]? = (putRow encF (Sort.ahead w m) g 0 dk).heap[g]? := by
        simp only [grow]; rw [Array.getElem?_append_left (by simpa using hlt)]
      rw [this]
      simp [putRow, mapBlock, Sort.ahead, Array.getElem?_modify, hh, onCells]
    refine ⟨⟨by simp [ints, hs], .inr ⟨g, cap, _, rfl, hg, hblk, hc, hm, by simp [putCells, hsz], ?_⟩⟩, rfl, rfl, rfl, ?_, fun b hb hne => ?_⟩
    · apply List.ext_getElem?
      intro j
      by_cases hj : j < n + 1
      · rw [List.getElem?_take_of_lt (by omega), Array.getElem?_toList]
        simp only [putCells, Array.getElem?_mapIdx]
        rw [Array.getElem?_eq_getElem (show j < cur.size by omega), Option.map_some, if_pos ⟨by omega, by omega⟩, Nat.sub_zero, getElem!_pos dk j (by omega)]
        simp [ints, show j < dk.size by omega, encF]
      · rw [List.getElem?_take_eq_none (by omega), List.getElem?_eq_none (by simp [ints]; omega)]
    · unfold sortWorld; rw [size_grow, size_putRow]; show w.heap.size ≤ w.heap.size + _; omega
    · unfold sortWorld
      have : (grow (putRow encF (Sort.ahead w m) g 0 dk) os).heap[b]? = (putRow encF (Sort.ahead w m) g 0 dk).heap[b]? := by
        simp only [grow]; rw [Array.getElem?_append_left (by simpa using hb)]
      rw [this]
      simp [putRow, mapBlock, Sort.ahead, Array.getElem?_modify, Ne.symm hne]
theorem sw_kept {n : Nat} (w : World) (g m : Nat) (dk : Array (Fin (n + 1))) (os : Array Obj) : Kept (fun b => b = g) w (sortWorld encF w g 0 m dk os) := by
  refine ⟨rfl, rfl, rfl, ?_, fun b hb hne => ?_⟩
  · unfold sortWorld; rw [size_grow, size_putRow]; show w.heap.size ≤ w.heap.size + _; omega
  · unfold sortWorld
    have : (grow (putRow encF (Sort.ahead w m) g 0 dk) os).heap[b]? = (putRow encF (Sort.ahead w m) g 0 dk).heap[b]? := by
      simp only [grow]; rw [Array.getElem?_append_left (by simpa using hb)]
    rw [this]
    simp [putRow, mapBlock, Sort.ahead, Array.getElem?_modify, Ne.symm hne]
/-- The sort of places by the words that stand there. -/
theorem sortI_own (g cap B n bw : Nat) (ao : Option Addr) (wc : Nat) (ws : List Z.V) (w : World) (hn : ws.length = n + 1) (ho : w.ownsRow B 3 1 (.slice (some ⟨g, 0, none⟩) (n + 1) cap) (n + 1) ((ints (List.range (n + 1))).map (Value.int .i64)))
    (hsl : SlV w ao (n + 1) wc ws) (hb : w.cell? ⟨bw, 0, none⟩ = some (.slice ao (n + 1) wc)) (hbl : bw < w.heap.size) (hbg : bw ≠ g) (hag : ∀ x, ao = some x → x.block ≠ g) (hl : n + 1 ≤ 140737488355328) :
    Calls Try.prog 39 #[.slice (some ⟨g, 0, none⟩) (n + 1) cap, .func (.func 40) #[] #[.pointer (some ⟨bw, 0, none⟩)]] w fun e w' => e = .returned (.tuple #[]) ∧ ∃ dk : Array Nat, Srt ws dk ∧ w'.ownsRow B 3 1 (.slice (some ⟨g, 0, none⟩) (n + 1) cap) (n + 1) ((ints dk.toList).map (Value.int .i64)) ∧ Kept (fun b => b = g) w w' := by
  have R := row1_of_own ho
  refine (sortStableI layI Try.func104 Try.func97 Try.func85 Try.func86 Try.func62 Try.func39 (encF (n := n)) (cfF ws) (fun x : Fin (n + 1) => x.val) (Y.lx_swo (cfF_swo ws n) _) 40 #[.pointer (some ⟨bw, 0, none⟩)] g 0 cap (fr n) w R (enters_of Try.func40 (by kernel_rfl) rfl) ?_ (n + 1) (by rw [fr_size]) (by omega) (fun i hi => by rw [fr_get n i hi])).mono ?_
  · intro m os dk hs x y
    have hk := sw_kept w g m dk os
    have hx : ws[x.val]? = some (ws.getD x.val Z.o) := by rw [List.getD_eq_getElem?_getD, List.getElem?_eq_getElem (by rw [hn]; exact x.isLt)]; rfl
    have hy : ws[y.val]? = some (ws.getD y.val Z.o) := by rw [List.getD_eq_getElem?_getD, List.getElem?_eq_getElem (by rw [hn]; exact y.isLt)]; rfl
    refine (placesC_any ao (n + 1) wc bw ws x.val y.val _ _ _ (hsl.kept hk (fun a ha => hag a ha)) ?_ (Nat.lt_of_lt_of_le hbl hk.size) hx hy hl)
    have e := hk.block bw hbl hbg
    simp only [World.cell?] at hb ⊢
    rw [e]; exact hb
  · rintro e w' ⟨rfl, dk, h1, h2, h3⟩
    have hs : dk.size = n + 1 := by rw [h2.1, fr_size]
    have := own1_sorted ho hs h1
    exact ⟨rfl, _, srt_fin hn h2 h3, this.1, this.2⟩
end Go.Proofs.Ytmhfpipeoojacaa

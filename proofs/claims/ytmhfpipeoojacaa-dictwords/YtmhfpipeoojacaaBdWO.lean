/- DictFinds: the codes of any values among any words, and how many words are below any value, are the document's, or refused. Conditions: none. -/
import Derived.Test.YtmhfpipeoojacaaBdZC
namespace Go.Proofs.Ytmhfpipeoojacaa
set_option linter.unusedVariables false
set_option maxRecDepth 10000
open Go.RowKit Go.Sort
/-- A world behind another one, all that was there still there. -/
structure BBy (w : World) where
  v : World
  h : Below w.heap.size w v
theorem region_below {id : Nat} {Q : Exit → Act → World → Prop} {a : Act} {w : World} {l : List Oper} (hB : Region.lexB .any l.toArray = true)
    (h : wpQuiet Try.prog l.toArray (fun w' => ∃ p : BBy w, w' = p.v) (fun a' => ∀ w', (∃ p : BBy w, w' = p.v) → Q .normal a' w') l a) : (Code.region id l.toArray true).wp Try.prog Q a w :=
  wp_region_quiet (C := fun w' => ∃ p : BBy w, w' = p.v) Try.mixed hB ⟨⟨{ w with drawn := w.drawn + 1 }, ⟨rfl, rfl, rfl, Nat.le_refl _, fun _ _ => rfl⟩⟩, rfl⟩ (by simpa using h)
theorem Calls.below_of {f : FuncId} {args : Array Value} {w : World} {p : BBy w} {v : Value} (h : Calls Try.prog f args p.v fun e w' => e = .returned v ∧ Below p.v.heap.size p.v w') : Calls Try.prog f args p.v fun e w'' => e = .returned v ∧ ∃ p' : BBy w, w'' = p'.v :=
  h.mono fun _ w' ⟨he, hb⟩ => ⟨he, ⟨w', bthen p.h hb⟩, rfl⟩
theorem Calls.kept_of {f : FuncId} {args : Array Value} {w : World} {p : BBy w} {v : Value} (h : Calls Try.prog f args p.v fun e w' => e = .returned v ∧ Kept (fun _ => False) p.v w') : Calls Try.prog f args p.v fun e w'' => e = .returned v ∧ ∃ p' : BBy w, w'' = p'.v :=
  Calls.below_of (h.mono fun _ w' ⟨he, hb⟩ => ⟨he, hb.below (Nat.le_refl _) (by simp)⟩)
set_option maxHeartbeats 2000000 in
theorem dictFinds_walk (w : World) (aw : Option Addr) (nw cw : Nat) (ws : List Z.V) (h1 : SlV w aw nw cw ws) (f1 : ∀ x ∈ ws, Z.Wf x) (r1 : cw * 32 ≤ 140737488351232) (al : Option Addr) (nl cl : Nat) (l : List Z.V) (h2 : SlV w al nl cl l) (f2 : ∀ x ∈ l, Z.Wf x) (r2 : cl * 32 ≤ 140737488351232) (vk vi : Int) (vs : ByteArray) (hvk : Z.I64 vk) (hvi : Z.I64 vi) (hv : vs.size ≤ maxLen) :
    Calls Try.prog 3 #[.slice aw nw cw, .slice al nl cl, .agg #[.int .i64 vk, .int .i64 vi, .string vs]] w fun e w' => e = .returned (.bool true) ∧ Below w.heap.size w w' := by
  have b1 : nw ≤ 140737488355328 := by have := h1.2.1; omega
  have b2 : nl ≤ 140737488355328 := by have := h2.2.1; omega
  obtain rfl : nw = ws.length := h1.1.symm
  obtain rfl : nl = l.length := h2.1.symm
  have H1 := hide h1
  have H2 := hide h2
  have S1 : Hid (∀ x ∈ ws, x.s.size ≤ 9223372036854775807) := fun x hx => (f1 x hx).2.2
  have S2 : Hid (∀ x ∈ l, x.s.size ≤ 9223372036854775807) := fun x hx => (f2 x hx).2.2
  have HV : Hid (vs.size ≤ 9223372036854775807) := hv
  obtain ⟨w1, hw1⟩ : ∃ w1, w.alloc (.cells #[.int .i64 vk, .int .i64 vi, .string vs] 24) = w1 := ⟨_, rfl⟩
  have hb1 : Below w.heap.size w w1 := by rw [← hw1]; exact below_one w _
  have hat : At w1 w.heap.size vk vi vs := by rw [← hw1]; exact At.new w vk vi vs
  have HW := hide hw1
  have HB1 := hide hb1
  have HA := hide hat
  clear h1 h2 f1 f2 hv hw1 hb1 hat
  go_enter Try.func3, Try.ntmps3
  go_wp2_with fail
  rw [HW.out]
  refine (dshown_any _).mono ?_
  rintro e w2 ⟨rfl, hb2⟩
  have HB2 := hide (HB1.out.trans (hb2.mono HB1.out.size))
  have HA2 := hide (HA.out.below hb2)
  clear hb2 HB1 HA HW
  go_wp2_with fail
  refine (dfew_any aw ws.length cw ws w2 (H1.out.below HB2.out) b1).mono ?_
  rintro e w3 ⟨q, rfl, hq, rfl⟩
  cases q with
  | false =>
    clear hq
    go_wp2
    go_ret
    exact ⟨rfl, HB2.out⟩
  | true =>
    have hq := hq rfl
    go_wp2_with fail
    refine (dfew_any al l.length cl l _ (H2.out.below HB2.out) b2).mono ?_
    rintro e w3 ⟨q, rfl, hq2, rfl⟩
    cases q with
    | false =>
      clear hq2
      go_wp2
      go_ret
      exact ⟨rfl, HB2.out⟩
    | true =>
      have hq2 := hq2 rfl
      go_wp2_with fail
      refine (codes_any aw cw ws al cl l _ (H1.out.below HB2.out) (H2.out.below HB2.out) (by omega) (by omega)).mono ?_
      rintro e w4 ⟨ac, nc, cc, rfl, hs4, hb4⟩
      have HB4 := hide (HB2.out.trans (hb4.mono HB2.out.size))
      have HA4 := hide (HA2.out.below hb4)
      obtain ⟨E, hE⟩ : ∃ E, Z.cdE ws l = E := ⟨_, rfl⟩
      rw [hE]
      have HE := hide hE
      have HS4 := hide hs4
      have HN4 := hide hs4.1
      clear hs4 hb4 hE HA2
      go_wp2_with fail
      refine (rcodes_any aw cw ws al cl l _ (H1.out.below HB4.out) (H2.out.below HB4.out) (by omega) (by omega) S1.out S2.out).mono ?_
      rintro e w5 ⟨ad, nd, cd, rfl, hs5, hb5⟩
      rw [HE.out]
      obtain rfl : nc = nd := by rw [← HN4.out, ← hs5.1]
      have HB5 := hide (HB4.out.trans (hb5.mono HB4.out.size))
      have HA5 := hide (HA4.out.below hb5)
      have hnc : nc ≤ 140737488355328 := by
        have := HN4.out
        have h3 : (Z.cdL ws l).length ≤ l.length := by unfold Z.cdL; split <;> simp
        simp [ints] at this
        omega
      have SAME : Hid (∀ p : BBy w5, Calls Try.prog 12 #[.slice ac nc cc, .slice ad nc cd] p.v fun e w' => e = .returned (.bool true) ∧ Kept (fun _ => False) p.v w') := fun p => u64same_yes ac ad nc cc cd _ p.v ((HS4.out.below hb5).below p.h) (hs5.below p.h) hnc
      have BL1 : Hid (∀ p : BBy w5, Calls Try.prog 13 #[.slice aw ws.length cw, .agg #[.int .i64 vk, .int .i64 vi, .string vs]] p.v fun e w' => e = .returned (.int .i64 (Z.blw ws ⟨vk, vi, vs⟩ : Nat)) ∧ Below p.v.heap.size p.v w') := fun p => dbelow_any aw _ cw ws vk vi vs p.v ((H1.out.below HB5.out).below p.h) b1
      have BL2 : Hid (∀ p : BBy w5, Calls Try.prog 14 #[.slice aw ws.length cw, .agg #[.int .i64 vk, .int .i64 vi, .string vs]] p.v fun e w' => e = .returned (.int .i64 (Z.blw ws ⟨vk, vi, vs⟩ : Nat)) ∧ Below p.v.heap.size p.v w') := fun p => rbelow_any aw _ cw ws vk vi vs p.v ((H1.out.below HB5.out).below p.h) S1.out HV.out b1
      have g1 : ∀ p : BBy w5, p.v.cell? ⟨w.heap.size, 0, none⟩ = some (.int .i64 vk) := fun p => (HA5.out.below p.h).cells.1
      have g2 : ∀ p : BBy w5, p.v.cell? ⟨w.heap.size, 1, none⟩ = some (.int .i64 vi) := fun p => (HA5.out.below p.h).cells.2.1
      have g3 : ∀ p : BBy w5, p.v.cell? ⟨w.heap.size, 2, none⟩ = some (.string vs) := fun p => (HA5.out.below p.h).cells.2.2
      obtain ⟨n, hn⟩ : ∃ n, Z.blw ws ⟨vk, vi, vs⟩ = n := ⟨_, rfl⟩
      rw [hn] at BL1 BL2
      clear hs5 hb5 hn HA4 HS4 HN4 HE
      have inh : Nonempty (BBy w5) := ⟨⟨w5, Below.refl _ _⟩⟩
      go_wp2_with fail
      refine region_below (by kernel_rfl) ?_
      repeat (quiet_step (first | (go_at_call 12; refine Calls.kept_of (SAME.out _)) | (go_at_call 13; refine Calls.below_of (BL1.out _)) | (go_at_call 14; refine Calls.below_of (BL2.out _))))
      refine wpQuiet_nil ?_
      intro _ hw'
      obtain ⟨⟨w6, hb6⟩, hw''⟩ := hw'
      subst hw''
      have HB6 := hide (HB5.out.trans (hb6.mono HB5.out.size))
      clear hb6 SAME BL1 BL2 g1 g2 g3
      go_wp2
      go_ret
      exact ⟨rfl, HB6.out⟩
end Go.Proofs.Ytmhfpipeoojacaa

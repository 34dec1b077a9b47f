/- slices.Collect of numbers that a function tells. -/
import Derived.Test.YtlbchdlokimpfaaB5
namespace Go.Proofs.Ytlbchdlokimpfaa
set_option linter.unusedVariables false
set_option maxRecDepth 10000
open Go.RowKit
attribute [local go_sem] Oper.semAt_some

/-- A row of one's own: it lies in a block that is new, and that is no set's. -/
def NewAt (w0 w : World) (ao : Option Addr) : Prop := ∀ x, ao = some x → w0.heap.size ≤ x.block ∧ ∃ (cs : Array Value) (t : TypeId) (fr : Nat × Nat), w.heap[x.block]? = some (.cells cs t fr) ∧ t ≠ 28
theorem NewAt.of_owns {w0 w : World} {e : TypeId} {size : Nat} {ao : Option Addr} {len cap n : Nat} {xs : List Value} (h : w.ownsRow w0.heap.size e size (.slice ao len cap) n xs) (he : e ≠ 28) : NewAt w0 w ao := by
  intro x hx
  rcases h.2 with ⟨h1, _⟩ | ⟨g, c, cur, h1, hg, hh, _⟩
  · injection h1 with e1; rw [e1] at hx; cases hx
  · injection h1 with e1
    rw [e1] at hx
    cases hx
    exact ⟨hg, cur, e, (0, 0), hh, he⟩
theorem Try.infoInt : (Try.prog.info? 3).map (fun i => (i.zero, i.size, i.bytes)) = some (some (.int .i64 0), 1, 8) := by kernel_rfl
/-- An append to one's own row in a box leaves each block of another type. -/
theorem type_appended {W w1 : World} {n₀ B : Nat} {t e u : TypeId} {size : Nat} {v v' : Value} {k : Nat} {xs : List Value} {tmp : Obj} (hv : Boxed W B t v) (hrow : W.ownsRow n₀ e size v k xs) (hu : u ≠ t) (hue : u ≠ e) (hgrow : (W.alloc tmp).grownBy w1 v.ownBlock)
    (b : Nat) (cs : Array Value) (fr : Nat × Nat) (hb : W.heap[b]? = some (.cells cs u fr)) : (w1.setCell ⟨B, 0, none⟩ v').heap[b]? = some (.cells cs u fr) := by
  have hlt : b < W.heap.size := (Array.getElem?_eq_some_iff.1 hb).1
  have hne : b ≠ B := fun e' => by subst e'; rw [show W.heap[b]? = _ from hv] at hb; have := Option.some.inj hb; injection this with h1 h2; exact hu h2.symm
  rw [Below.heap_setCell _ _ _ _ (by exact hne), hgrow.block b (by simp; omega) (fun e' => ?_), Below.heap_alloc _ _ _ hlt]
  · exact hb
  · rcases hrow.2 with ⟨rfl, _⟩ | ⟨g, cap, cur, rfl, _, hgb, _⟩
    · simp [Value.ownBlock] at e'
    · have hg : b = g := by simpa [Value.ownBlock] using e'
      subst hg
      rw [hgb] at hb
      have := Option.some.inj hb
      injection this with h1 h2
      exact hue h2.symm

set_option maxHeartbeats 2000000 in
theorem appseq_any (v : Value) (w : World) (ps : List Int) (hps : ps.length ≤ 16777216) (h : GivesS v w ps) :
    Calls Try.prog 53 #[.slice none 0 0, v] w fun e w' => ∃ ao cap, e = .returned (.slice ao ps.length cap) ∧ Sl w' .i64 ao ps.length cap ps ∧ NewAt w w' ao ∧ Below w.heap.size w w' := by
  obtain ⟨g, lb, n₀, rfl, hn₀, heg, hseq⟩ := h
  obtain ⟨i0, hi0, hz0, hz1, hz2⟩ := info_parts Try.infoInt
  refine calls_marks Try.func53 rfl ?_
  simp only [Try.ntmps53, List.size_toArray, List.length_cons, List.length_nil, Nat.reduceAdd, Nat.reduceSub, Array.replicate_succ, Array.replicate_zero, List.push_toArray, List.append_toArray, List.nil_append, List.cons_append]
  have HEG := hide heg
  have HSEQ := hide hseq
  clear heg hseq
  go_wp2_with fail
  have bN := Boxed.new w 22 (.slice none 0 0)
  have hB0 := below_one w (.cells #[.slice none 0 0] 22)
  obtain ⟨w1, hw1⟩ : ∃ w1, w.alloc (.cells #[.slice none 0 0] 22) = w1 := ⟨_, rfl⟩
  have hsz : w1.heap.size = w.heap.size + 1 := by rw [← hw1]; simp
  rw [hw1] at bN hB0 ⊢
  clear hw1
  refine (wpIn_wide (n := 9)).1 (wpIn_rangeFunc_ownG rfl (by decide) (gf := g) (lb := lb) rfl trivial HEG.out HSEQ.out KS.trans (KS.putObj (by omega)) hB0 (fun _ => rfl)
    (fun pre W => (∃ v, Boxed W w.heap.size 22 v ∧ W.ownsRow w.heap.size 3 1 v pre.length (pre.map (Value.int .i64)) ∧ True) ∧ Below w.heap.size w W)
    (fun _ _ _ => False)
    (OwnFrom.and (Own.from (holdsRow_own w.heap.size w.heap.size 22 3 1 (fun pre : List Int => pre.length) (fun pre : List Int => pre.map (Value.int .i64)) (fun _ _ => True)) _) (ownFrom_below (Nat.le_refl _) (by omega)))
    (fun _ _ _ _ _ hs _ _ => hs)
    ⟨⟨_, bN, World.ownsRow_nil _ _ _ _, trivial⟩, hB0⟩
    (fun x => { tmps := #[.slice none 0 0, .func (.func g) #[] lb, .pointer (some ⟨w.heap.size, 0, none⟩), undef, .slice none 0 0, .int .i64 x, .func (.func g) #[] lb, .int .i64 x, undef, undef, undef, undef, undef], defers := [] }) ?assign ?body ?done ?stop)
  case assign =>
    intro l x W K hK
    gi_wp2
    simpa using hK
  case body =>
    rintro l pre x W ⟨⟨v, hbx, hrow, -⟩, hB⟩ hlt
    have hc := hbx.cell
    gi_wp2_with (gi_at_builtin; refine wpListIn_append_own _ rfl _ _ 22 rfl w.heap.size 3 i0 (.int .i64 0) 1 8 Try.underlying22 hi0 hz0 hz1 hz2 rfl (by decide) v pre.length (pre.map (Value.int .i64)) rfl (World.ownsRow.alloc hrow _) ⟨W.heap.size, 0, none⟩ 1 1 [.int .i64 x] rfl rfl (Sl.news1 3 x _ rfl) (by simp [Value.oneCell']) (by unfold maxLen; omega) (by omega) (by have := hB.size; simp; omega) ?_)
    intro v' w3 hown hgrow hnil
    obtain ⟨h1, h2, h3, h4, h5⟩ := Boxed.appended (n₀ := w.heap.size) hbx (by decide) hrow hB.size (Nat.le_refl _) hown hgrow
    have h6 := type_appended (v' := v') hbx hrow (u := 86) (by decide) (by decide) hgrow
    obtain ⟨ag, ac, rfl⟩ := ownsRow_succ hown
    have hc3 := h1.cell
    have hf3 := h1.frozen
    have H2 := hide h2
    have H3 := hide h3
    have H4 := hide h4
    have H5 := hide h5
    have H6 := hide h6
    have HB := hide hB
    clear hbx hrow hB hc h1 h2 h3 h4 h5 h6 hown hgrow hnil
    gi_wp2
    exact ⟨H4.out.from _, ⟨H5.out.mono hn₀, H6.out⟩, ⟨⟨_, H2.out, by simpa using H3.out, trivial⟩, HB.out.trans H5.out⟩⟩
  case done =>
    rintro D ys W hD rfl ⟨⟨v, hbx, hrow, -⟩, hB⟩ hK
    have hro := ownsRow_putObj hrow (.deferred none) hK rfl
    obtain ⟨ao, cap, rfl, hsl, hob⟩ := Sl.of_owns hro
    have hnw : NewAt w (W.putObj D (.deferred none)) ao := NewAt.of_owns hro (by decide)
    have HNW := hide hnw
    clear hob hnw
    have hc := hbx.cell
    have HSL := hide hsl
    have HB := hide hB
    clear hrow hro hbx hsl hB
    go_wp2
    refine ⟨by simp, .inl ⟨_, _, rfl, run_takeDeferred hK, ?_⟩⟩
    have hbp : Below w.heap.size W (W.putObj D (.deferred none)) := belowK_b (w := w1) (by omega) W D _ _ (by omega) hK rfl rfl
    exact ⟨_, results_tmp rfl _ _ _, ao, cap, rfl, HSL.out, HNW.out, HB.out.trans hbp⟩
  case stop =>
    rintro D c pre W _ _ h _
    exact h.elim
theorem collect_any (v : Value) (w : World) (ps : List Int) (hps : ps.length ≤ 16777216) (h : GivesS v w ps) :
    Calls Try.prog 46 #[v] w fun e w' => ∃ ao cap, e = .returned (.slice ao ps.length cap) ∧ Sl w' .i64 ao ps.length cap ps ∧ NewAt w w' ao ∧ Below w.heap.size w w' := by
  have h0 := h
  obtain ⟨g, lb, n₀, rfl, -⟩ := h
  have H := hide h0
  clear h0
  go_enter Try.func46, Try.ntmps46
  go_wp2_with fail
  refine (appseq_any _ _ ps hps H.out).mono ?_
  rintro e w1 ⟨ao, cap, rfl, hs, hn, hb⟩
  have HS := hide hs
  have HB := hide hb
  have HN := hide hn
  clear hs hb hn
  go_wp2
  go_ret
  exact ⟨ao, cap, rfl, HS.out, HN.out, HB.out⟩
end Go.Proofs.Ytlbchdlokimpfaa

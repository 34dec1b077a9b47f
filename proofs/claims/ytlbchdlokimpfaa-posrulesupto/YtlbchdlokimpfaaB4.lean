/- The numbers of spans, told one by one: whoever is told them must leave spans alone. -/
import Derived.Test.YtlbchdlokimpfaaB3
namespace Go.Proofs.Ytlbchdlokimpfaa
set_option linter.unusedVariables false
set_option maxRecDepth 10000
open Go.RowKit
attribute [local go_sem] Oper.semAt_some

/-- What lay below n₀, and each block of spans, lies as it lay. -/
def KS (n₀ : Nat) (W W' : World) : Prop := Below n₀ W W' ∧ ∀ (b : Nat) (cs : Array Value) (fr : Nat × Nat), W.heap[b]? = some (.cells cs 86 fr) → W'.heap[b]? = some (.cells cs 86 fr)
theorem KS.trans {n₀ : Nat} {A B C : World} (h : KS n₀ A B) (k : KS n₀ B C) : KS n₀ A C := ⟨h.1.trans k.1, fun b cs fr hb => k.2 b cs fr (h.2 b cs fr hb)⟩
theorem KS.putObj {n₀ : Nat} {w : World} (hn : n₀ ≤ w.heap.size) (W : World) (l : Nat) (o o' : Obj) (hl : w.heap.size ≤ l) (h : W.heap[l]? = some o) (hc : o.isCells = false) (hk : o.isWalk = false) : KS n₀ W (W.putObj l o') :=
  ⟨belowK_b hn W l o o' hl h hc hk, fun b cs fr hb => by
    by_cases e : b = l
    · subst e; rw [h] at hb; obtain rfl := Option.some.inj hb; simp [Obj.isCells] at hc
    · rw [World.putObj_heap_other (by omega)]; exact hb⟩
/-- A function value that, ranged over, tells some numbers, as long as spans are left alone. -/
def GivesS (v : Value) (w : World) (ps : List Int) : Prop :=
  ∃ (g : Nat) (lb : Array Value) (n₀ : Nat), v = .func (.func g) #[] lb ∧ n₀ ≤ w.heap.size ∧ (∀ args w, (callFunc g args).run Try.prog w = .ok (.enter g args) w) ∧
    SeqStopsK Fence.wide 8 Try.prog g lb (fun x : Int => #[Value.int .i64 x]) (KS n₀) (fun ys => ys = ps) (fun _ => True) ps.length w
theorem Gives.spans {v : Value} {w : World} {ps : List Int} (h : Gives v w ps) : GivesS v w ps := by
  obtain ⟨g, lb, n₀, hv, hn, he, hs⟩ := h
  exact ⟨g, lb, n₀, hv, hn, he, fun l J Jx W hW h1 h2 h3 h4 => hs l J Jx W hW h1 h2 (fun pre x W1 hj hl => by
    obtain ⟨fn, tmps, assign, body, hy, hR⟩ := h3 pre x W1 hj hl
    exact ⟨fn, tmps, assign, body, hy, hR.mono fun e W' hr => by
      rcases hr with ⟨he, hj, hk⟩ | hr
      · exact .inl ⟨he, hj, hk.1⟩
      · exact .inr hr⟩) h4⟩
theorem cells_two {w : World} {b : Nat} {x y : Value} {t : TypeId} (h : w.heap[b]? = some (.cells #[x, y] t (0, 0))) : w.cell? ⟨b, 0, none⟩ = some x ∧ w.cell? ⟨b, 1, none⟩ = some y := by
  constructor <;> simp [World.cell?, h]
theorem un_take {r : List (Nat × Nat)} {k : Nat} {s : Nat × Nat} (h : r[k]? = some s) : Z.un (r.take (k + 1)) = Z.un (r.take k) ++ List.range' s.1 (s.2 - s.1) := by
  rw [List.take_add_one, h]
  exact un_snoc _ _
theorem un_le (r : List (Nat × Nat)) : ∀ d k, (Z.un (r.take k)).length ≤ (Z.un (r.take (k + d))).length
  | 0, k => Nat.le_refl _
  | d + 1, k => by
    refine Nat.le_trans (un_le r d k) ?_
    rw [← Nat.add_assoc, List.take_add_one]
    cases r[k + d]? with
    | none => simp
    | some s =>
      show _ ≤ (Z.un (_ ++ [s])).length
      rw [un_snoc]; simp
theorem un_lt {r : List (Nat × Nat)} {k j : Nat} {s : Nat × Nat} (h : r[k]? = some s) (hj : j < s.2 - s.1) : (Z.is (Z.un (r.take k) ++ List.range' s.1 j)).length < (Z.is (Z.un r)).length := by
  have hk := (List.getElem?_eq_some_iff.1 h).1
  have h1 := un_le r (r.length - (k + 1)) (k + 1)
  rw [show k + 1 + (r.length - (k + 1)) = r.length by omega, List.take_length, un_take h] at h1
  simp [Z.is] at h1 ⊢
  omega
theorem un_step (p : List Nat) (a j : Nat) : Z.is (p ++ List.range' a (j + 1)) = Z.is (p ++ List.range' a j) ++ [((a + j : Nat) : Int)] := by
  rw [List.range'_concat, ← List.append_assoc, is_snoc]
  simp

set_option maxHeartbeats 2000000 in
theorem ranumsC_gives (ao : Option Addr) (len cap : Nat) (r : List (Nat × Nat)) (hm : len ≤ 1099511627776) (hr : ∀ s ∈ r, s.1 ≤ s.2 ∧ s.2 ≤ 1099511627776) (w : World) (h : SlP w ao len cap r) :
    GivesS (.func (.func 75) #[] #[.pointer (some ⟨w.heap.size, 0, none⟩)]) (w.alloc (.cells #[.slice ao len cap] 76)) (Z.is (Z.un r)) := by
  obtain ⟨w2, hw2⟩ : ∃ w2, w.alloc (.cells #[.slice ao len cap] 76) = w2 := ⟨_, rfl⟩
  have c1 : w2.cell? ⟨w.heap.size, 0, none⟩ = some (.slice ao len cap) := by rw [← hw2]; exact (Boxed.new w 76 (.slice ao len cap)).cell
  have hsz : w2.heap.size = w.heap.size + 1 := by rw [← hw2]; simp
  have hb2 : Below w.heap.size w w2 := by rw [← hw2]; exact below_one w _
  rw [hw2]
  clear hw2
  refine ⟨_, _, w2.heap.size, rfl, Nat.le_refl _, enters_of Try.func75 (by kernel_rfl) rfl, fun q J Jx W hW hJ hJx hY h0 => ?_⟩
  have hc1 : W.cell? ⟨w.heap.size, 0, none⟩ = some (.slice ao len cap) := by rw [hW.cell (p := ⟨w.heap.size, 0, none⟩) (by simp; omega)]; exact c1
  have HC : Hid (∀ wr, Below w2.heap.size W wr → ∀ k s, r[k]? = some s → ∃ b off, ao = some ⟨b, off, none⟩ ∧ wr.cell? ⟨b, off + k * 2, none⟩ = some (.int .i64 (s.1 : Int)) ∧ wr.cell? ⟨b, off + k * 2 + 1, none⟩ = some (.int .i64 (s.2 : Int))) := fun wr hwr k s hs => by
    have hk := (List.getElem?_eq_some_iff.1 hs).1
    rcases h.2.2.2.2 with h5 | ⟨b, off, rfl, hlt, h5⟩
    · have := h.1; omega
    · refine ⟨b, off, rfl, ?_, ?_⟩
      · rw [hwr.cell (p := ⟨b, off + k * 2, none⟩) (by simp; omega), hW.cell (p := ⟨b, off + k * 2, none⟩) (by simp; omega), hb2.cell (p := ⟨b, off + k * 2, none⟩) hlt]
        exact (h5 k s hs).1
      · rw [hwr.cell (p := ⟨b, off + k * 2 + 1, none⟩) (by simp; omega), hW.cell (p := ⟨b, off + k * 2 + 1, none⟩) (by simp; omega), hb2.cell (p := ⟨b, off + k * 2 + 1, none⟩) hlt]
        exact (h5 k s hs).2
  have HY := hide hY
  have HL := hide h.1
  have HJ := hide hJ
  have HR := hide hr
  have HG := hide (show ∀ wr, Below w2.heap.size W wr → w2.heap.size ≤ wr.heap.size ∧ W.heap.size ≤ wr.heap.size from fun wr hr => ⟨Nat.le_trans hW.size hr.size, hr.size⟩)
  clear hb2 hsz c1 hJ hJx hY hW h hr
  refine callsIn_of_wp Try.func75 rfl trivial ?_ rfl
  simp only [Try.ntmps75, List.size_toArray, List.length_cons, List.length_nil, Nat.reduceAdd, Nat.reduceSub, Array.replicate_succ, Array.replicate_zero, List.push_toArray, List.append_toArray, List.nil_append, List.cons_append]
  gi_wp2
  gi_loopw [8] (fun i wr => ∃ k : Nat, k ≤ len ∧ i = .int .i64 k ∧ J (Z.is (Z.un (r.take k))) wr ∧ Below w2.heap.size W wr)
    (fun i _ => len - (intOf i).toNat)
  case atStart => exact ⟨0, Nat.zero_le _, rfl, h0, Below.refl _ _⟩
  case round =>
    obtain ⟨k, hk, rfl, hJs, hnx⟩ := hrel
    by_cases hlt : k < len
    · obtain ⟨⟨sa, se⟩, hs⟩ : ∃ s, r[k]? = some s := ⟨r[k]'(by rw [HL.out]; exact hlt), List.getElem?_eq_getElem _⟩
      obtain ⟨hse, hse2⟩ := HR.out (sa, se) (List.mem_of_getElem? hs)
      simp only at hse hse2
      obtain ⟨b, off, rfl, hc2, hc3⟩ := HC.out wr hnx k (sa, se) hs
      simp only at hc2 hc3
      have HS := hide hs
      clear hs
      have hgs := HG.out wr hnx
      have hb3 := below_one wr (.cells #[.int .i64 (sa : Int), .int .i64 (se : Int)] 86)
      have hnw := heap_alloc_new wr (.cells #[.int .i64 (sa : Int), .int .i64 (se : Int)] 86)
      have hJ3 : J (Z.is (Z.un (r.take k) ++ List.range' sa 0)) (wr.alloc (.cells #[.int .i64 (sa : Int), .int .i64 (se : Int)] 86)) := by
        rw [List.range'_zero, List.append_nil]
        exact HJ.out _ _ _ none hJs (below_grows hb3) (fun r hr => by cases hr)
      have hnx3 := hnx.trans (hb3.mono hgs.1)
      have HNW := hide hnw
      clear hnw hb3 hJs
      gi_wp2
      obtain ⟨B, hB⟩ : ∃ B, wr.heap.size = B := ⟨_, rfl⟩
      rw [hB] at HNW ⊢
      clear hB
      obtain ⟨wa, hwa⟩ : ∃ wa, wr.alloc (.cells #[.int .i64 (sa : Int), .int .i64 (se : Int)] 86) = wa := ⟨_, rfl⟩
      rw [hwa] at HNW hJ3 hnx3 ⊢
      clear hwa hnx hgs hc2 hc3
      gi_loopw [5] (fun i wr => ∃ j : Nat, sa + j ≤ se ∧ i = .int .i64 ((sa + j : Nat) : Int) ∧ J (Z.is (Z.un (r.take k) ++ List.range' sa j)) wr ∧ Below w2.heap.size W wr ∧ Hid (wr.heap[B]? = some (.cells #[.int .i64 (sa : Int), .int .i64 (se : Int)] 86 (0, 0))))
        (fun i _ => se - (intOf i).toNat)
      case atStart => exact ⟨0, by omega, rfl, hJ3, hnx3, HNW⟩
      case round =>
        clear hJ3 hnx3 HNW
        rename_i wr'
        obtain ⟨j, hj, rfl, hJs, hnx, HNW⟩ := hrel
        have d2 := (cells_two HNW.out).2
        by_cases hlt2 : sa + j < se
        · obtain ⟨fn, tmps, assign, body, hy, hR⟩ := HY.out _ ((sa + j : Nat) : Int) _ hJs (un_lt HS.out (by show j < se - sa; omega))
          try dsimp only at hy
          have hlt3 : ((sa + j : Nat) : Int) < (se : Int) := by omega
          have hsm : ((sa + j : Nat) : Int) < 1099511627776 := by omega
          have hs0 : 0 ≤ ((sa + j : Nat) : Int) := by omega
          have hnext : ((sa + j : Nat) : Int) + 1 = ((sa + (j + 1) : Nat) : Int) := by omega
          have HX := hide hnext
          clear hnext
          obtain ⟨x, hx⟩ : ∃ x, ((sa + j : Nat) : Int) = x := ⟨_, rfl⟩
          have HXX := hide hx
          rw [hx] at hy hR hlt3 hsm hs0 HX ⊢
          clear hx
          gi_wp2
          refine hR.mono ?_
          rintro e W3 (⟨rfl, hJ4, hk4⟩ | ⟨rfl, hJx4⟩)
          · gi_wp2
            go_roundw
            case rel => exact ⟨j + 1, by omega, by rw [← HX.out], by rw [un_step, HXX.out]; exact hJ4, hnx.trans hk4.1, hide (hk4.2 _ _ _ HNW.out)⟩
            case measure => simp [intOf]; omega
          · gi_wp2
            refine bodyPost_ret (results_none rfl _ _ _) rfl ?_
            exact ⟨⟨_, rfl⟩, .inr ⟨_, trivial, hJx4⟩⟩
        · obtain rfl : se = sa + j := by omega
          gi_wp2
          go_roundw
          case rel => exact ⟨k + 1, by omega, by simp, by rw [un_take HS.out]; simp only [Nat.add_sub_cancel_left]; exact hJs, hnx⟩
          case measure => simp [intOf]; omega
    · obtain rfl : k = len := by omega
      gi_wp2
      go_end0
      exact ⟨⟨_, rfl⟩, .inl ⟨_, rfl, by rw [List.take_of_length_le (by rw [HL.out]; exact Nat.le_refl _)] at hJs; exact hJs⟩⟩
end Go.Proofs.Ytlbchdlokimpfaa

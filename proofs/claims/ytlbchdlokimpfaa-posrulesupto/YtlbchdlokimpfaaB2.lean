/- Rows of spans in memory: read, one's own, appended to, changed. -/
import Derived.Test.YtlbchdlokimpfaaB1
import Derived.Handy
namespace Go.Proofs.Ytlbchdlokimpfaa
set_option linter.unusedVariables false
open Go.RowKit

theorem below_one (w : World) (a : Obj) : Below w.heap.size w (w.alloc a) := (Below.refl _ _).alloc (Nat.le_refl _) _
theorem bthen {a b c : World} (h : Below a.heap.size a b) (k : Below b.heap.size b c) : Below a.heap.size a c := h.trans (k.mono h.size)
theorem owns_below {w w' : World} {B : Nat} {e : TypeId} {size : Nat} {v : Value} {n : Nat} {xs : List Value} (h : w.ownsRow B e size v n xs) (hb : Below w.heap.size w w') : w'.ownsRow B e size v n xs := owns_of_block h fun g hg => hb.block g (owns_lt h hg).2
/-- An append to one's own row, and a store into a box, leave all that is no cells. -/
theorem others_app {W wa w2 : World} {B : Nat} {e : TypeId} {size : Nat} {v : Value} {n : Nat} {xs : List Value} (hwa : Below W.heap.size W wa) (ho : wa.ownsRow B e size v n xs) (hk : Kept (fun k => v.ownBlock = some k) wa w2) : KeepsOthers W w2 := by
  refine ⟨Nat.le_trans hwa.size hk.size, fun k o hk0 hc => ?_⟩
  have h1 : wa.heap[k]? = some o := (hwa.block k (lt_of_block hk0)).trans hk0
  rw [hk.block k (lt_of_block h1) (fun hv => ?_)]
  · exact h1
  · rcases ho.2 with ⟨h2, _⟩ | ⟨g, cap, cur, h2, _, hh, _⟩
    · rw [h2] at hv; simp [Value.ownBlock] at hv
    · rw [h2] at hv
      simp [Value.ownBlock] at hv
      subst hv
      rw [h1] at hh
      obtain rfl := Option.some.inj hh
      simp [Obj.isCells] at hc
theorem boxed_app {wa w2 : World} {B B' : Nat} {t e : TypeId} {size : Nat} {v u : Value} {n : Nat} {xs : List Value} (hb : Boxed wa B t u) (hte : t ≠ e) (ho : wa.ownsRow B' e size v n xs) (hk : Kept (fun k => v.ownBlock = some k) wa w2) : Boxed w2 B t u :=
  (hk.block B hb.lt (fun h => hb.not_row hte ho h.symm)).trans hb

/-- A slice of spans that can be read. -/
def SlP (w : World) (ao : Option Addr) (len cap : Nat) (l : List (Nat × Nat)) : Prop :=
  l.length = len ∧ len ≤ cap ∧ cap ≤ maxLen ∧ (ao = none → cap = 0) ∧ (len = 0 ∨ ∃ b off, ao = some ⟨b, off, none⟩ ∧ b < w.heap.size ∧ ∀ j x, l[j]? = some x → w.cell? ⟨b, off + j * 2, none⟩ = some (.int .i64 (x.1 : Int)) ∧ w.cell? ⟨b, off + j * 2 + 1, none⟩ = some (.int .i64 (x.2 : Int)))
theorem SlP.below {w w' : World} {ao : Option Addr} {len cap : Nat} {l : List (Nat × Nat)} (h : SlP w ao len cap l) (hb : Below w.heap.size w w') : SlP w' ao len cap l := by
  obtain ⟨h1, h2, h3, h4, h5⟩ := h
  refine ⟨h1, h2, h3, h4, ?_⟩
  rcases h5 with h5 | ⟨b, off, rfl, hlt, h5⟩
  · exact .inl h5
  · refine .inr ⟨b, off, rfl, by have := hb.size; omega, fun j x hx => ?_⟩
    rw [hb.cell (p := ⟨b, off + j * 2, none⟩) hlt, hb.cell (p := ⟨b, off + j * 2 + 1, none⟩) hlt]
    exact h5 j x hx
/-- A row's cells. -/
def cellsP (l : List (Nat × Nat)) : List Value := l.flatMap fun x => [.int .i64 (x.1 : Int), .int .i64 (x.2 : Int)]
theorem cellsP_cons (x : Nat × Nat) (l : List (Nat × Nat)) : cellsP (x :: l) = .int .i64 (x.1 : Int) :: .int .i64 (x.2 : Int) :: cellsP l := rfl
theorem cellsP_length : ∀ l : List (Nat × Nat), (cellsP l).length = l.length * 2
  | [] => rfl
  | x :: l => by rw [cellsP_cons]; simp [cellsP_length l]; omega
theorem cellsP_append (a b : List (Nat × Nat)) : cellsP (a ++ b) = cellsP a ++ cellsP b := by simp [cellsP]
theorem cellsP_get : ∀ (l : List (Nat × Nat)) (j : Nat) (x : Nat × Nat), l[j]? = some x → (cellsP l)[j * 2]? = some (.int .i64 (x.1 : Int)) ∧ (cellsP l)[j * 2 + 1]? = some (.int .i64 (x.2 : Int))
  | [], j, x, h => by simp at h
  | y :: l, 0, x, h => by
    simp at h; subst h
    rw [cellsP_cons]; simp
  | y :: l, j + 1, x, h => by
    simp at h
    have := cellsP_get l j x h
    rw [cellsP_cons, show (j + 1) * 2 = j * 2 + 1 + 1 by omega, show j * 2 + 1 + 1 + 1 = (j * 2 + 1) + 1 + 1 by omega]
    simpa using this
theorem cellsP_one (l : List (Nat × Nat)) : ∀ u ∈ cellsP l, u.oneCell' = true := by
  intro u hu
  obtain ⟨x, _, hx⟩ := List.mem_flatMap.1 hu
  simp at hx
  rcases hx with rfl | rfl <;> rfl
/-- The last span's end, changed. -/
theorem cellsP_last (l : List (Nat × Nat)) (a b m : Nat) : (cellsP (l ++ [(a, b)])).set (l.length * 2 + 1) (.int .i64 (m : Int)) = cellsP (l ++ [(a, m)]) := by
  rw [cellsP_append, cellsP_append, List.set_append_right _ _ (by rw [cellsP_length]; omega), cellsP_length, Nat.add_sub_cancel_left]
  rfl
/-- A row of spans of one's own. -/
def OwnP (w : World) (t : TypeId) (B : Nat) (v : Value) (l : List (Nat × Nat)) : Prop := w.ownsRow B t 2 v l.length (cellsP l)
theorem OwnP.below {w w' : World} {t : TypeId} {B : Nat} {v : Value} {l : List (Nat × Nat)} (h : OwnP w t B v l) (hb : Below w.heap.size w w') : OwnP w' t B v l := owns_of_block h fun g hg => hb.block g (owns_lt h hg).2
theorem ownP_nil (w : World) (t : TypeId) (B : Nat) : OwnP w t B (.slice none 0 0) [] := World.ownsRow_nil _ _ _ _
theorem slP_nil (w : World) : SlP w none 0 0 [] := ⟨rfl, Nat.le_refl _, by simp [maxLen], fun _ => rfl, .inl rfl⟩
theorem SlP.of_own {w : World} {t : TypeId} {B : Nat} {v : Value} {l : List (Nat × Nat)} (h : OwnP w t B v l) : ∃ ao cap, v = .slice ao l.length cap ∧ SlP w ao l.length cap l ∧ v.ownBlock = ao.map (·.block) := by
  have h0 := h
  rcases h.2 with ⟨h1, h2⟩ | ⟨g, cap, cur, hv, hg, hh, hc, hm, _⟩
  · have hl : l = [] := List.eq_nil_of_length_eq_zero h2
    subst hl
    exact ⟨Option.none, 0, h1, slP_nil w, by rw [h1]; rfl⟩
  · subst hv
    refine ⟨some ⟨g, 0, Option.none⟩, cap, rfl, ⟨rfl, hc, hm, by simp, .inr ⟨g, 0, rfl, lt_of_block hh, fun j x hx => ?_⟩⟩, rfl⟩
    have hj : j < l.length := (List.getElem?_eq_some_iff.1 hx).1
    obtain ⟨g0, g1⟩ := cellsP_get l _ _ hx
    have a0 := World.ownsRow.cellAt h0 (j * 2) (by omega)
    have a1 := World.ownsRow.cellAt h0 (j * 2 + 1) (by omega)
    rw [Nat.zero_add]
    exact ⟨a0.trans g0, a1.trans g1⟩
theorem slP_one (w : World) (t : TypeId) (a b : Nat) : SlP (w.alloc (.cells #[.int .i64 (a : Int), .int .i64 (b : Int)] t)) (some ⟨w.heap.size, 0, none⟩) 1 1 [(a, b)] := by
  refine ⟨rfl, Nat.le_refl _, by decide, by simp, .inr ⟨w.heap.size, 0, rfl, by simp, fun j x hx => ?_⟩⟩
  match j, hx with
  | 0, hx => simp at hx; subst hx; simp
theorem SlP.news {w : World} {ao : Option Addr} {len cap : Nat} {l : List (Nat × Nat)} (h : SlP w ao len cap l) : ∀ ad, ao = some ad → ∀ j u, (cellsP l)[j]? = some u → w.cell? (ad.add j) = some u := by
  obtain ⟨h1, h2, h3, h4, h5⟩ := h
  intro ad had j u hu
  have hj : j < l.length * 2 := by have := (List.getElem?_eq_some_iff.1 hu).1; rwa [cellsP_length] at this
  rcases h5 with h5 | ⟨b, off, hao, hlt, h5⟩
  · omega
  · rw [hao] at had
    obtain rfl := Option.some.inj had
    rw [Addr.add_lit]
    obtain ⟨x, hx⟩ : ∃ x, l[j / 2]? = some x := ⟨l[j / 2]'(by omega), List.getElem?_eq_getElem _⟩
    obtain ⟨c0, c1⟩ := h5 _ _ hx
    obtain ⟨g0, g1⟩ := cellsP_get l _ _ hx
    have hr : j = j / 2 * 2 ∨ j = j / 2 * 2 + 1 := by omega
    obtain ⟨q, hq⟩ : ∃ q, j / 2 = q := ⟨_, rfl⟩
    rw [hq] at hr c0 c1 g0 g1
    rcases hr with hr | hr
    · subst hr; rw [g0] at hu; rw [← Option.some.inj hu]; exact c0
    · subst hr; rw [g1] at hu; rw [← Option.some.inj hu, ← Nat.add_assoc]; exact c1
/-- One span more, to one's own row of spans. -/
theorem wpList_appP {w : World} {ops : Array Oper} {rest : List Oper} {o : Oper} {a : Act} {Q : Exit → Act → World → Prop} (ts t : TypeId) (hu : Try.prog.underlying ts = some (.slice t)) (hinfo : (Try.prog.info? t).map (fun i => (i.zero, i.size, i.bytes)) = some (some (.agg #[.int .i64 0, .int .i64 0]), 2, 16))
    (hgd : o.guard = none) (s x : Operand) (ho : o.op = .call { callee := .builtin .append, args := #[s, x], argTypes := #[ts, ts] })
    (base : Nat) (v : Value) (l : List (Nat × Nat)) (hs : a.eval s = v) (hown : OwnP w t base v l)
    (ao : Option Addr) (c : Nat) (r : Nat × Nat) (hx : a.eval x = .slice ao 1 c) (hsl : SlP w ao 1 c [r]) (hlim : l.length ≤ 1000000000) (hbase : base ≤ w.heap.size)
    (h : ∀ v' w', OwnP w' t base v' (l ++ [r]) → AS w v w' v' → wpList Try.prog ops Q rest (a.put o.dst v') w') : wpList Try.prog ops Q (o :: rest) a w := by
  obtain ⟨i0, hi, hz0, hz1, hz2⟩ := info_parts hinfo
  refine wpList_append_to hgd s x ts ho base t i0 (.agg #[.int .i64 0, .int .i64 0]) 2 16 hu hi hz0 hz1 hz2 rfl (by decide) v l.length (cellsP l) hs hown ao 1 c (cellsP [r]) hx (fun e => absurd (hsl.2.2.2.1 e) (by have := hsl.2.1; omega)) (by rw [cellsP_length]; rfl) hsl.news (cellsP_one _) (by unfold maxLen; omega) (by omega) hbase ?_
  intro v' w' h1 h2
  refine h v' w' ?_ h2
  unfold OwnP
  rw [cellsP_append, List.length_append]
  exact h1
theorem Try.infoSpan : (Try.prog.info? 86).map (fun i => (i.zero, i.size, i.bytes)) = some (some (.agg #[.int .i64 0, .int .i64 0]), 2, 16) := by kernel_rfl
end Go.Proofs.Ytlbchdlokimpfaa

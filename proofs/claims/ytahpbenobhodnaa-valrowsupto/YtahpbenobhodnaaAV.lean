/- Rows of values of one's own: appended to; steps of a region that draws its order. -/
import Derived.Test.YtahpbenobhodnaaSV
import Derived.Test.YtahpbenobhodnaaV11
import Derived.Test.YtahpbenobhodnaaV15
namespace Go.Proofs.Ytahpbenobhodnaa
set_option linter.unusedVariables false
open Go.RowKit

/-- A row's cells. -/
def cellsV (l : List Z.V) : List Value := l.flatMap fun x => [.int .i64 x.k, .int .i64 x.i, .string x.s]
theorem cellsV_cons (x : Z.V) (l : List Z.V) : cellsV (x :: l) = .int .i64 x.k :: .int .i64 x.i :: .string x.s :: cellsV l := rfl
theorem cellsV_length : ∀ l : List Z.V, (cellsV l).length = l.length * 3
  | [] => rfl
  | x :: l => by rw [cellsV_cons]; simp [cellsV_length l]; omega
theorem cellsV_append (a b : List Z.V) : cellsV (a ++ b) = cellsV a ++ cellsV b := by simp [cellsV]
theorem cellsV_get : ∀ (l : List Z.V) (j : Nat) (x : Z.V), l[j]? = some x → (cellsV l)[j * 3]? = some (.int .i64 x.k) ∧ (cellsV l)[j * 3 + 1]? = some (.int .i64 x.i) ∧ (cellsV l)[j * 3 + 2]? = some (.string x.s)
  | [], j, x, h => by simp at h
  | y :: l, 0, x, h => by
    simp at h; subst h
    rw [cellsV_cons]; simp
  | y :: l, j + 1, x, h => by
    simp at h
    have := cellsV_get l j x h
    rw [cellsV_cons, show (j + 1) * 3 = j * 3 + 1 + 1 + 1 by omega, show j * 3 + 1 + 1 + 1 + 1 = (j * 3 + 1) + 1 + 1 + 1 by omega, show j * 3 + 1 + 1 + 1 + 2 = (j * 3 + 2) + 1 + 1 + 1 by omega]
    simpa using this
theorem cellsV_one (l : List Z.V) : ∀ u ∈ cellsV l, u.oneCell' = true := by
  intro u hu
  obtain ⟨x, _, hx⟩ := List.mem_flatMap.1 hu
  simp at hx
  rcases hx with rfl | rfl | rfl <;> rfl
theorem SlV.news {w : World} {ao : Option Addr} {len cap : Nat} {l : List Z.V} (h : SlV w ao len cap l) : ∀ ad, ao = some ad → ∀ j u, (cellsV l)[j]? = some u → w.cell? (ad.add j) = some u := by
  obtain ⟨h1, h2, h3, h4, h5⟩ := h
  intro ad had j u hu
  have hj : j < l.length * 3 := by have := (List.getElem?_eq_some_iff.1 hu).1; rwa [cellsV_length] at this
  rcases h5 with h5 | ⟨b, off, hao, hlt, h5⟩
  · omega
  · rw [hao] at had
    obtain rfl := Option.some.inj had
    rw [Addr.add_lit]
    obtain ⟨x, hx⟩ : ∃ x, l[j / 3]? = some x := ⟨l[j / 3]'(by omega), List.getElem?_eq_getElem _⟩
    obtain ⟨c0, c1, c2⟩ := h5 _ _ hx
    obtain ⟨g0, g1, g2⟩ := cellsV_get l _ _ hx
    have hr : j = j / 3 * 3 ∨ j = j / 3 * 3 + 1 ∨ j = j / 3 * 3 + 2 := by omega
    rcases hr with hr | hr | hr
    · rw [hr] at hu ⊢; rw [← hr] at hu; rw [hr] at hu; rw [g0] at hu; rw [← Option.some.inj hu]; exact c0
    · rw [hr] at hu ⊢; rw [← hr] at hu; rw [hr] at hu; rw [g1] at hu; rw [← Option.some.inj hu, ← Nat.add_assoc]; exact c1
    · rw [hr] at hu ⊢; rw [← hr] at hu; rw [hr] at hu; rw [g2] at hu; rw [← Option.some.inj hu, ← Nat.add_assoc]; exact c2
/-- A row of values of one's own. -/
def OwnV (w : World) (B : Nat) (v : Value) (l : List Z.V) : Prop := w.ownsRow B 23 3 v l.length (cellsV l)
theorem OwnV.below {w w' : World} {B : Nat} {v : Value} {l : List Z.V} (h : OwnV w B v l) (hb : Below w.heap.size w w') : OwnV w' B v l := owns_of_block h fun g hg => hb.block g (owns_lt h hg).2
theorem SlV.of_own {w : World} {B : Nat} {v : Value} {l : List Z.V} (h : OwnV w B v l) : ∃ ao cap, v = .slice ao l.length cap ∧ SlV w ao l.length cap l ∧ v.ownBlock = ao.map (·.block) := by
  have h0 := h
  rcases h.2 with ⟨h1, h2⟩ | ⟨g, cap, cur, hv, hg, hh, hc, hm, _⟩
  · have hl : l = [] := List.eq_nil_of_length_eq_zero h2
    subst hl
    exact ⟨none, 0, h1, ⟨rfl, Nat.le_refl _, by simp [maxLen], fun _ => rfl, .inl rfl⟩, by rw [h1]; rfl⟩
  · subst hv
    refine ⟨some ⟨g, 0, none⟩, cap, rfl, ⟨rfl, hc, hm, by simp, .inr ⟨g, 0, rfl, lt_of_block hh, fun j x hx => ?_⟩⟩, rfl⟩
    have hj : j < l.length := (List.getElem?_eq_some_iff.1 hx).1
    obtain ⟨g0, g1, g2⟩ := cellsV_get l _ _ hx
    have a0 := World.ownsRow.cellAt h0 (j * 3) (by omega)
    have a1 := World.ownsRow.cellAt h0 (j * 3 + 1) (by omega)
    have a2 := World.ownsRow.cellAt h0 (j * 3 + 2) (by omega)
    rw [Nat.zero_add]
    exact ⟨a0.trans g0, a1.trans g1, a2.trans g2⟩
theorem Try.infoVal : (Try.prog.info? 23).map (fun i => (i.zero, i.size, i.bytes)) = some (some (.agg #[.int .i64 0, .int .i64 0, .string ⟨#[]⟩]), 3, 32) := by kernel_rfl
/-- What an append to one's own row of values leaves: the row as it was can be read on. -/
theorem wpList_appV {w : World} {ops : Array Oper} {rest : List Oper} {o : Oper} {a : Act} {Q : Exit → Act → World → Prop} (hgd : o.guard = none) (s x : Operand)
    (ho : o.op = .call { callee := .builtin .append, args := #[s, x], argTypes := #[44, 44] })
    (base : Nat) (v : Value) (l : List Z.V) (hs : a.eval s = v) (hown : OwnV w base v l)
    (ao : Option Addr) (m c : Nat) (news : List Z.V) (hx : a.eval x = .slice ao m c) (hsl : SlV w ao m c news) (hlim : (l.length + m) * 32 ≤ 140737488355328) (hbase : base ≤ w.heap.size)
    (h : ∀ v' w', OwnV w' base v' (l ++ news) → AS w v w' v' → (∀ an cn, v = .slice an l.length cn → SlV w' an l.length cn l) → wpList Try.prog ops Q rest (a.put o.dst v') w') : wpList Try.prog ops Q (o :: rest) a w := by
  obtain ⟨i0, hi, hz0, hz1, hz2⟩ := info_parts Try.infoVal
  have hm : news.length = m := hsl.1
  have hnl : (cellsV news).length = m * 3 := by rw [cellsV_length, hm]
  have hnone : ao = none → m = 0 ∧ c = 0 := fun e => by have := hsl.2.2.2.1 e; have := hsl.2.1; omega
  have hsame : ∀ an cn, v = .slice an l.length cn → SlV w an l.length cn l := fun an cn e => by
    obtain ⟨a1, c1, e1, h1, _⟩ := SlV.of_own hown
    rw [e] at e1
    injection e1 with e1 e2 e3
    subst e1; subst e3; exact h1
  have hlist : ∀ v' w', w'.ownsRow base 23 3 v' (l.length + m) (cellsV l ++ cellsV news) → OwnV w' base v' (l ++ news) := fun v' w' h1 => by
    unfold OwnV; rw [cellsV_append, List.length_append, hm]; exact h1
  cases ao with
  | none =>
    obtain ⟨rfl, rfl⟩ := hnone rfl
    have hn : news = [] := List.eq_nil_of_length_eq_zero hm
    subst hn
    exact wpList_append_own_none hgd s x 44 ho base 23 i0 3 Try.underlying44 hi v l.length (cellsV l) hs hown hx (h v w (by rw [List.append_nil]; exact hown) (AS.refl _ _) hsame)
  | some ad =>
    rcases hown.2 with ⟨hv, hn0⟩ | ⟨g, cap, cur, hv, hg, hh, hc, hmm, hcs, _⟩
    · have hl0 : l = [] := List.eq_nil_of_length_eq_zero hn0
      subst hl0
      refine wpList_append_own w hgd s x 44 ho w.heap.size 23 i0 (.agg #[.int .i64 0, .int .i64 0, .string ⟨#[]⟩]) 3 32 Try.underlying44 hi hz0 hz1 hz2 rfl (by decide) v 0 [] hs (by rw [hv]; exact World.ownsRow_nil _ _ _ _) ad m c (cellsV news) hx hnl (hsl.news ad rfl) (cellsV_one _) (by unfold maxLen; omega) (by simpa using hlim) (Nat.le_refl _) ?_
      intro v' w' ho' hg' _
      refine h v' w' (hlist v' w' ?_) ⟨(Kept.refl _ _).grown hg' fun k hk => .inl hk, .inr fun k hk => (owns_lt ho' hk).1⟩ (fun an cn e => ?_)
      · have := owns_base ho' (base' := base) fun g hg => by have := (owns_lt ho' hg).1; omega
        show w'.ownsRow base 23 3 v' (0 + m) ([] ++ cellsV news)
        exact this
      · rw [hv] at e
        injection e with e1 e2 e3
        subst e1; subst e3
        exact ⟨rfl, Nat.le_refl _, by simp [maxLen], fun _ => rfl, .inl rfl⟩
    · subst hv
      by_cases hroom : l.length + m ≤ cap
      · refine wpList_append_fits w hgd s x 44 ho base 23 i0 3 Try.underlying44 hi hz1 g l.length cap (cellsV l) hs hown ad m c (cellsV news) hx hnl (hsl.news ad rfl) (cellsV_one _) hroom ?_
        intro w' ho' hg'
        refine h _ w' (hlist _ w' ho') ⟨(Kept.refl _ _).grown hg' fun k hk => .inl hk, .inl rfl⟩ (fun an cn e => ?_)
        injection e with e1 e2 e3
        subst e1; subst e3
        obtain ⟨_, _, _, h1, _⟩ := SlV.of_own hown
        refine ⟨rfl, hc, hmm, by simp, .inr ⟨g, 0, rfl, ?_, fun j y hy => ?_⟩⟩
        · have := (owns_lt ho' (k := g) rfl).2; exact this
        · have hj : j < l.length := (List.getElem?_eq_some_iff.1 hy).1
          obtain ⟨g0, g1, g2⟩ := cellsV_get l _ _ hy
          have a0 := World.ownsRow.cellAt ho' (j * 3) (by omega)
          have a1 := World.ownsRow.cellAt ho' (j * 3 + 1) (by omega)
          have a2 := World.ownsRow.cellAt ho' (j * 3 + 2) (by omega)
          have hl3 := cellsV_length l
          rw [List.getElem?_append_left (by omega)] at a0 a1 a2
          rw [Nat.zero_add]
          exact ⟨a0.trans g0, a1.trans g1, a2.trans g2⟩
      · refine wpList_append_grows w hgd s x 44 ho 23 i0 (.agg #[.int .i64 0, .int .i64 0, .string ⟨#[]⟩]) 3 32 Try.underlying44 hi hz0 hz1 hz2 rfl (by decide) (some ⟨g, 0, none⟩) l.length cap (cellsV l) hs (by simp) hown.1 (fun b hb j u hu => by obtain rfl := Option.some.inj hb; exact hown.cells rfl j u hu) ad m c (cellsV news) hx hnl (hsl.news ad rfl) (cellsV_one _) (by omega) (by unfold maxLen; omega) hlim ?_
        intro v' w' ho' hg'
        have hbel : Below w.heap.size w w' := ((Kept.refl (fun _ => False) w).grown hg' (by simp)).below (Nat.le_refl _) (by simp)
        exact h v' w' (hlist v' w' (owns_base ho' fun k hk => by have := (owns_lt ho' hk).1; omega)) ⟨(Kept.refl _ _).grown hg' (by simp), .inr fun k hk => (owns_lt ho' hk).1⟩ (fun an cn e => (hsame an cn e).below hbel)

/-- The same at the operation itself, whatever its guard. -/
theorem wp_appV {w : World} {o : Oper} {a : Act} {K : Act → World → Prop} {Q : Exit → Act → World → Prop} (s x : Operand)
    (ho : o.op = .call { callee := .builtin .append, args := #[s, x], argTypes := #[44, 44] })
    (base : Nat) (v : Value) (l : List Z.V) (hs : a.eval s = v) (hown : OwnV w base v l)
    (ao : Option Addr) (m c : Nat) (news : List Z.V) (hx : a.eval x = .slice ao m c) (hsl : SlV w ao m c news) (hlim : (l.length + m) * 32 ≤ 140737488355328) (hbase : base ≤ w.heap.size)
    (h : ∀ v' w', OwnV w' base v' (l ++ news) → AS w v w' v' → (∀ an cn, v = .slice an l.length cn → SlV w' an l.length cn l) → K (a.put o.dst v') w') : o.wp Try.prog a w K Q := by
  have h1 : ({ o with guard := none } : Oper).wp Try.prog a w K Q :=
    V.wp_of_list (ops := #[]) rfl (wpList_appV rfl s x ho base v l hs hown ao m c news hx hsl hlim hbase fun v' w' g1 g2 g3 => ⟨rfl, h v' w' g1 g2 g3⟩)
  exact h1
/-- The same, under a guard that is met. -/
theorem wpList_appVG {w : World} {ops : Array Oper} {rest : List Oper} {o : Oper} {a : Act} {Q : Exit → Act → World → Prop} (hw : Region.wanted o (yielded ops a.tmps) = true) (s x : Operand)
    (ho : o.op = .call { callee := .builtin .append, args := #[s, x], argTypes := #[44, 44] })
    (base : Nat) (v : Value) (l : List Z.V) (hs : a.eval s = v) (hown : OwnV w base v l)
    (ao : Option Addr) (m c : Nat) (news : List Z.V) (hx : a.eval x = .slice ao m c) (hsl : SlV w ao m c news) (hlim : (l.length + m) * 32 ≤ 140737488355328) (hbase : base ≤ w.heap.size)
    (h : ∀ v' w', OwnV w' base v' (l ++ news) → AS w v w' v' → (∀ an cn, v = .slice an l.length cn → SlV w' an l.length cn l) → wpList Try.prog ops Q rest (a.put o.dst v') w') : wpList Try.prog ops Q (o :: rest) a w := by
  have h1 : ({ o with guard := none } : Oper).wp Try.prog a w (wpList Try.prog ops Q rest) Q :=
    V.wp_of_list (ops := ops) rfl (wpList_appV rfl s x ho base v l hs hown ao m c news hx hsl hlim hbase fun v' w' g1 g2 g3 => ⟨rfl, h v' w' g1 g2 g3⟩)
  have h2 : o.wp Try.prog a w (wpList Try.prog ops Q rest) Q := h1
  unfold wpList
  rw [hw]
  exact .inl h2
theorem append_nothingV (w : World) (ty : TypeId) (ao bo : Option Addr) (n cap c : Nat) (h : n ≤ cap) :
    (Builtin.append_ #[44, 44] ty #[.slice ao n cap, .slice bo 0 c]).run Try.prog w = .ok (.slice ao n cap) w := by
  obtain ⟨i0, hi, hz0, hz1, hz2⟩ := info_parts Try.infoVal
  cases ao <;> cases bo <;> simp [Builtin.append_, run_underlying Try.underlying44, sizeOf, typeInfo, hi, Builtin.lenOf, h, Builtin.firstCells, run_load_none, storeCells]
namespace V
variable {ops : Array Oper} {Q : Exit → Act → World → Prop} {tbl : List (Nat × Ent)} {w0 : World} {o : Oper}
def Ent.ownV (B : Nat) (l : List Z.V) : Ent := ⟨fun v w => OwnV w B v l, fun hb h => h.below hb⟩
def Ent.slV (k : Nat) (l : List Z.V) : Ent := ⟨fun v w => ∃ a c, v = .slice a k c ∧ SlV w a k c l, fun hb ⟨a, c, h1, h2⟩ => ⟨a, c, h1, h2.below hb⟩⟩
/-- No values, in new memory, without room. -/
def Ent.bareV (B : Nat) : Ent := ⟨fun v w => OwnV w B v [] ∧ ∃ g, v = .slice (some ⟨g, 0, none⟩) 0 0, fun hb ⟨h1, h2⟩ => ⟨h1.below hb, h2⟩⟩
theorem Step.bareV (hw : Wants tbl ops o) (ho : o.op = .buildSlice 44 0 #[]) (hd : ∀ d, o.dst = some d → get tbl d = Ent.bareV w0.heap.size) : Step Try.prog ops Q tbl w0 o := by
  refine Step.run hw fun a w hb hk => ⟨.slice (some ⟨w.heap.size, 0, none⟩) 0 0, w.alloc (.cells #[] 23), ?_, (Below.refl _ _).alloc (Nat.le_refl _) _, fun d h => ?_⟩
  · simp only [execOp, ho]
    simp [go_sem]
  · rw [hd d h]
    exact ⟨World.ownsRow_lit w #[] 0 hb.size (by decide) rfl, _, rfl⟩
theorem build_oneV (w : World) (k i : Int) (z : ByteArray) : (Instr.buildSlice 44 1 #[(0, .agg #[.int .i64 k, .int .i64 i, .string z])]).run Try.prog w = .ok (.slice (some ⟨w.heap.size, 0, none⟩) 1 1) (w.alloc (.cells #[.int .i64 k, .int .i64 i, .string z] 23)) := by
  simp [go_sem]
theorem Step.oneV {s : Nat} {k i : Int} {z : ByteArray} (hw : Wants tbl ops o) (ho : o.op = .buildSlice 44 1 #[(0, .tmp s)]) (hs : get tbl s = Ent.is (.agg #[.int .i64 k, .int .i64 i, .string z])) (hd : ∀ d, o.dst = some d → get tbl d = Ent.slV 1 [⟨k, i, z⟩]) : Step Try.prog ops Q tbl w0 o := by
  refine Step.run hw fun a w hb hk => ⟨.slice (some ⟨w.heap.size, 0, none⟩) 1 1, w.alloc (.cells #[.int .i64 k, .int .i64 i, .string z] 23), ?_, (Below.refl _ _).alloc (Nat.le_refl _) _, fun d h => ?_⟩
  · have h1 : a.eval (.tmp s) = .agg #[.int .i64 k, .int .i64 i, .string z] := by
      have := hk s (looks_op (by rw [ho]; simp [Op.operands]))
      rwa [hs] at this
    simp only [execOp, ho]
    simp [h1, build_oneV]
  · rw [hd d h]
    refine ⟨_, _, rfl, rfl, Nat.le_refl _, by decide, by simp, .inr ⟨w.heap.size, 0, rfl, by simp, fun j x hx => ?_⟩⟩
    match j, hx with
    | 0, hx => simp at hx; subst hx; simp
theorem Step.appV {s x : Nat} {ao : Option Addr} {m c : Nat} {news : List Z.V} (hg : o.guard = none) (ho : o.op = .call { callee := .builtin .append, args := #[.tmp s, .tmp x], argTypes := #[44, 44] })
    (hs : get tbl s = Ent.bareV w0.heap.size) (hx : get tbl x = Ent.is (.slice ao m c)) (hsl : SlV w0 ao m c news) (hlim : m * 32 ≤ 140737488355328) (hd : ∀ d, o.dst = some d → get tbl d = Ent.ownV w0.heap.size news) : Step Try.prog ops Q tbl w0 o := by
  intro a w hb hk
  have h1 := hk s (looks_op (by rw [ho]; simp [Op.operands, Call.operands]))
  rw [hs] at h1
  obtain ⟨h1, g, h3⟩ := h1
  have h2 : a.eval (.tmp x) = .slice ao m c := by
    have := hk x (looks_op (by rw [ho]; simp [Op.operands, Call.operands]))
    rwa [hx] at this
  have hsl' := hsl.below hb
  have hm : news.length = m := hsl.1
  refine .inl ⟨(Wants.wanted (.inl hg) hk), ?_⟩
  by_cases h0 : m = 0
  · subst h0
    obtain rfl : news = [] := List.eq_nil_of_length_eq_zero hm
    have hrun := append_nothingV w o.type (some ⟨g, 0, none⟩) ao 0 0 c (Nat.le_refl _)
    unfold Oper.wp
    simp [execOp, ho, resolve, invoke, builtin, h3, h2, hrun, Result.andThen]
    refine ⟨Below.refl _ _, _, rfl, fun d hdd => ?_⟩
    rw [hd d hdd, ← h3]; exact h1
  · cases ao with
    | none => exact absurd (by have := hsl.2.2.2.1 rfl; have := hsl.2.1; omega) h0
    | some ad =>
      obtain ⟨i0, hi, hz0, hz1, hz2⟩ := info_parts Try.infoVal
      refine wp_of_list (ops := ops) hg (wpList_append_grows w hg (.tmp s) (.tmp x) 44 ho 23 i0 (.agg #[.int .i64 0, .int .i64 0, .string ⟨#[]⟩]) 3 32 Try.underlying44 hi hz0 hz1 hz2 rfl (by decide) (some ⟨g, 0, none⟩) 0 0 [] h3 (by simp) rfl (fun _ _ _ _ h => by simp at h) ad m c (cellsV news) h2 (by rw [cellsV_length, hm]) (hsl'.news ad rfl) (cellsV_one _) (by omega) (by unfold maxLen; omega) (by simpa using hlim) ?_)
      intro v' w' ho' hg'
      have hbel : Below w.heap.size w w' := ((Kept.refl (fun _ => False) w).grown hg' (by simp)).below (Nat.le_refl _) (by simp)
      refine ⟨rfl, hbel, v', rfl, fun d hdd => ?_⟩
      rw [hd d hdd]
      have h5 := owns_base ho' (base' := w0.heap.size) fun k hk => by have := (owns_lt ho' hk).1; have := hb.size; omega
      show w'.ownsRow _ _ _ _ _ _
      rw [hm]
      simpa using h5
end V
end Go.Proofs.Ytahpbenobhodnaa

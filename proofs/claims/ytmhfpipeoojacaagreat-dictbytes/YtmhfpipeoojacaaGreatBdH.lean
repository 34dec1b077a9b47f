/- Values and rows of values in memory; two values held against each other; rows of values of one's own, appended to. -/
import Derived.Test.YtmhfpipeoojacaaGreatBdA
import Derived.Test.YtmhfpipeoojacaaGreatBdG
import Derived.Deep.RegionWith
import Derived.Test.YtmhfpipeoojacaaGreatBdF
import Derived.RangeFuncNested
namespace Go.Proofs.YtmhfpipeoojacaaGreat
set_option linter.unusedVariables false
open Go.RowKit

theorem fields_of {P : Program} {t : TypeId} {fs : Array Field} (h : P.underlying t = some (.struct fs)) : P.fieldsOf t = fs := by unfold Program.fieldsOf; rw [h]
/-- Are two values the same? -/
def Z.same (x y : Z.V) : Bool := (x.k == y.k) && ((x.i == y.i) && (x.s.toList == y.s.toList))
theorem Z.same_iff (x y : Z.V) : Z.same x y = true ↔ x = y := by
  obtain ⟨ak, ai, az⟩ := x
  obtain ⟨bk, bi, bz⟩ := y
  unfold Z.same
  simp only [Bool.and_eq_true, beq_iff_eq, ByteArray.toList_eq]
  constructor
  · rintro ⟨rfl, rfl, h⟩
    rw [Z.ba_eq h]
  · intro h
    injection h with h1 h2 h3
    exact ⟨h1, h2, by rw [h3]⟩
theorem Z.same_self (x : Z.V) : Z.same x x = true := (Z.same_iff x x).2 rfl
theorem veq_in (ak ai : Int) (az : ByteArray) (bk bi : Int) (bz : ByteArray) (w : World) :
    (Op.equalIn 10000 45 (.agg #[.int .i64 ak, .int .i64 ai, .string az]) (.agg #[.int .i64 bk, .int .i64 bi, .string bz])).run Tryz.prog w = .ok (Z.same ⟨ak, ai, az⟩ ⟨bk, bi, bz⟩) w := by
  have h2 : Tryz.prog.stoodInHeld 45 = false := by kernel_rfl
  have hf := fields_of Tryz.underlying45
  rw [run_equalIn_struct w 9999 45 _ _ (by rw [hf]; exact Tryz.underlying45) h2, hf]
  unfold Z.same
  cases h1 : (ak == bk) <;> cases h2 : (ai == bi) <;> cases h3 : (az.toList == bz.toList) <;> simp [go_sem, Op.eqFields, Tryz.underlying3, Tryz.underlying2, Tryz.underlying9, h1, h2, h3]
  all_goals simpa using h3
theorem veq_run (ak ai : Int) (az : ByteArray) (bk bi : Int) (bz : ByteArray) (w : World) :
    (binOp .eql 45 (.agg #[.int .i64 ak, .int .i64 ai, .string az]) (.agg #[.int .i64 bk, .int .i64 bi, .string bz])).run Tryz.prog w = .ok (.bool (Z.same ⟨ak, ai, az⟩ ⟨bk, bi, bz⟩)) w := by
  rw [run_eql_struct, veq_in]; rfl
theorem vne_run (ak ai : Int) (az : ByteArray) (bk bi : Int) (bz : ByteArray) (w : World) :
    (binOp .neq 45 (.agg #[.int .i64 ak, .int .i64 ai, .string az]) (.agg #[.int .i64 bk, .int .i64 bi, .string bz])).run Tryz.prog w = .ok (.bool (!Z.same ⟨ak, ai, az⟩ ⟨bk, bi, bz⟩)) w := by
  rw [run_neq_struct, veq_in]; rfl
theorem below_one (w : World) (a : Obj) : Below w.heap.size w (w.alloc a) := (Below.refl _ _).alloc (Nat.le_refl _) _
/-- One call behind the other. -/
theorem bthen {a b c : World} (h : Below a.heap.size a b) (k : Below b.heap.size b c) : Below a.heap.size a c := h.trans (k.mono h.size)
/-- A value in memory stays, if its block does. -/
theorem val_kept {w w1 : World} {b : Nat} {x y z : Value} {t : TypeId} {fr : Nat × Nat} (h : w.heap[b]? = some (.cells #[x, y, z] t fr)) (hb : Below w.heap.size w w1) :
    w1.cell? ⟨b, 0, none⟩ = some x ∧ w1.cell? ⟨b, 1, none⟩ = some y ∧ w1.cell? ⟨b, 2, none⟩ = some z := by
  have h1 : w1.heap[b]? = some (.cells #[x, y, z] t fr) := by rw [hb.block b (lt_of_block h)]; exact h
  simp [World.cell?, h1]
/-- A value in a block. -/
def At (w : World) (b : Nat) (k i : Int) (s : ByteArray) : Prop := w.heap[b]? = some (.cells #[.int .i64 k, .int .i64 i, .string s] 45 (0, 0))
theorem At.below {w w' : World} {b : Nat} {k i : Int} {s : ByteArray} (h : At w b k i s) (hb : Below w.heap.size w w') : At w' b k i s := by
  unfold At at *; rw [hb.block b (lt_of_block h)]; exact h
theorem At.cells {w : World} {b : Nat} {k i : Int} {s : ByteArray} (h : At w b k i s) : w.cell? ⟨b, 0, none⟩ = some (.int .i64 k) ∧ w.cell? ⟨b, 1, none⟩ = some (.int .i64 i) ∧ w.cell? ⟨b, 2, none⟩ = some (.string s) := by
  unfold At at h; simp [World.cell?, h]
theorem At.thawed {w : World} {b : Nat} {k i : Int} {s : ByteArray} (h : At w b k i s) : w.frozen? ⟨b, 0, none⟩ = false ∧ w.frozen? ⟨b, 1, none⟩ = false ∧ w.frozen? ⟨b, 2, none⟩ = false := by
  unfold At at h; simp [World.frozen?, h]
theorem At.new (w : World) (k i : Int) (s : ByteArray) : At (w.alloc (.cells #[.int .i64 k, .int .i64 i, .string s] 45)) w.heap.size k i s := heap_alloc_new w _
theorem At.alloc {w : World} {b : Nat} {k i : Int} {s : ByteArray} (h : At w b k i s) (o : Obj) : At (w.alloc o) b k i s := by
  unfold At at *; rw [Below.heap_alloc _ _ _ (lt_of_block h)]; exact h
/-- A slice of values that can be read. -/
def SlV (w : World) (ao : Option Addr) (len cap : Nat) (l : List Z.V) : Prop :=
  l.length = len ∧ len ≤ cap ∧ cap ≤ maxLen ∧ (ao = none → cap = 0) ∧ (len = 0 ∨ ∃ b off, ao = some ⟨b, off, none⟩ ∧ b < w.heap.size ∧ ∀ j x, l[j]? = some x → w.cell? ⟨b, off + j * 3, none⟩ = some (.int .i64 x.k) ∧ w.cell? ⟨b, off + j * 3 + 1, none⟩ = some (.int .i64 x.i) ∧ w.cell? ⟨b, off + j * 3 + 2, none⟩ = some (.string x.s))
theorem SlV.below {w w' : World} {ao : Option Addr} {len cap : Nat} {l : List Z.V} (h : SlV w ao len cap l) (hb : Below w.heap.size w w') : SlV w' ao len cap l := by
  obtain ⟨h1, h2, h3, h4, h5⟩ := h
  refine ⟨h1, h2, h3, h4, ?_⟩
  rcases h5 with h5 | ⟨b, off, rfl, hlt, h5⟩
  · exact .inl h5
  · refine .inr ⟨b, off, rfl, by have := hb.size; omega, fun j x hx => ?_⟩
    rw [hb.cell (p := ⟨b, off + j * 3, none⟩) hlt, hb.cell (p := ⟨b, off + j * 3 + 1, none⟩) hlt, hb.cell (p := ⟨b, off + j * 3 + 2, none⟩) hlt]
    exact h5 j x hx
/-- A row's cells. -/
def cellsV (l : List Z.V) : List Value := l.flatMap fun x => [.int .i64 x.k, .int .i64 x.i, .string x.s]
theorem cellsV_cons (x : Z.V) (l : List Z.V) : cellsV (x :: l) = .int .i64 x.k :: .int .i64 x.i :: .string x.s :: cellsV l := rfl
theorem cellsV_length : ∀ l : List Z.V, (cellsV l).length = l.length * 3
  | [] => rfl
  | x :: l => by rw [cellsV_cons]; simp [cellsV_length l]; omega
theorem cellsV_append (a b : List Z.V) : cellsV (a ++ b) = cellsV a ++ cellsV b := by simp [cellsV]
theorem cellsV_get : ∀ (l : List Z.V) (j : Nat) (x : Z.V), l[j]? = some x → (cellsV l)[j * 3]? = some (.int .i64 x.k) ∧ (cellsV l)[j * 3 + 1]? = some (.int .i64 x.i) ∧ (cellsV l)[j * 3 + 2]? = some (.string x.s)
  | [], j, x, h => by simp at h
  | y :: l, 0, x, h => by
    simp at h; subst h
    rw [cellsV_cons]; simp
  | y :: l, j + 1, x, h => by
    simp at h
    have := cellsV_get l j x h
    rw [cellsV_cons, show (j + 1) * 3 = j * 3 + 1 + 1 + 1 by omega, show j * 3 + 1 + 1 + 1 + 1 = (j * 3 + 1) + 1 + 1 + 1 by omega, show j * 3 + 1 + 1 + 1 + 2 = (j * 3 + 2) + 1 + 1 + 1 by omega]
    simpa using this
theorem cellsV_one (l : List Z.V) : ∀ u ∈ cellsV l, u.oneCell' = true := by
  intro u hu
  obtain ⟨x, _, hx⟩ := List.mem_flatMap.1 hu
  simp at hx
  rcases hx with rfl | rfl | rfl <;> rfl
theorem SlV.news {w : World} {ao : Option Addr} {len cap : Nat} {l : List Z.V} (h : SlV w ao len cap l) : ∀ ad, ao = some ad → ∀ j u, (cellsV l)[j]? = some u → w.cell? (ad.add j) = some u := by
  obtain ⟨h1, h2, h3, h4, h5⟩ := h
  intro ad had j u hu
  have hj : j < l.length * 3 := by have := (List.getElem?_eq_some_iff.1 hu).1; rwa [cellsV_length] at this
  rcases h5 with h5 | ⟨b, off, hao, hlt, h5⟩
  · omega
  · rw [hao] at had
    obtain rfl := Option.some.inj had
    rw [Addr.add_lit]
    obtain ⟨x, hx⟩ : ∃ x, l[j / 3]? = some x := ⟨l[j / 3]'(by omega), List.getElem?_eq_getElem _⟩
    obtain ⟨c0, c1, c2⟩ := h5 _ _ hx
    obtain ⟨g0, g1, g2⟩ := cellsV_get l _ _ hx
    have hr : j = j / 3 * 3 ∨ j = j / 3 * 3 + 1 ∨ j = j / 3 * 3 + 2 := by omega
    rcases hr with hr | hr | hr
    · rw [hr] at hu ⊢; rw [← hr] at hu; rw [hr] at hu; rw [g0] at hu; rw [← Option.some.inj hu]; exact c0
    · rw [hr] at hu ⊢; rw [← hr] at hu; rw [hr] at hu; rw [g1] at hu; rw [← Option.some.inj hu, ← Nat.add_assoc]; exact c1
    · rw [hr] at hu ⊢; rw [← hr] at hu; rw [hr] at hu; rw [g2] at hu; rw [← Option.some.inj hu, ← Nat.add_assoc]; exact c2
/-- A row of values of one's own. -/
def OwnV (w : World) (B : Nat) (v : Value) (l : List Z.V) : Prop := w.ownsRow B 45 3 v l.length (cellsV l)
theorem OwnV.below {w w' : World} {B : Nat} {v : Value} {l : List Z.V} (h : OwnV w B v l) (hb : Below w.heap.size w w') : OwnV w' B v l := owns_of_block h fun g hg => hb.block g (owns_lt h hg).2
theorem SlV.of_own {w : World} {B : Nat} {v : Value} {l : List Z.V} (h : OwnV w B v l) : ∃ ao cap, v = .slice ao l.length cap ∧ SlV w ao l.length cap l ∧ v.ownBlock = ao.map (·.block) := by
  have h0 := h
  rcases h.2 with ⟨h1, h2⟩ | ⟨g, cap, cur, hv, hg, hh, hc, hm, _⟩
  · have hl : l = [] := List.eq_nil_of_length_eq_zero h2
    subst hl
    exact ⟨none, 0, h1, ⟨rfl, Nat.le_refl _, by simp [maxLen], fun _ => rfl, .inl rfl⟩, by rw [h1]; rfl⟩
  · subst hv
    refine ⟨some ⟨g, 0, none⟩, cap, rfl, ⟨rfl, hc, hm, by simp, .inr ⟨g, 0, rfl, lt_of_block hh, fun j x hx => ?_⟩⟩, rfl⟩
    have hj : j < l.length := (List.getElem?_eq_some_iff.1 hx).1
    obtain ⟨g0, g1, g2⟩ := cellsV_get l _ _ hx
    have a0 := World.ownsRow.cellAt h0 (j * 3) (by omega)
    have a1 := World.ownsRow.cellAt h0 (j * 3 + 1) (by omega)
    have a2 := World.ownsRow.cellAt h0 (j * 3 + 2) (by omega)
    rw [Nat.zero_add]
    exact ⟨a0.trans g0, a1.trans g1, a2.trans g2⟩
theorem Tryz.infoVal : (Tryz.prog.info? 45).map (fun i => (i.zero, i.size, i.bytes)) = some (some (.agg #[.int .i64 0, .int .i64 0, .string ⟨#[]⟩]), 3, 32) := by kernel_rfl
/-- What an append to one's own row of values leaves: the row as it was can be read on. -/
theorem wpList_appV {w : World} {ops : Array Oper} {rest : List Oper} {o : Oper} {a : Act} {Q : Exit → Act → World → Prop} (hgd : o.guard = none) (s x : Operand)
    (ho : o.op = .call { callee := .builtin .append, args := #[s, x], argTypes := #[22, 22] })
    (base : Nat) (v : Value) (l : List Z.V) (hs : a.eval s = v) (hown : OwnV w base v l)
    (ao : Option Addr) (m c : Nat) (news : List Z.V) (hx : a.eval x = .slice ao m c) (hsl : SlV w ao m c news) (hlim : (l.length + m) * 32 ≤ 140737488355328) (hbase : base ≤ w.heap.size)
    (h : ∀ v' w', OwnV w' base v' (l ++ news) → AS w v w' v' → (∀ an cn, v = .slice an l.length cn → SlV w' an l.length cn l) → wpList Tryz.prog ops Q rest (a.put o.dst v') w') : wpList Tryz.prog ops Q (o :: rest) a w := by
  obtain ⟨i0, hi, hz0, hz1, hz2⟩ := info_parts Tryz.infoVal
  have hm : news.length = m := hsl.1
  have hnl : (cellsV news).length = m * 3 := by rw [cellsV_length, hm]
  have hnone : ao = none → m = 0 ∧ c = 0 := fun e => by have := hsl.2.2.2.1 e; have := hsl.2.1; omega
  have hsame : ∀ an cn, v = .slice an l.length cn → SlV w an l.length cn l := fun an cn e => by
    obtain ⟨a1, c1, e1, h1, _⟩ := SlV.of_own hown
    rw [e] at e1
    injection e1 with e1 e2 e3
    subst e1; subst e3; exact h1
  have hlist : ∀ v' w', w'.ownsRow base 45 3 v' (l.length + m) (cellsV l ++ cellsV news) → OwnV w' base v' (l ++ news) := fun v' w' h1 => by
    unfold OwnV; rw [cellsV_append, List.length_append, hm]; exact h1
  cases ao with
  | none =>
    obtain ⟨rfl, rfl⟩ := hnone rfl
    have hn : news = [] := List.eq_nil_of_length_eq_zero hm
    subst hn
    exact wpList_append_own_none hgd s x 22 ho base 45 i0 3 Tryz.underlying22 hi v l.length (cellsV l) hs hown hx (h v w (by rw [List.append_nil]; exact hown) (AS.refl _ _) hsame)
  | some ad =>
    rcases hown.2 with ⟨hv, hn0⟩ | ⟨g, cap, cur, hv, hg, hh, hc, hmm, hcs, _⟩
    · have hl0 : l = [] := List.eq_nil_of_length_eq_zero hn0
      subst hl0
      refine wpList_append_own w hgd s x 22 ho w.heap.size 45 i0 (.agg #[.int .i64 0, .int .i64 0, .string ⟨#[]⟩]) 3 32 Tryz.underlying22 hi hz0 hz1 hz2 rfl (by decide) v 0 [] hs (by rw [hv]; exact World.ownsRow_nil _ _ _ _) ad m c (cellsV news) hx hnl (hsl.news ad rfl) (cellsV_one _) (by unfold maxLen; omega) (by simpa using hlim) (Nat.le_refl _) ?_
      intro v' w' ho' hg' _
      refine h v' w' (hlist v' w' ?_) ⟨(Kept.refl _ _).grown hg' fun k hk => .inl hk, .inr fun k hk => (owns_lt ho' hk).1⟩ (fun an cn e => ?_)
      · have := owns_base ho' (base' := base) fun g hg => by have := (owns_lt ho' hg).1; omega
        show w'.ownsRow base 45 3 v' (0 + m) ([] ++ cellsV news)
        exact this
      · rw [hv] at e
        injection e with e1 e2 e3
        subst e1; subst e3
        exact ⟨rfl, Nat.le_refl _, by simp [maxLen], fun _ => rfl, .inl rfl⟩
    · subst hv
      by_cases hroom : l.length + m ≤ cap
      · refine wpList_append_fits w hgd s x 22 ho base 45 i0 3 Tryz.underlying22 hi hz1 g l.length cap (cellsV l) hs hown ad m c (cellsV news) hx hnl (hsl.news ad rfl) (cellsV_one _) hroom ?_
        intro w' ho' hg'
        refine h _ w' (hlist _ w' ho') ⟨(Kept.refl _ _).grown hg' fun k hk => .inl hk, .inl rfl⟩ (fun an cn e => ?_)
        injection e with e1 e2 e3
        subst e1; subst e3
        obtain ⟨_, _, _, h1, _⟩ := SlV.of_own hown
        refine ⟨rfl, hc, hmm, by simp, .inr ⟨g, 0, rfl, ?_, fun j y hy => ?_⟩⟩
        · have := (owns_lt ho' (k := g) rfl).2; exact this
        · have hj : j < l.length := (List.getElem?_eq_some_iff.1 hy).1
          obtain ⟨g0, g1, g2⟩ := cellsV_get l _ _ hy
          have a0 := World.ownsRow.cellAt ho' (j * 3) (by omega)
          have a1 := World.ownsRow.cellAt ho' (j * 3 + 1) (by omega)
          have a2 := World.ownsRow.cellAt ho' (j * 3 + 2) (by omega)
          have hl3 := cellsV_length l
          rw [List.getElem?_append_left (by omega)] at a0 a1 a2
          rw [Nat.zero_add]
          exact ⟨a0.trans g0, a1.trans g1, a2.trans g2⟩
      · refine wpList_append_grows w hgd s x 22 ho 45 i0 (.agg #[.int .i64 0, .int .i64 0, .string ⟨#[]⟩]) 3 32 Tryz.underlying22 hi hz0 hz1 hz2 rfl (by decide) (some ⟨g, 0, none⟩) l.length cap (cellsV l) hs (by simp) hown.1 (fun b hb j u hu => by obtain rfl := Option.some.inj hb; exact hown.cells rfl j u hu) ad m c (cellsV news) hx hnl (hsl.news ad rfl) (cellsV_one _) (by omega) (by unfold maxLen; omega) hlim ?_
        intro v' w' ho' hg'
        have hbel : Below w.heap.size w w' := ((Kept.refl (fun _ => False) w).grown hg' (by simp)).below (Nat.le_refl _) (by simp)
        exact h v' w' (hlist v' w' (owns_base ho' fun k hk => by have := (owns_lt ho' hk).1; omega)) ⟨(Kept.refl _ _).grown hg' (by simp), .inr fun k hk => (owns_lt ho' hk).1⟩ (fun an cn e => (hsame an cn e).below hbel)
end Go.Proofs.YtmhfpipeoojacaaGreat
/- Steps on values, rows of values and boxes in a region that draws its order. -/
namespace Go.Proofs.YtmhfpipeoojacaaGreat.V
set_option linter.unusedVariables false
open Go.RowKit
variable {ops : Array Oper} {Q : Exit → Act → World → Prop} {tbl : List (Nat × Ent)} {w0 : World} {o : Oper}

def Ent.ownV (B : Nat) (l : List Z.V) : Ent := ⟨fun v w => OwnV w B v l, fun hb h => h.below hb⟩
def Ent.slV (k : Nat) (l : List Z.V) : Ent := ⟨fun v w => ∃ a c, v = .slice a k c ∧ SlV w a k c l, fun hb ⟨a, c, h1, h2⟩ => ⟨a, c, h1, h2.below hb⟩⟩
theorem build_oneV (w : World) (k i : Int) (z : ByteArray) : (Instr.buildSlice 22 1 #[(0, .agg #[.int .i64 k, .int .i64 i, .string z])]).run Tryz.prog w = .ok (.slice (some ⟨w.heap.size, 0, none⟩) 1 1) (w.alloc (.cells #[.int .i64 k, .int .i64 i, .string z] 45)) := by
  simp [go_sem]
theorem Step.oneV {s : Nat} {k i : Int} {z : ByteArray} (hw : Wants tbl ops o) (ho : o.op = .buildSlice 22 1 #[(0, .tmp s)]) (hs : get tbl s = Ent.is (.agg #[.int .i64 k, .int .i64 i, .string z])) (hd : ∀ d, o.dst = some d → get tbl d = Ent.slV 1 [⟨k, i, z⟩]) : Step Tryz.prog ops Q tbl w0 o := by
  refine Step.run hw fun a w hb hk => ⟨.slice (some ⟨w.heap.size, 0, none⟩) 1 1, w.alloc (.cells #[.int .i64 k, .int .i64 i, .string z] 45), ?_, (Below.refl _ _).alloc (Nat.le_refl _) _, fun d h => ?_⟩
  · have h1 : a.eval (.tmp s) = .agg #[.int .i64 k, .int .i64 i, .string z] := by
      have := hk s (looks_op (by rw [ho]; simp [Op.operands]))
      rwa [hs] at this
    simp only [execOp, ho]
    simp [h1, build_oneV]
  · rw [hd d h]
    refine ⟨_, _, rfl, rfl, Nat.le_refl _, by decide, by simp, .inr ⟨w.heap.size, 0, rfl, by simp, fun j x hx => ?_⟩⟩
    match j, hx with
    | 0, hx => simp at hx; subst hx; simp
/-- A new box. -/
def Ent.box (B : Nat) (t : TypeId) (u : Value) : Ent := ⟨fun v w => ∃ b, v = .pointer (some ⟨b, 0, none⟩) ∧ B ≤ b ∧ Boxed w b t u, fun hb ⟨b, h1, h2, h3⟩ => ⟨b, h1, h2, (hb.block b h3.lt).trans h3⟩⟩
theorem Step.boxVs (hw : Wants tbl ops o) (ho : o.op = .alloc 22) (hd : ∀ d, o.dst = some d → get tbl d = Ent.box w0.heap.size 22 (.slice none 0 0)) : Step Tryz.prog ops Q tbl w0 o := by
  refine Step.run hw fun a w hb hk => ⟨.pointer (some ⟨w.heap.size, 0, none⟩), w.alloc (.cells #[.slice none 0 0] 22), ?_, (Below.refl _ _).alloc (Nat.le_refl _) _, fun d h => ?_⟩
  · simp only [execOp, ho]
    simp [go_sem]
  · rw [hd d h]
    exact ⟨_, rfl, hb.size, Boxed.new w _ _⟩
theorem Step.lenT {s k : Nat} {t : TypeId} (hw : Wants tbl ops o) (ho : o.op = .call { callee := .builtin .len, args := #[.tmp s], argTypes := #[t] }) (ht : t = 22 ∨ t = 71) (hs : ∀ v w, (get tbl s).p v w → ∃ a c, v = .slice a k c) (hd : ∀ d, o.dst = some d → get tbl d = Ent.is (.int .i64 (k : Int))) : Step Tryz.prog ops Q tbl w0 o := by
  refine Step.value hw fun a w hb hk => ⟨.int .i64 (k : Int), ?_, fun d h => by rw [hd d h]; rfl⟩
  obtain ⟨a1, c1, h2⟩ := hs _ _ (hk s (looks_op (by rw [ho]; simp [Op.operands, Call.operands])))
  obtain ⟨dst, op, type, pos, after, guard⟩ := o
  obtain rfl : op = _ := ho
  have h3 := slot_of h2
  rcases ht with rfl | rfl <;> simp [h3, go_sem, Builtin.len_]
/-- What a box holds. -/
theorem Step.ldT {s g i : Nat} {t : TypeId} {v : Value} (hw : Wants tbl ops o) (ho : o.op = .load t (.tmp s)) (hs : get tbl s = Ent.is (.pointer (some ⟨g, i, none⟩))) (ht : (t = 22 ∧ ∃ a n c, v = .slice a n c) ∨ (t = 71 ∧ ∃ a n c, v = .slice a n c) ∨ (t = 3 ∧ ∃ n, v = .int .i64 n)) (hg : g < w0.heap.size) (hc : w0.cell? ⟨g, i, none⟩ = some v) (hd : ∀ d, o.dst = some d → get tbl d = Ent.is v) : Step Tryz.prog ops Q tbl w0 o := by
  refine Step.value hw fun a w hb hk => ⟨v, ?_, fun d h => by rw [hd d h]; rfl⟩
  have e1 : a.eval (.tmp s) = .pointer (some ⟨g, i, none⟩) := by
    have := hk s (looks_op (by rw [ho]; simp [Op.operands]))
    rwa [hs] at this
  have hc2 : w.cell? ⟨g, i, none⟩ = some v := by rw [hb.cell (p := ⟨g, i, none⟩) hg]; exact hc
  simp only [execOp, ho, e1]
  rcases ht with ⟨rfl, a, n, c, rfl⟩ | ⟨rfl, a, n, c, rfl⟩ | ⟨rfl, n, rfl⟩ <;> simp [go_sem, hc2]
theorem run_idxV (w : World) (g off len cap : Nat) (k : IntKind) (i : Int) (h0 : 0 ≤ i) (h1 : i < (len : Int)) : (Instr.indexAt 22 (.slice (some ⟨g, off, none⟩) len cap) (.int k i)).run Tryz.prog w = .ok (.pointer (some ⟨g, off + i.toNat * 3, none⟩)) w := by
  have he : Tryz.prog.elem 22 = 45 := by kernel_rfl
  have hs : (sizeOf 45).run Tryz.prog w = .ok 3 w := by
    have h : (Tryz.prog.info? 45).map (·.size) = some 3 := by kernel_rfl
    cases hq : Tryz.prog.info? 45 with
    | none => rw [hq] at h; simp at h
    | some i => rw [hq] at h; simp at h; simp [sizeOf, typeInfo, hq, h]
  rw [run_indexAt_slice (w := w) 22 ⟨g, off, none⟩ len cap k i (by rw [he]; exact Tryz.underlying22), if_pos ⟨h0, h1⟩, he, hs]
  simp only [Result.andThen_ok, Addr.add_lit]
/-- Where a value of a row lies. -/
theorem Step.idxV {s g off len cap : Nat} {x : Operand} {k : IntKind} {i : Int} {p : Value} (hw : Wants tbl ops o) (ho : o.op = .indexAddr 22 (.tmp s) x) (hs : get tbl s = Ent.is (.slice (some ⟨g, off, none⟩) len cap)) (hx : (∃ t, x = .tmp t) ∨ ∃ v, x = .const v) (hex : ent tbl x = Ent.is (.int k i)) (h0 : 0 ≤ i) (h1 : i < (len : Int)) (hp : .pointer (some ⟨g, off + i.toNat * 3, none⟩) = p) (hd : ∀ d, o.dst = some d → get tbl d = Ent.is p) : Step Tryz.prog ops Q tbl w0 o := by
  subst hp
  refine Step.value hw fun a w hb hk => ⟨.pointer (some ⟨g, off + i.toNat * 3, none⟩), ?_, fun d h => by rw [hd d h]; rfl⟩
  have e1 : a.eval (.tmp s) = .slice (some ⟨g, off, none⟩) len cap := by
    have := hk s (looks_op (by rw [ho]; simp [Op.operands]))
    rwa [hs] at this
  have e2 : a.eval x = .int k i := ent_eval hex (.inl (by rw [ho]; simp [Op.operands])) hk hx
  simp [execOp, ho, e1, e2, run_idxV w g off len cap k i h0 h1]
/-- A value of a row. -/
theorem Step.ldV {s g j : Nat} {k i : Int} {z : ByteArray} (hw : Wants tbl ops o) (ho : o.op = .load 45 (.tmp s)) (hs : get tbl s = Ent.is (.pointer (some ⟨g, j, none⟩))) (hg : g < w0.heap.size) (h0 : w0.cell? ⟨g, j, none⟩ = some (.int .i64 k)) (h1 : w0.cell? ⟨g, j + 1, none⟩ = some (.int .i64 i)) (h2 : w0.cell? ⟨g, j + 2, none⟩ = some (.string z)) (hd : ∀ d, o.dst = some d → get tbl d = Ent.is (.agg #[.int .i64 k, .int .i64 i, .string z])) : Step Tryz.prog ops Q tbl w0 o := by
  refine Step.value hw fun a w hb hk => ⟨.agg #[.int .i64 k, .int .i64 i, .string z], ?_, fun d h => by rw [hd d h]; rfl⟩
  have e1 : a.eval (.tmp s) = .pointer (some ⟨g, j, none⟩) := by
    have := hk s (looks_op (by rw [ho]; simp [Op.operands]))
    rwa [hs] at this
  have c0 : w.cell? ⟨g, j, none⟩ = some (.int .i64 k) := by rw [hb.cell (p := ⟨g, j, none⟩) hg]; exact h0
  have c1 : w.cell? ⟨g, j + 1, none⟩ = some (.int .i64 i) := by rw [hb.cell (p := ⟨g, j + 1, none⟩) hg]; exact h1
  have c2 : w.cell? ⟨g, j + 2, none⟩ = some (.string z) := by rw [hb.cell (p := ⟨g, j + 2, none⟩) hg]; exact h2
  simp only [execOp, ho, e1]
  simp [go_sem, c0, c1, c2]
/-- Room for so many values. -/
theorem Step.makeV {s n : Nat} {i : Int} {c : Value} (hw : Wants tbl ops o) (ho : o.op = .makeSlice 22 (.const c) (.tmp s)) (hc : c = .int .i64 0) (hs : get tbl s = Ent.is (.int .i64 i)) (hi : i = (n : Int)) (hn : n * 32 ≤ 140737488355328) (hd : ∀ d, o.dst = some d → get tbl d = Ent.ownV w0.heap.size []) : Step Tryz.prog ops Q tbl w0 o := by
  subst hc hi
  obtain ⟨i0, hi, hz0, hz1, hz2⟩ := info_parts Tryz.infoVal
  refine Step.run hw fun a w hb hk => ?_
  have e1 : a.eval (.tmp s) = .int .i64 (n : Int) := by
    have := hk s (looks_op (by rw [ho]; simp [Op.operands]))
    rwa [hs] at this
  have e2 : a.eval (.const (.int .i64 0)) = .int .i64 0 := rfl
  obtain ⟨w', hr, hown, hg⟩ := run_make_own w w0.heap.size 22 45 i0 _ 3 Tryz.underlying22 hi hz0 hz1 .i64 .i64 n (by rw [hz2]; omega) (by unfold maxLen; omega) hb.size
  refine ⟨.slice (some ⟨w.heap.size, 0, none⟩) 0 n, w', ?_, ?_, fun d h => ?_⟩
  · simp [execOp, ho, e1, e2, hr]
  · exact ((Kept.refl (fun _ => False) w).grown hg (by simp)).below (Nat.le_refl _) (by simp)
  · rw [hd d h]
    exact hown
/-- A call of two arguments, of which the second is a function of the program. -/
theorem Step.callF {P : Program} {f g : FuncId} {s : Nat} {ats : Array TypeId} {v : Value} {fn : Func} {c : Code} (hw : Wants tbl ops o) (ho : o.op = .call { callee := .value (.func f), args := #[.tmp s, .func g], argTypes := ats }) (hs : get tbl s = Ent.is v)
    (hf : P.funcs[f]? = some fn) (hname : (fn.name == "runtime.NumGoroutine") = false) (hb : fn.body = some c)
    (h : ∀ w : World, Below w0.heap.size w0 w → Calls P f #[v, .func (.func g) #[] #[]] w fun e w' => ∃ v', e = .returned v' ∧ Below w.heap.size w w' ∧ ∀ d, o.dst = some d → (get tbl d).p v' w') : Step P ops Q tbl w0 o := by
  refine Step.enter hw fun a w hbw hk => ⟨f, #[v, .func (.func g) #[] #[]], ?_, h w hbw⟩
  have h1 := hk s (looks_op (by rw [ho]; simp [Op.operands, Call.operands]))
  rw [hs] at h1
  have h2 : a.eval (.tmp s) = v := h1
  have h4 : a.eval (.func g) = .func (.func g) #[] #[] := rfl
  obtain ⟨dst, op, type, pos, after, guard⟩ := o
  obtain rfl : op = _ := ho
  have h3 : fn.name ≠ "runtime.NumGoroutine" := by simpa using hname
  simp [execOp_call_go, callFunc, hf, h3, hb, h2, h4]
theorem append_nothingV (w : World) (ty : TypeId) (ao bo : Option Addr) (n cap c : Nat) (h : n ≤ cap) :
    (Builtin.append_ #[22, 22] ty #[.slice ao n cap, .slice bo 0 c]).run Tryz.prog w = .ok (.slice ao n cap) w := by
  obtain ⟨i0, hi, hz0, hz1, hz2⟩ := info_parts Tryz.infoVal
  cases ao <;> cases bo <;> simp [Builtin.append_, run_underlying Tryz.underlying22, sizeOf, typeInfo, hi, Builtin.lenOf, h, Builtin.firstCells, run_load_none, storeCells]
/-- No values, in new memory, without room. -/
def Ent.bareV (B : Nat) : Ent := ⟨fun v w => OwnV w B v [] ∧ ∃ g, v = .slice (some ⟨g, 0, none⟩) 0 0, fun hb ⟨h1, h2⟩ => ⟨h1.below hb, h2⟩⟩
theorem Step.bareV (hw : Wants tbl ops o) (ho : o.op = .buildSlice 22 0 #[]) (hd : ∀ d, o.dst = some d → get tbl d = Ent.bareV w0.heap.size) : Step Tryz.prog ops Q tbl w0 o := by
  refine Step.run hw fun a w hb hk => ⟨.slice (some ⟨w.heap.size, 0, none⟩) 0 0, w.alloc (.cells #[] 45), ?_, (Below.refl _ _).alloc (Nat.le_refl _) _, fun d h => ?_⟩
  · simp only [execOp, ho]
    simp [go_sem]
  · rw [hd d h]
    exact ⟨World.ownsRow_lit w #[] 0 hb.size (by decide) rfl, _, rfl⟩
theorem Step.appV {s x : Nat} {ao : Option Addr} {m c : Nat} {news : List Z.V} (hg : o.guard = none) (ho : o.op = .call { callee := .builtin .append, args := #[.tmp s, .tmp x], argTypes := #[22, 22] })
    (hs : get tbl s = Ent.bareV w0.heap.size) (hx : get tbl x = Ent.is (.slice ao m c)) (hsl : SlV w0 ao m c news) (hlim : m * 32 ≤ 140737488355328) (hd : ∀ d, o.dst = some d → get tbl d = Ent.ownV w0.heap.size news) : Step Tryz.prog ops Q tbl w0 o := by
  intro a w hb hk
  have h1 := hk s (looks_op (by rw [ho]; simp [Op.operands, Call.operands]))
  rw [hs] at h1
  obtain ⟨h1, g, h3⟩ := h1
  have h2 : a.eval (.tmp x) = .slice ao m c := by
    have := hk x (looks_op (by rw [ho]; simp [Op.operands, Call.operands]))
    rwa [hx] at this
  have hsl' := hsl.below hb
  have hm : news.length = m := hsl.1
  refine .inl ⟨(Wants.wanted (.inl hg) hk), ?_⟩
  by_cases h0 : m = 0
  · subst h0
    obtain rfl : news = [] := List.eq_nil_of_length_eq_zero hm
    have hrun := append_nothingV w o.type (some ⟨g, 0, none⟩) ao 0 0 c (Nat.le_refl _)
    unfold Oper.wp
    simp [execOp, ho, resolve, invoke, builtin, h3, h2, hrun, Result.andThen]
    refine ⟨Below.refl _ _, _, rfl, fun d hdd => ?_⟩
    rw [hd d hdd, ← h3]; exact h1
  · cases ao with
    | none => exact absurd (by have := hsl.2.2.2.1 rfl; have := hsl.2.1; omega) h0
    | some ad =>
      obtain ⟨i0, hi, hz0, hz1, hz2⟩ := info_parts Tryz.infoVal
      refine wp_of_list (ops := ops) hg (wpList_append_grows w hg (.tmp s) (.tmp x) 22 ho 45 i0 (.agg #[.int .i64 0, .int .i64 0, .string ⟨#[]⟩]) 3 32 Tryz.underlying22 hi hz0 hz1 hz2 rfl (by decide) (some ⟨g, 0, none⟩) 0 0 [] h3 (by simp) rfl (fun _ _ _ _ h => by simp at h) ad m c (cellsV news) h2 (by rw [cellsV_length, hm]) (hsl'.news ad rfl) (cellsV_one _) (by omega) (by unfold maxLen; omega) (by simpa using hlim) ?_)
      intro v' w' ho' hg'
      have hbel : Below w.heap.size w w' := ((Kept.refl (fun _ => False) w).grown hg' (by simp)).below (Nat.le_refl _) (by simp)
      refine ⟨rfl, hbel, v', rfl, fun d hdd => ?_⟩
      rw [hd d hdd]
      have h5 := owns_base ho' (base' := w0.heap.size) fun k hk => by have := (owns_lt ho' hk).1; have := hb.size; omega
      show w'.ownsRow _ _ _ _ _ _
      rw [hm]
      simpa using h5
end Go.Proofs.YtmhfpipeoojacaaGreat.V

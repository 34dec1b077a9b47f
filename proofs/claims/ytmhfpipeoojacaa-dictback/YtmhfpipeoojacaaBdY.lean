/- Steps on values, rows of values and boxes in a region that draws its order. -/
import Derived.Test.YtmhfpipeoojacaaBdF
import Derived.Test.YtmhfpipeoojacaaBdX
import Derived.RangeFuncNested
import Derived.Handy
namespace Go.Proofs.Ytmhfpipeoojacaa.V
set_option linter.unusedVariables false
open Go.RowKit
variable {ops : Array Oper} {Q : Exit → Act → World → Prop} {tbl : List (Nat × Ent)} {w0 : World} {o : Oper}

def Ent.ownV (B : Nat) (l : List Z.V) : Ent := ⟨fun v w => OwnV w B v l, fun hb h => h.below hb⟩
def Ent.slV (k : Nat) (l : List Z.V) : Ent := ⟨fun v w => ∃ a c, v = .slice a k c ∧ SlV w a k c l, fun hb ⟨a, c, h1, h2⟩ => ⟨a, c, h1, h2.below hb⟩⟩
theorem build_oneV (w : World) (k i : Int) (z : ByteArray) : (Instr.buildSlice 22 1 #[(0, .agg #[.int .i64 k, .int .i64 i, .string z])]).run Try.prog w = .ok (.slice (some ⟨w.heap.size, 0, none⟩) 1 1) (w.alloc (.cells #[.int .i64 k, .int .i64 i, .string z] 24)) := by
  simp [go_sem]
theorem Step.oneV {s : Nat} {k i : Int} {z : ByteArray} (hw : Wants tbl ops o) (ho : o.op = .buildSlice 22 1 #[(0, .tmp s)]) (hs : get tbl s = Ent.is (.agg #[.int .i64 k, .int .i64 i, .string z])) (hd : ∀ d, o.dst = some d → get tbl d = Ent.slV 1 [⟨k, i, z⟩]) : Step Try.prog ops Q tbl w0 o := by
  refine Step.run hw fun a w hb hk => ⟨.slice (some ⟨w.heap.size, 0, none⟩) 1 1, w.alloc (.cells #[.int .i64 k, .int .i64 i, .string z] 24), ?_, (Below.refl _ _).alloc (Nat.le_refl _) _, fun d h => ?_⟩
  · have h1 : a.eval (.tmp s) = .agg #[.int .i64 k, .int .i64 i, .string z] := by
      have := hk s (looks_op (by rw [ho]; simp [Op.operands]))
      rwa [hs] at this
    simp only [execOp, ho]
    simp [h1, build_oneV]
  · rw [hd d h]
    refine ⟨_, _, rfl, rfl, Nat.le_refl _, by decide, by simp, .inr ⟨w.heap.size, 0, rfl, by simp, fun j x hx => ?_⟩⟩
    match j, hx with
    | 0, hx => simp at hx; subst hx; simp
/-- A new box. -/
def Ent.box (B : Nat) (t : TypeId) (u : Value) : Ent := ⟨fun v w => ∃ b, v = .pointer (some ⟨b, 0, none⟩) ∧ B ≤ b ∧ Boxed w b t u, fun hb ⟨b, h1, h2, h3⟩ => ⟨b, h1, h2, (hb.block b h3.lt).trans h3⟩⟩
theorem Step.boxVs (hw : Wants tbl ops o) (ho : o.op = .alloc 22) (hd : ∀ d, o.dst = some d → get tbl d = Ent.box w0.heap.size 22 (.slice none 0 0)) : Step Try.prog ops Q tbl w0 o := by
  refine Step.run hw fun a w hb hk => ⟨.pointer (some ⟨w.heap.size, 0, none⟩), w.alloc (.cells #[.slice none 0 0] 22), ?_, (Below.refl _ _).alloc (Nat.le_refl _) _, fun d h => ?_⟩
  · simp only [execOp, ho]
    simp [go_sem]
  · rw [hd d h]
    exact ⟨_, rfl, hb.size, Boxed.new w _ _⟩
theorem run_idxV (w : World) (g off len cap : Nat) (k : IntKind) (i : Int) (h0 : 0 ≤ i) (h1 : i < (len : Int)) : (Instr.indexAt 22 (.slice (some ⟨g, off, none⟩) len cap) (.int k i)).run Try.prog w = .ok (.pointer (some ⟨g, off + i.toNat * 3, none⟩)) w := by
  have he : Try.prog.elem 22 = 24 := by kernel_rfl
  have hs : (sizeOf 24).run Try.prog w = .ok 3 w := by
    have h : (Try.prog.info? 24).map (·.size) = some 3 := by kernel_rfl
    cases hq : Try.prog.info? 24 with
    | none => rw [hq] at h; simp at h
    | some i => rw [hq] at h; simp at h; simp [sizeOf, typeInfo, hq, h]
  rw [run_indexAt_slice (w := w) 22 ⟨g, off, none⟩ len cap k i (by rw [he]; exact Try.underlying22), if_pos ⟨h0, h1⟩, he, hs]
  simp only [Result.andThen_ok, Addr.add_lit]
/-- Where a value of a row lies. -/
theorem Step.idxV {s g off len cap : Nat} {x : Operand} {k : IntKind} {i : Int} {p : Value} (hw : Wants tbl ops o) (ho : o.op = .indexAddr 22 (.tmp s) x) (hs : get tbl s = Ent.is (.slice (some ⟨g, off, none⟩) len cap)) (hx : (∃ t, x = .tmp t) ∨ ∃ v, x = .const v) (hex : ent tbl x = Ent.is (.int k i)) (h0 : 0 ≤ i) (h1 : i < (len : Int)) (hp : .pointer (some ⟨g, off + i.toNat * 3, none⟩) = p) (hd : ∀ d, o.dst = some d → get tbl d = Ent.is p) : Step Try.prog ops Q tbl w0 o := by
  subst hp
  refine Step.value hw fun a w hb hk => ⟨.pointer (some ⟨g, off + i.toNat * 3, none⟩), ?_, fun d h => by rw [hd d h]; rfl⟩
  have e1 : a.eval (.tmp s) = .slice (some ⟨g, off, none⟩) len cap := by
    have := hk s (looks_op (by rw [ho]; simp [Op.operands]))
    rwa [hs] at this
  have e2 : a.eval x = .int k i := ent_eval hex (.inl (by rw [ho]; simp [Op.operands])) hk hx
  simp [execOp, ho, e1, e2, run_idxV w g off len cap k i h0 h1]
/-- A value of a row. -/
theorem Step.ldV {s g j : Nat} {k i : Int} {z : ByteArray} (hw : Wants tbl ops o) (ho : o.op = .load 24 (.tmp s)) (hs : get tbl s = Ent.is (.pointer (some ⟨g, j, none⟩))) (hg : g < w0.heap.size) (h0 : w0.cell? ⟨g, j, none⟩ = some (.int .i64 k)) (h1 : w0.cell? ⟨g, j + 1, none⟩ = some (.int .i64 i)) (h2 : w0.cell? ⟨g, j + 2, none⟩ = some (.string z)) (hd : ∀ d, o.dst = some d → get tbl d = Ent.is (.agg #[.int .i64 k, .int .i64 i, .string z])) : Step Try.prog ops Q tbl w0 o := by
  refine Step.value hw fun a w hb hk => ⟨.agg #[.int .i64 k, .int .i64 i, .string z], ?_, fun d h => by rw [hd d h]; rfl⟩
  have e1 : a.eval (.tmp s) = .pointer (some ⟨g, j, none⟩) := by
    have := hk s (looks_op (by rw [ho]; simp [Op.operands]))
    rwa [hs] at this
  have c0 : w.cell? ⟨g, j, none⟩ = some (.int .i64 k) := by rw [hb.cell (p := ⟨g, j, none⟩) hg]; exact h0
  have c1 : w.cell? ⟨g, j + 1, none⟩ = some (.int .i64 i) := by rw [hb.cell (p := ⟨g, j + 1, none⟩) hg]; exact h1
  have c2 : w.cell? ⟨g, j + 2, none⟩ = some (.string z) := by rw [hb.cell (p := ⟨g, j + 2, none⟩) hg]; exact h2
  simp only [execOp, ho, e1]
  simp [go_sem, c0, c1, c2]
/-- Room for so many values. -/
theorem Step.makeV {s n : Nat} {i : Int} {c : Value} (hw : Wants tbl ops o) (ho : o.op = .makeSlice 22 (.const c) (.tmp s)) (hc : c = .int .i64 0) (hs : get tbl s = Ent.is (.int .i64 i)) (hi : i = (n : Int)) (hn : n * 32 ≤ 140737488355328) (hd : ∀ d, o.dst = some d → get tbl d = Ent.ownV w0.heap.size []) : Step Try.prog ops Q tbl w0 o := by
  subst hc hi
  obtain ⟨i0, hi, hz0, hz1, hz2⟩ := info_parts Try.infoVal
  refine Step.run hw fun a w hb hk => ?_
  have e1 : a.eval (.tmp s) = .int .i64 (n : Int) := by
    have := hk s (looks_op (by rw [ho]; simp [Op.operands]))
    rwa [hs] at this
  have e2 : a.eval (.const (.int .i64 0)) = .int .i64 0 := rfl
  obtain ⟨w', hr, hown, hg⟩ := run_make_own w w0.heap.size 22 24 i0 _ 3 Try.underlying22 hi hz0 hz1 .i64 .i64 n (by rw [hz2]; omega) (by unfold maxLen; omega) hb.size
  refine ⟨.slice (some ⟨w.heap.size, 0, none⟩) 0 n, w', ?_, ?_, fun d h => ?_⟩
  · simp [execOp, ho, e1, e2, hr]
  · exact ((Kept.refl (fun _ => False) w).grown hg (by simp)).below (Nat.le_refl _) (by simp)
  · rw [hd d h]
    exact hown
/-- A call of two arguments, of which the second is a function of the program. -/
theorem Step.callF {P : Program} {f g : FuncId} {s : Nat} {ats : Array TypeId} {v : Value} {fn : Func} {c : Code} (hw : Wants tbl ops o) (ho : o.op = .call { callee := .value (.func f), args := #[.tmp s, .func g], argTypes := ats }) (hs : get tbl s = Ent.is v)
    (hf : P.funcs[f]? = some fn) (hname : (fn.name == "runtime.NumGoroutine") = false) (hb : fn.body = some c)
    (h : ∀ w : World, Below w0.heap.size w0 w → Calls P f #[v, .func (.func g) #[] #[]] w fun e w' => ∃ v', e = .returned v' ∧ Below w.heap.size w w' ∧ ∀ d, o.dst = some d → (get tbl d).p v' w') : Step P ops Q tbl w0 o := by
  refine Step.enter hw fun a w hbw hk => ⟨f, #[v, .func (.func g) #[] #[]], ?_, h w hbw⟩
  have h1 := hk s (looks_op (by rw [ho]; simp [Op.operands, Call.operands]))
  rw [hs] at h1
  have h2 : a.eval (.tmp s) = v := h1
  have h4 : a.eval (.func g) = .func (.func g) #[] #[] := rfl
  obtain ⟨dst, op, type, pos, after, guard⟩ := o
  obtain rfl : op = _ := ho
  have h3 : fn.name ≠ "runtime.NumGoroutine" := by simpa using hname
  simp [execOp_call_go, callFunc, hf, h3, hb, h2, h4]
theorem append_nothingV (w : World) (ty : TypeId) (ao bo : Option Addr) (n cap c : Nat) (h : n ≤ cap) :
    (Builtin.append_ #[22, 22] ty #[.slice ao n cap, .slice bo 0 c]).run Try.prog w = .ok (.slice ao n cap) w := by
  obtain ⟨i0, hi, hz0, hz1, hz2⟩ := info_parts Try.infoVal
  cases ao <;> cases bo <;> simp [Builtin.append_, run_underlying Try.underlying22, sizeOf, typeInfo, hi, Builtin.lenOf, h, Builtin.firstCells, run_load_none, storeCells]
/-- No values, in new memory, without room. -/
def Ent.bareV (B : Nat) : Ent := ⟨fun v w => OwnV w B v [] ∧ ∃ g, v = .slice (some ⟨g, 0, none⟩) 0 0, fun hb ⟨h1, h2⟩ => ⟨h1.below hb, h2⟩⟩
theorem Step.bareV (hw : Wants tbl ops o) (ho : o.op = .buildSlice 22 0 #[]) (hd : ∀ d, o.dst = some d → get tbl d = Ent.bareV w0.heap.size) : Step Try.prog ops Q tbl w0 o := by
  refine Step.run hw fun a w hb hk => ⟨.slice (some ⟨w.heap.size, 0, none⟩) 0 0, w.alloc (.cells #[] 24), ?_, (Below.refl _ _).alloc (Nat.le_refl _) _, fun d h => ?_⟩
  · simp only [execOp, ho]
    simp [go_sem]
  · rw [hd d h]
    exact ⟨World.ownsRow_lit w #[] 0 hb.size (by decide) rfl, _, rfl⟩
theorem Step.appV {s x : Nat} {ao : Option Addr} {m c : Nat} {news : List Z.V} (hg : o.guard = none) (ho : o.op = .call { callee := .builtin .append, args := #[.tmp s, .tmp x], argTypes := #[22, 22] })
    (hs : get tbl s = Ent.bareV w0.heap.size) (hx : get tbl x = Ent.is (.slice ao m c)) (hsl : SlV w0 ao m c news) (hlim : m * 32 ≤ 140737488355328) (hd : ∀ d, o.dst = some d → get tbl d = Ent.ownV w0.heap.size news) : Step Try.prog ops Q tbl w0 o := by
  intro a w hb hk
  have h1 := hk s (looks_op (by rw [ho]; simp [Op.operands, Call.operands]))
  rw [hs] at h1
  obtain ⟨h1, g, h3⟩ := h1
  have h2 : a.eval (.tmp x) = .slice ao m c := by
    have := hk x (looks_op (by rw [ho]; simp [Op.operands, Call.operands]))
    rwa [hx] at this
  have hsl' := hsl.below hb
  have hm : news.length = m := hsl.1
  refine .inl ⟨(Wants.wanted (.inl hg) hk), ?_⟩
  by_cases h0 : m = 0
  · subst h0
    obtain rfl : news = [] := List.eq_nil_of_length_eq_zero hm
    have hrun := append_nothingV w o.type (some ⟨g, 0, none⟩) ao 0 0 c (Nat.le_refl _)
    unfold Oper.wp
    simp [execOp, ho, resolve, invoke, builtin, h3, h2, hrun, Result.andThen]
    refine ⟨Below.refl _ _, _, rfl, fun d hdd => ?_⟩
    rw [hd d hdd, ← h3]; exact h1
  · cases ao with
    | none => exact absurd (by have := hsl.2.2.2.1 rfl; have := hsl.2.1; omega) h0
    | some ad =>
      obtain ⟨i0, hi, hz0, hz1, hz2⟩ := info_parts Try.infoVal
      refine wp_of_list (ops := ops) hg (wpList_append_grows w hg (.tmp s) (.tmp x) 22 ho 24 i0 (.agg #[.int .i64 0, .int .i64 0, .string ⟨#[]⟩]) 3 32 Try.underlying22 hi hz0 hz1 hz2 rfl (by decide) (some ⟨g, 0, none⟩) 0 0 [] h3 (by simp) rfl (fun _ _ _ _ h => by simp at h) ad m c (cellsV news) h2 (by rw [cellsV_length, hm]) (hsl'.news ad rfl) (cellsV_one _) (by omega) (by unfold maxLen; omega) (by simpa using hlim) ?_)
      intro v' w' ho' hg'
      have hbel : Below w.heap.size w w' := ((Kept.refl (fun _ => False) w).grown hg' (by simp)).below (Nat.le_refl _) (by simp)
      refine ⟨rfl, hbel, v', rfl, fun d hdd => ?_⟩
      rw [hd d hdd]
      have h5 := owns_base ho' (base' := w0.heap.size) fun k hk => by have := (owns_lt ho' hk).1; have := hb.size; omega
      show w'.ownsRow _ _ _ _ _ _
      rw [hm]
      simpa using h5
end Go.Proofs.Ytmhfpipeoojacaa.V
/- Split: which values are nothing, and the others. -/
namespace Go.Proofs.Ytmhfpipeoojacaa
set_option linter.unusedVariables false
open Go.RowKit
attribute [local go_sem] Oper.semAt_some

/-- Nothing. -/
def Z.z0 : Z.V := ⟨0, 0, ⟨#[]⟩⟩
/-- Which are nothing. -/
def nus (l : List Z.V) : List Bool := l.map fun x => x.k == 0
/-- The others. -/
def oth (l : List Z.V) : List Z.V := l.filter fun x => !(x.k == 0)
theorem nus_length (l : List Z.V) : (nus l).length = l.length := by simp [nus]
theorem nus_get {l : List Z.V} {j : Nat} {x : Z.V} (h : l[j]? = some x) : (nus l).getD j false = (x.k == 0) := by simp [nus, List.getD, h]
theorem take_snocV {l : List Z.V} {j : Nat} {x : Z.V} (h : l[j]? = some x) : l.take (j + 1) = l.take j ++ [x] := by
  rw [List.take_add_one, h]; rfl
/-- The values at these places. -/
def got (l : List Z.V) {len : Nat} (pre : List { i : Nat // i < len }) : List Z.V := pre.map fun x => l.getD x.1 Z.z0
theorem got_snoc (l : List Z.V) {len : Nat} (pre : List { i : Nat // i < len }) (x : { i : Nat // i < len }) : got l (pre ++ [x]) = got l pre ++ [l.getD x.1 Z.z0] := by simp [got]
theorem got_length (l : List Z.V) {len : Nat} (pre : List { i : Nat // i < len }) : (got l pre).length = pre.length := by simp [got]
/-- A box holds a row of values of one's own. -/
def HoldsV (W : World) (B n₀ : Nat) (m : List Z.V) : Prop := ∃ v, Boxed W B 22 v ∧ OwnV W n₀ v m
theorem holdsV_own {β : Type} (B n₀ : Nat) (f : β → List Z.V) : Own (fun s W => HoldsV W B n₀ (f s)) := by
  intro s W W' row h hg hr
  obtain ⟨v, h1, h2⟩ := h
  obtain ⟨v', g1, g2, _⟩ := holdsRow_own n₀ B 22 24 3 (fun s => (f s).length) (fun s => cellsV (f s)) (fun _ _ => True) s W W' row ⟨v, h1, h2, trivial⟩ hg hr
  exact ⟨v', g1, g2⟩
theorem plc_oth (l : List Z.V) : ∀ k, k ≤ l.length → got l (plc (nus l) l.length k) = oth (l.take k)
  | 0, _ => rfl
  | k + 1, h => by
    have ih := plc_oth l k (by omega)
    obtain ⟨x, hx⟩ : ∃ x, l[k]? = some x := ⟨l[k]'h, List.getElem?_eq_getElem _⟩
    have hn := nus_get hx
    rw [take_snocV hx]
    cases hb : (x.k == 0) with
    | true =>
      rw [plc_yes _ _ k h (by rw [hn, hb]), ih]
      simp [oth, hb]
    | false =>
      rw [plc_no _ _ k h (by rw [hn, hb]), got_snoc, ih]
      simp [oth, hb, List.getD, hx]
theorem cntT_oth (l : List Z.V) : (oth l).length + cntT (nus l) = l.length := by
  have h1 := plc_oth l l.length (Nat.le_refl _)
  have h2 := plc_all (nus l) (nus_length l)
  rw [List.take_length] at h1
  rw [← h1, got_length]
  exact h2
/-- What the places hold after j rounds. -/
def soFar (l : List Z.V) (len j : Nat) : List Value := Vb (nus (l.take j)) ++ List.replicate (len - j) (.bool false)
theorem soFar_zero (l : List Z.V) (len : Nat) : soFar l len 0 = List.replicate len (.bool false) := by simp [soFar, nus, Vb]
theorem soFar_all (l : List Z.V) {len : Nat} (h : l.length = len) : soFar l len len = Vb (nus l) := by subst h; simp [soFar]
theorem soFar_set (l : List Z.V) (len j : Nat) (hl : l.length = len) (h : j < len) {x : Z.V} (hx : l[j]? = some x) : (soFar l len j).set j (.bool (x.k == 0)) = soFar l len (j + 1) := by
  have h1 : (Vb (nus (l.take j))).length = j := by rw [Vb_length, nus_length, List.length_take]; omega
  unfold soFar
  rw [take_snocV hx, show len - j = (len - (j + 1)) + 1 by omega, List.replicate_succ, List.set_append_right _ _ (by omega), h1, Nat.sub_self, List.set_cons_zero]
  simp [nus, Vb]
theorem soFar_at (l : List Z.V) (len j : Nat) (hl : l.length = len) (h : j < len) : (soFar l len j)[j]? = some (.bool false) := by
  have h1 : (Vb (nus (l.take j))).length = j := by rw [Vb_length, nus_length, List.length_take]; omega
  unfold soFar
  rw [List.getElem?_append_right (by omega), h1, Nat.sub_self, show len - j = (len - (j + 1)) + 1 by omega, List.replicate_succ]
  rfl

theorem owns_below {w w' : World} {B : Nat} {e : TypeId} {size : Nat} {v : Value} {n : Nat} {xs : List Value} (h : w.ownsRow B e size v n xs) (hb : Below w.heap.size w w') : w'.ownsRow B e size v n xs := owns_of_block h fun g hg => hb.block g (owns_lt h hg).2
/-- An append to one's own row, and a store into a box, leave all that is no cells. -/
theorem others_app {W wa w2 : World} {B : Nat} {e : TypeId} {size : Nat} {v : Value} {n : Nat} {xs : List Value} (hwa : Below W.heap.size W wa) (ho : wa.ownsRow B e size v n xs) (hk : Kept (fun k => v.ownBlock = some k) wa w2) : KeepsOthers W w2 := by
  refine ⟨Nat.le_trans hwa.size hk.size, fun k o hk0 hc => ?_⟩
  have h1 : wa.heap[k]? = some o := (hwa.block k (lt_of_block hk0)).trans hk0
  rw [hk.block k (lt_of_block h1) (fun hv => ?_)]
  · exact h1
  · rcases ho.2 with ⟨h2, _⟩ | ⟨g, cap, cur, h2, _, hh, _⟩
    · rw [h2] at hv; simp [Value.ownBlock] at hv
    · rw [h2] at hv
      simp [Value.ownBlock] at hv
      subst hv
      rw [h1] at hh
      obtain rfl := Option.some.inj hh
      simp [Obj.isCells] at hc
theorem boxed_app {wa w2 : World} {B B' : Nat} {t e : TypeId} {size : Nat} {v u : Value} {n : Nat} {xs : List Value} (hb : Boxed wa B t u) (hte : t ≠ e) (ho : wa.ownsRow B' e size v n xs) (hk : Kept (fun k => v.ownBlock = some k) wa w2) : Boxed w2 B t u :=
  (hk.block B hb.lt (fun h => hb.not_row hte ho h.symm)).trans hb

/-- What Split's third region holds. -/
def spTbl (B0 B1 B j : Nat) (ao : Option Addr) (cap c n : Nat) : List (Nat × V.Ent) :=
  [(1, V.Ent.is (.pointer (some ⟨B0, 0, none⟩))), (4, V.Ent.is (.slice (some ⟨B1, 0, none⟩) j j)), (25, V.Ent.is (.slice ao j cap)), (26, V.Ent.is (.int .i64 (j : Int))), (27, V.Ent.is (.slice (some ⟨B1, 0, none⟩) j j)), (28, V.Ent.is (.int .i64 (c : Int))), (29, V.Ent.is (.int .i64 (n : Int))), (30, V.Ent.ownV B []), (7, V.Ent.box B 22 (.slice none 0 0))]

/-- What a round's region holds. -/
def rdTbl (B0 B : Nat) (g off j cap : Nat) (m : Nat) (x : Nat) (v : Value) (k i : Int) (z : ByteArray) : List (Nat × V.Ent) :=
  [(1, V.Ent.is (.pointer (some ⟨B0, 0, none⟩))), (7, V.Ent.is (.pointer (some ⟨B, 0, none⟩))), (8, V.Ent.is (.int .i64 (x : Int))), (34, V.Ent.is v), (35, V.Ent.is (.slice (some ⟨g, off, none⟩) j cap)), (36, V.Ent.is (.int .i64 (x : Int))), (37, V.Ent.is (.pointer (some ⟨g, off + x * 3, none⟩))), (38, V.Ent.is (.agg #[.int .i64 k, .int .i64 i, .string z])), (39, V.Ent.slV 1 [⟨k, i, z⟩])]

end Go.Proofs.Ytmhfpipeoojacaa
/- Is one of the values nothing? Joined: the values laid in their places. -/
namespace Go.Proofs.Ytmhfpipeoojacaa
set_option linter.unusedVariables false
open Go.RowKit

def anyN (l : List Z.V) : Bool := l.any fun x => x.k == 0
theorem anyN_get {l : List Z.V} {j : Nat} {x : Z.V} (h : l[j]? = some x) (hk : (x.k == 0) = true) : anyN l = true := by
  unfold anyN
  exact List.any_eq_true.2 ⟨x, List.mem_of_getElem? h, hk⟩
theorem anyN_take {l : List Z.V} {j : Nat} {x : Z.V} (h : l[j]? = some x) (hk : (x.k == 0) = false) (ht : anyN (l.take j) = false) : anyN (l.take (j + 1)) = false := by
  rw [take_snocV h]
  simp only [anyN, List.any_append, Bool.or_eq_false_iff, List.any_cons, List.any_nil, Bool.or_false]
  exact ⟨ht, hk⟩

/-- Split turned round. -/
def joinV : List Bool → List Z.V → List Z.V
  | [], _ => []
  | true :: bs, l => Z.z0 :: joinV bs l
  | false :: bs, l => l.getD 0 Z.z0 :: joinV bs (l.drop 1)
theorem joinV_length : ∀ (bs : List Bool) (l : List Z.V), (joinV bs l).length = bs.length
  | [], _ => rfl
  | true :: bs, l => by simp [joinV, joinV_length bs l]
  | false :: bs, l => by simp only [joinV, List.length_cons, joinV_length bs (l.drop 1)]
theorem joinV_yes : ∀ (bs : List Bool) (l : List Z.V), joinV (bs ++ [true]) l = joinV bs l ++ [Z.z0]
  | [], _ => rfl
  | true :: bs, l => by simp [joinV, joinV_yes bs l]
  | false :: bs, l => by simp only [joinV, List.cons_append, joinV_yes bs (l.drop 1)]
theorem joinV_no : ∀ (bs : List Bool) (l : List Z.V), joinV (bs ++ [false]) l = joinV bs l ++ [l.getD (bs.count false) Z.z0]
  | [], _ => rfl
  | true :: bs, l => by simp [joinV, joinV_no bs l]
  | false :: bs, l => by
    have := joinV_no bs (l.drop 1)
    simp only [List.cons_append, joinV, this, List.count_cons_self]
    congr 2
    simp [List.getD]
/-- The values laid in these places. -/
def laid (l : List Z.V) (len : Nat) (pre : List { i : Nat // i < len }) : List Z.V := pre.zipIdx.foldl (fun m p => m.set p.1.1 (l.getD p.2 Z.z0)) (List.replicate len Z.z0)
theorem laid_nil (l : List Z.V) (len : Nat) : laid l len [] = List.replicate len Z.z0 := rfl
theorem laid_snoc (l : List Z.V) (len : Nat) (pre : List { i : Nat // i < len }) (x : { i : Nat // i < len }) : laid l len (pre ++ [x]) = (laid l len pre).set x.1 (l.getD pre.length Z.z0) := by
  simp [laid, List.zipIdx_append]
theorem foldl_set_length {β : Type} (f : β → Nat) (g : β → Z.V) : ∀ (ps : List β) (m : List Z.V), (ps.foldl (fun m p => m.set (f p) (g p)) m).length = m.length
  | [], _ => rfl
  | p :: ps, m => by rw [List.foldl_cons, foldl_set_length f g ps, List.length_set]
theorem laid_length (l : List Z.V) (len : Nat) (pre : List { i : Nat // i < len }) : (laid l len pre).length = len := by
  unfold laid
  exact (foldl_set_length (β := { i : Nat // i < len } × Nat) (fun p => p.1.1) (fun p => l.getD p.2 Z.z0) _ _).trans (by simp)
theorem plc_false (bs : List Bool) : ∀ k, k ≤ bs.length → (plc bs bs.length k).length = (bs.take k).count false
  | 0, _ => rfl
  | k + 1, h => by
    have ih := plc_false bs k (by omega)
    rw [take_snocB bs k h]
    cases hb : bs.getD k false with
    | true => rw [plc_yes bs bs.length k h hb]; simp [ih]
    | false => rw [plc_no bs bs.length k h hb]; simp [ih]
theorem laid_plc (bs : List Bool) (l : List Z.V) : ∀ k, k ≤ bs.length → laid l bs.length (plc bs bs.length k) = joinV (bs.take k) l ++ List.replicate (bs.length - k) Z.z0
  | 0, _ => by simp [plc, laid_nil, joinV]
  | k + 1, h => by
    have ih := laid_plc bs l k (by omega)
    have hlen : (joinV (bs.take k) l).length = k := by rw [joinV_length, List.length_take]; omega
    have hr : List.replicate (bs.length - k) Z.z0 = Z.z0 :: List.replicate (bs.length - (k + 1)) Z.z0 := by
      rw [show bs.length - k = (bs.length - (k + 1)) + 1 by omega, List.replicate_succ]
    rw [take_snocB bs k h]
    cases hb : bs.getD k false with
    | true => rw [plc_yes bs bs.length k h hb, ih, joinV_yes, hr]; simp
    | false =>
      rw [plc_no bs bs.length k h hb, laid_snoc, ih, joinV_no, hr, plc_false bs k (by omega), List.set_append_right _ _ (by rw [hlen]; exact Nat.le_refl _), hlen, Nat.sub_self, List.set_cons_zero]
      simp
theorem laid_all (bs : List Bool) (l : List Z.V) {len : Nat} (h : bs.length = len) : laid l len (plc bs len len) = joinV bs l := by
  subst h
  rw [laid_plc bs l bs.length (Nat.le_refl _), List.take_length]
  simp
theorem count_tf (bs : List Bool) : bs.count false + cntT bs = bs.length := by
  induction bs with
  | nil => rfl
  | cons b bs ih => cases b <;> simp [cntT] at ih ⊢ <;> omega
/-- May these be joined? -/
def joinOk (bs : List Bool) (l : List Z.V) : Bool := (l.length + cntT bs == bs.length) && !anyN l
def joinL (bs : List Bool) (l : List Z.V) : List Z.V := if joinOk bs l then joinV bs l else []
def joinE (bs : List Bool) (l : List Z.V) : Int := if joinOk bs l then 0 else 4
theorem cellsV_set : ∀ (m : List Z.V) (j : Nat) (y : Z.V), j < m.length → cellsV (m.set j y) = (((cellsV m).set (j * 3) (.int .i64 y.k)).set (j * 3 + 1) (.int .i64 y.i)).set (j * 3 + 2) (.string y.s)
  | [], j, y, h => by simp at h
  | x :: m, 0, y, h => by simp [cellsV_cons]
  | x :: m, j + 1, y, h => by
    have ih := cellsV_set m j y (by simpa using h)
    rw [List.set_cons_succ, cellsV_cons, cellsV_cons, ih, show (j + 1) * 3 = j * 3 + 1 + 1 + 1 by omega, show j * 3 + 1 + 1 + 1 + 1 = (j * 3 + 1) + 1 + 1 + 1 by omega, show j * 3 + 1 + 1 + 1 + 2 = (j * 3 + 2) + 1 + 1 + 1 by omega]
    simp only [List.set_cons_succ]
theorem cellsV_replicate : ∀ n : Nat, cellsV (List.replicate n Z.z0) = (madeCells #[.int .i64 0, .int .i64 0, .string ⟨#[]⟩] (n * 3)).toList := by
  intro n
  apply List.ext_getElem?
  intro j
  by_cases hj : j < n * 3
  · have h1 : (List.replicate n Z.z0)[j / 3]? = some Z.z0 := by rw [List.getElem?_replicate, if_pos (by omega)]
    obtain ⟨g0, g1, g2⟩ := cellsV_get _ _ _ h1
    have hm : (madeCells #[.int .i64 0, .int .i64 0, .string ⟨#[]⟩] (n * 3)).toList[j]? = some (#[(.int .i64 0 : Value), .int .i64 0, .string ⟨#[]⟩][j % 3]!) := by
      simp [madeCells, hj]
    rw [hm]
    have hr : j = j / 3 * 3 ∨ j = j / 3 * 3 + 1 ∨ j = j / 3 * 3 + 2 := by omega
    rcases hr with hr | hr | hr
    · have h3 : j % 3 = 0 := by omega
      rw [h3]; rw [← hr] at g0; rw [g0]; rfl
    · have h3 : j % 3 = 1 := by omega
      rw [h3]; rw [← hr] at g1; rw [g1]; rfl
    · have h3 : j % 3 = 2 := by omega
      rw [h3]; rw [← hr] at g2; rw [g2]; rfl
  · rw [List.getElem?_eq_none (by rw [cellsV_length, List.length_replicate]; omega), List.getElem?_eq_none (by simp [madeCells]; omega)]
end Go.Proofs.Ytmhfpipeoojacaa
/- The document's answer for null: Same of bools, Same of values, Count. -/
namespace Go.Proofs.Ytmhfpipeoojacaa
set_option linter.unusedVariables false
open Go.RowKit

theorem vsame_none (ao bo : Option Addr) (ca cb : Nat) (w : World) :
    Calls Try.prog 17 #[.slice ao 0 ca, .slice bo 0 cb] w fun e w' => e = .returned (.bool true) ∧ Below w.heap.size w w' := by
  go_enter Try.func17, Try.ntmps17
  go_wp2_with fail
  go_rounds 1
  go_ret
  exact ⟨rfl, Below.refl _ _⟩
set_option maxHeartbeats 1000000 in
theorem vsame_some (b1 o1 b2 o2 len ca cb : Nat) (l : List Z.V) (w : World) (hl : l.length = len) (hm : len ≤ 140737488355328) (h1 : b1 < w.heap.size) (h2 : b2 < w.heap.size)
    (hc1 : ∀ j x, l[j]? = some x → w.cell? ⟨b1, o1 + j * 3, none⟩ = some (.int .i64 x.k) ∧ w.cell? ⟨b1, o1 + j * 3 + 1, none⟩ = some (.int .i64 x.i) ∧ w.cell? ⟨b1, o1 + j * 3 + 2, none⟩ = some (.string x.s))
    (hc2 : ∀ j x, l[j]? = some x → w.cell? ⟨b2, o2 + j * 3, none⟩ = some (.int .i64 x.k) ∧ w.cell? ⟨b2, o2 + j * 3 + 1, none⟩ = some (.int .i64 x.i) ∧ w.cell? ⟨b2, o2 + j * 3 + 2, none⟩ = some (.string x.s)) :
    Calls Try.prog 17 #[.slice (some ⟨b1, o1, none⟩) len ca, .slice (some ⟨b2, o2, none⟩) len cb] w fun e w' => e = .returned (.bool true) ∧ Below w.heap.size w w' := by
  have hb : ((len : Int) != (len : Int)) = false := by simp
  have HC1 := hide hc1
  have HC2 := hide hc2
  have HL := hide hl
  clear hc1 hc2 hl
  go_enter Try.func17, Try.ntmps17
  go_wp2_with fail
  go_loopw [5] (fun i wr => ∃ k : Nat, k ≤ len ∧ i = .int .i64 k ∧ Hid (Below w.heap.size w wr)) (fun i _ => len - (intOf i).toNat)
  case atStart => exact ⟨0, Nat.zero_le _, rfl, hide (Below.refl _ _)⟩
  case round =>
    obtain ⟨k, hk, rfl, hkr⟩ := hrel
    by_cases hlt : k < len
    · obtain ⟨⟨xk, xi, xs⟩, hx⟩ : ∃ x, l[k]? = some x := ⟨l[k]'(by rw [HL.out]; exact hlt), List.getElem?_eq_getElem _⟩
      obtain ⟨c1, c2, c3⟩ := HC1.out k _ hx
      obtain ⟨d1, d2, d3⟩ := HC2.out k _ hx
      have e1 : wr.cell? ⟨b1, o1 + k * 3, none⟩ = some (.int .i64 xk) := by rw [hkr.out.cell (p := ⟨b1, o1 + k * 3, none⟩) h1]; exact c1
      have e2 : wr.cell? ⟨b1, o1 + k * 3 + 1, none⟩ = some (.int .i64 xi) := by rw [hkr.out.cell (p := ⟨b1, o1 + k * 3 + 1, none⟩) h1]; exact c2
      have e3 : wr.cell? ⟨b1, o1 + k * 3 + 2, none⟩ = some (.string xs) := by rw [hkr.out.cell (p := ⟨b1, o1 + k * 3 + 2, none⟩) h1]; exact c3
      have g1 : wr.cell? ⟨b2, o2 + k * 3, none⟩ = some (.int .i64 xk) := by rw [hkr.out.cell (p := ⟨b2, o2 + k * 3, none⟩) h2]; exact d1
      have g2 : wr.cell? ⟨b2, o2 + k * 3 + 1, none⟩ = some (.int .i64 xi) := by rw [hkr.out.cell (p := ⟨b2, o2 + k * 3 + 1, none⟩) h2]; exact d2
      have g3 : wr.cell? ⟨b2, o2 + k * 3 + 2, none⟩ = some (.string xs) := by rw [hkr.out.cell (p := ⟨b2, o2 + k * 3 + 2, none⟩) h2]; exact d3
      have hq : ∀ w : World, (binOp .neq 24 (.agg #[.int .i64 xk, .int .i64 xi, .string xs]) (.agg #[.int .i64 xk, .int .i64 xi, .string xs])).run Try.prog w = .ok (.bool false) w := fun w => by rw [vne_run, Z.same_self]; rfl
      clear c1 c2 c3 d1 d2 d3 hx
      go_wp2
      go_region
      all_goals go_wp2
      all_goals
        go_roundw
        case rel => exact ⟨k + 1, by omega, by go_num, hide hkr.out.drew⟩
        case measure => simp [intOf]; omega
    · go_wp2
      go_ret
      exact ⟨rfl, hkr.out⟩
/-- The reference's Same, of two lists of values that are the same. -/
theorem vsame_yes (ao bo : Option Addr) (len ca cb : Nat) (l : List Z.V) (w : World) (h1 : SlV w ao len ca l) (h2 : SlV w bo len cb l) (hm : len ≤ 140737488355328) :
    Calls Try.prog 17 #[.slice ao len ca, .slice bo len cb] w fun e w' => e = .returned (.bool true) ∧ Below w.heap.size w w' := by
  by_cases h0 : len = 0
  · subst h0; exact vsame_none ao bo ca cb w
  · rcases h1.2.2.2.2 with h | ⟨b1, o1, rfl, hb1, hc1⟩
    · omega
    · rcases h2.2.2.2.2 with h | ⟨b2, o2, rfl, hb2, hc2⟩
      · omega
      · exact vsame_some b1 o1 b2 o2 len ca cb l w h1.1 hm hb1 hb2 hc1 hc2

theorem cntT_le (bs : List Bool) (k : Nat) : cntT (bs.take k) ≤ k := by
  unfold cntT
  exact Nat.le_trans List.count_le_length (by rw [List.length_take]; omega)
end Go.Proofs.Ytmhfpipeoojacaa

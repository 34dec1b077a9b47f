/- More steps of a region that draws its order: what makes memory, what is handed on by what is known of it. -/
import Derived.Test.YtmobcabkaodjoaaV2
namespace Go.Proofs.Ytmobcabkaodjoaa.V
set_option linter.unusedVariables false
open Go.RowKit
variable {P : Program} {ops : Array Oper} {Q : Exit → Act → World → Prop} {tbl : List (Nat × Ent)} {w0 : World} {o : Oper}

/-- An operation that may make memory. -/
theorem Step.run (hw : Wants tbl ops o) (h : ∀ (a : Act) (w : World), Below w0.heap.size w0 w → (∀ d, (o.looksAt ops).contains d = true → (get tbl d).p (a.eval (.tmp d)) w) → ∃ v w', (execOp a.eval o).run P w = .ok (.value v) w' ∧ Below w.heap.size w w' ∧ ∀ d, o.dst = some d → (get tbl d).p v w') : Step P ops Q tbl w0 o := by
  intro a w hb hk
  obtain ⟨v, w', hr, hb', hv⟩ := h a w hb hk
  refine .inl ⟨hw.wanted hk, ?_⟩
  unfold Oper.wp
  rw [hr]
  exact ⟨hb', v, rfl, hv⟩
/-- How many a slice has. -/
theorem Step.len {s k : Nat} (hw : Wants tbl ops o) (ho : o.op = .call { callee := .builtin .len, args := #[.tmp s], argTypes := #[22] }) (hs : ∀ v w, (get tbl s).p v w → ∃ a c, v = .slice a k c) (hd : ∀ d, o.dst = some d → get tbl d = Ent.is (.int .i64 (k : Int))) : Step Try.prog ops Q tbl w0 o := by
  refine Step.value hw fun a w hb hk => ⟨.int .i64 (k : Int), ?_, fun d h => by rw [hd d h]; rfl⟩
  obtain ⟨a1, c1, h2⟩ := hs _ _ (hk s (looks_op (by rw [ho]; simp [Op.operands, Call.operands])))
  obtain ⟨dst, op, type, pos, after, guard⟩ := o
  obtain rfl : op = _ := ho
  have h3 := slot_of h2
  simp [h3, go_sem, Builtin.len_]
/-- A call of one argument, by what is known of it. -/
theorem Step.callR {f : FuncId} {s : Nat} {ats : Array TypeId} {fn : Func} {c : Code} (hw : Wants tbl ops o) (ho : o.op = .call { callee := .value (.func f), args := #[.tmp s], argTypes := ats })
    (hf : P.funcs[f]? = some fn) (hname : (fn.name == "runtime.NumGoroutine") = false) (hb : fn.body = some c)
    (h : ∀ (w : World) (v : Value), Below w0.heap.size w0 w → (get tbl s).p v w → Calls P f #[v] w fun e w' => ∃ v', e = .returned v' ∧ Below w.heap.size w w' ∧ ∀ d, o.dst = some d → (get tbl d).p v' w') : Step P ops Q tbl w0 o := by
  refine Step.enter hw fun a w hb' hk => ⟨f, #[a.eval (.tmp s)], ?_, h w _ hb' (hk s (looks_op (by rw [ho]; simp [Op.operands, Call.operands])))⟩
  obtain ⟨dst, op, type, pos, after, guard⟩ := o
  obtain rfl : op = _ := ho
  have h3 : fn.name ≠ "runtime.NumGoroutine" := by simpa using hname
  simp [execOp_call_go, callFunc, hf, h3, hb]
/-- A call of two arguments, by what is known of them. -/
theorem Step.callR2 {f : FuncId} {s s2 : Nat} {ats : Array TypeId} {fn : Func} {c : Code} (hw : Wants tbl ops o) (ho : o.op = .call { callee := .value (.func f), args := #[.tmp s, .tmp s2], argTypes := ats })
    (hf : P.funcs[f]? = some fn) (hname : (fn.name == "runtime.NumGoroutine") = false) (hb : fn.body = some c)
    (h : ∀ (w : World) (v v2 : Value), Below w0.heap.size w0 w → (get tbl s).p v w → (get tbl s2).p v2 w → Calls P f #[v, v2] w fun e w' => ∃ v', e = .returned v' ∧ Below w.heap.size w w' ∧ ∀ d, o.dst = some d → (get tbl d).p v' w') : Step P ops Q tbl w0 o := by
  refine Step.enter hw fun a w hb' hk => ⟨f, #[a.eval (.tmp s), a.eval (.tmp s2)], ?_, h w _ _ hb' (hk s (looks_op (by rw [ho]; simp [Op.operands, Call.operands]))) (hk s2 (looks_op (by rw [ho]; simp [Op.operands, Call.operands])))⟩
  obtain ⟨dst, op, type, pos, after, guard⟩ := o
  obtain rfl : op = _ := ho
  have h3 : fn.name ≠ "runtime.NumGoroutine" := by simpa using hname
  simp [execOp_call_go, callFunc, hf, h3, hb]
/-- A call of no argument. -/
theorem Step.call0 {f : FuncId} {ats : Array TypeId} {fn : Func} {c : Code} (hw : Wants tbl ops o) (ho : o.op = .call { callee := .value (.func f), args := #[], argTypes := ats })
    (hf : P.funcs[f]? = some fn) (hname : (fn.name == "runtime.NumGoroutine") = false) (hb : fn.body = some c)
    (h : ∀ (w : World), Below w0.heap.size w0 w → Calls P f #[] w fun e w' => ∃ v', e = .returned v' ∧ Below w.heap.size w w' ∧ ∀ d, o.dst = some d → (get tbl d).p v' w') : Step P ops Q tbl w0 o := by
  refine Step.enter hw fun a w hb' hk => ⟨f, #[], ?_, h w hb'⟩
  obtain ⟨dst, op, type, pos, after, guard⟩ := o
  obtain rfl : op = _ := ho
  have h3 : fn.name ≠ "runtime.NumGoroutine" := by simpa using hname
  simp [execOp_call_go, callFunc, hf, h3, hb]
/-- A slice of the whole of an array of four bytes. -/
theorem Step.arr4 {s B : Nat} (hw : Wants tbl ops o) (ho : o.op = .slice 50 (.tmp s) none none none) (hs : get tbl s = Ent.is (.pointer (some ⟨B, 0, none⟩))) (hd : ∀ d, o.dst = some d → get tbl d = Ent.is (.slice (some ⟨B, 0, none⟩) 4 4)) : Step Try.prog ops Q tbl w0 o := by
  refine Step.value hw fun a w hb hk => ⟨.slice (some ⟨B, 0, none⟩) 4 4, ?_, fun d h => by rw [hd d h]; rfl⟩
  have h1 : a.eval (.tmp s) = .pointer (some ⟨B, 0, none⟩) := by
    have := hk s (looks_op (by rw [ho]; simp [Op.operands]))
    rwa [hs] at this
  simp only [execOp, ho, h1, Option.map_none]
  simp [go_sem]
/-- Three slices of bytes, laid into new memory. -/
theorem run_build3 (w : World) (a1 a2 a3 : Option Addr) (l1 l2 l3 c1 c2 c3 : Nat) : (Instr.buildSlice 42 3 #[(0, .slice a1 l1 c1), (1, .slice a2 l2 c2), (2, .slice a3 l3 c3)]).run Try.prog w = .ok (.slice (some ⟨w.heap.size, 0, none⟩) 3 3) (w.alloc (.cells #[.slice a1 l1 c1, .slice a2 l2 c2, .slice a3 l3 c3] 22)) := by
  simp [go_sem]
theorem run_build1 (w : World) (a1 : Option Addr) (l1 c1 : Nat) : (Instr.buildSlice 42 1 #[(0, .slice a1 l1 c1)]).run Try.prog w = .ok (.slice (some ⟨w.heap.size, 0, none⟩) 1 1) (w.alloc (.cells #[.slice a1 l1 c1] 22)) := by
  simp [go_sem]
end Go.Proofs.Ytmobcabkaodjoaa.V

/- More steps of a region that draws its order: what makes memory, what is handed on by what is known of it. -/
import Derived.Test.YtlbchdlokimpfaaV2
namespace Go.Proofs.Ytlbchdlokimpfaa.V
set_option linter.unusedVariables false
open Go.RowKit
variable {P : Program} {ops : Array Oper} {Q : Exit → Act → World → Prop} {tbl : List (Nat × Ent)} {w0 : World} {o : Oper}

/-- An operation that may make memory. -/
theorem Step.run (hw : Wants tbl ops o) (h : ∀ (a : Act) (w : World), Below w0.heap.size w0 w → (∀ d, (o.looksAt ops).contains d = true → (get tbl d).p (a.eval (.tmp d)) w) → ∃ v w', (execOp a.eval o).run P w = .ok (.value v) w' ∧ Below w.heap.size w w' ∧ ∀ d, o.dst = some d → (get tbl d).p v w') : Step P ops Q tbl w0 o := by
  intro a w hb hk
  obtain ⟨v, w', hr, hb', hv⟩ := h a w hb hk
  refine .inl ⟨hw.wanted hk, ?_⟩
  unfold Oper.wp
  rw [hr]
  exact ⟨hb', v, rfl, hv⟩
/-- How many a slice has. -/
theorem Step.len {s k : Nat} (hw : Wants tbl ops o) (ho : o.op = .call { callee := .builtin .len, args := #[.tmp s], argTypes := #[49] }) (hs : ∀ v w, (get tbl s).p v w → ∃ a c, v = .slice a k c) (hd : ∀ d, o.dst = some d → get tbl d = Ent.is (.int .i64 (k : Int))) : Step Try.prog ops Q tbl w0 o := by
  refine Step.value hw fun a w hb hk => ⟨.int .i64 (k : Int), ?_, fun d h => by rw [hd d h]; rfl⟩
  obtain ⟨a1, c1, h2⟩ := hs _ _ (hk s (looks_op (by rw [ho]; simp [Op.operands, Call.operands])))
  obtain ⟨dst, op, type, pos, after, guard⟩ := o
  obtain rfl : op = _ := ho
  have h3 := slot_of h2
  simp [h3, go_sem, Builtin.len_]
/-- A call of one argument, by what is known of it. -/
theorem Step.callR {f : FuncId} {s : Nat} {ats : Array TypeId} {fn : Func} {c : Code} (hw : Wants tbl ops o) (ho : o.op = .call { callee := .value (.func f), args := #[.tmp s], argTypes := ats })
    (hf : P.funcs[f]? = some fn) (hname : (fn.name == "runtime.NumGoroutine") = false) (hb : fn.body = some c)
    (h : ∀ (w : World) (v : Value), Below w0.heap.size w0 w → (get tbl s).p v w → Calls P f #[v] w fun e w' => ∃ v', e = .returned v' ∧ Below w.heap.size w w' ∧ ∀ d, o.dst = some d → (get tbl d).p v' w') : Step P ops Q tbl w0 o := by
  refine Step.enter hw fun a w hb' hk => ⟨f, #[a.eval (.tmp s)], ?_, h w _ hb' (hk s (looks_op (by rw [ho]; simp [Op.operands, Call.operands])))⟩
  obtain ⟨dst, op, type, pos, after, guard⟩ := o
  obtain rfl : op = _ := ho
  have h3 : fn.name ≠ "runtime.NumGoroutine" := by simpa using hname
  simp [execOp_call_go, callFunc, hf, h3, hb]
/-- A call of two arguments, by what is known of them. -/
theorem Step.callR2 {f : FuncId} {s s2 : Nat} {ats : Array TypeId} {fn : Func} {c : Code} (hw : Wants tbl ops o) (ho : o.op = .call { callee := .value (.func f), args := #[.tmp s, .tmp s2], argTypes := ats })
    (hf : P.funcs[f]? = some fn) (hname : (fn.name == "runtime.NumGoroutine") = false) (hb : fn.body = some c)
    (h : ∀ (w : World) (v v2 : Value), Below w0.heap.size w0 w → (get tbl s).p v w → (get tbl s2).p v2 w → Calls P f #[v, v2] w fun e w' => ∃ v', e = .returned v' ∧ Below w.heap.size w w' ∧ ∀ d, o.dst = some d → (get tbl d).p v' w') : Step P ops Q tbl w0 o := by
  refine Step.enter hw fun a w hb' hk => ⟨f, #[a.eval (.tmp s), a.eval (.tmp s2)], ?_, h w _ _ hb' (hk s (looks_op (by rw [ho]; simp [Op.operands, Call.operands]))) (hk s2 (looks_op (by rw [ho]; simp [Op.operands, Call.operands])))⟩
  obtain ⟨dst, op, type, pos, after, guard⟩ := o
  obtain rfl : op = _ := ho
  have h3 : fn.name ≠ "runtime.NumGoroutine" := by simpa using hname
  simp [execOp_call_go, callFunc, hf, h3, hb]
/-- A call of no argument. -/
theorem Step.call0 {f : FuncId} {ats : Array TypeId} {fn : Func} {c : Code} (hw : Wants tbl ops o) (ho : o.op = .call { callee := .value (.func f), args := #[], argTypes := ats })
    (hf : P.funcs[f]? = some fn) (hname : (fn.name == "runtime.NumGoroutine") = false) (hb : fn.body = some c)
    (h : ∀ (w : World), Below w0.heap.size w0 w → Calls P f #[] w fun e w' => ∃ v', e = .returned v' ∧ Below w.heap.size w w' ∧ ∀ d, o.dst = some d → (get tbl d).p v' w') : Step P ops Q tbl w0 o := by
  refine Step.enter hw fun a w hb' hk => ⟨f, #[], ?_, h w hb'⟩
  obtain ⟨dst, op, type, pos, after, guard⟩ := o
  obtain rfl : op = _ := ho
  have h3 : fn.name ≠ "runtime.NumGoroutine" := by simpa using hname
  simp [execOp_call_go, callFunc, hf, h3, hb]
theorem wp_of_list {P : Program} {ops : Array Oper} {o : Oper} {a : Act} {w : World} {K : Act → World → Prop} {Q : Exit → Act → World → Prop} (hg : o.guard = none) (h : wpList P ops (fun e a w => e = .normal ∧ K a w) [o] a w) : o.wp P a w K Q := by
  unfold wpList at h
  have hw : Region.wanted o (yielded ops a.tmps) = true := by simp [Region.wanted, hg]
  rw [hw] at h
  simp only [if_true] at h
  rcases h with h | ⟨_, a', w', he, _⟩
  · unfold Oper.wp at *
    generalize (execOp a.eval o).run P w = r at *
    cases r with
    | ok n w' =>
      cases n <;> simp only [Oper.upon, wpList] at h ⊢ <;> first
        | exact h.2
        | exact Rows.mono h fun _ _ he => he.2
        | exact Calls.mono h fun e w'' he => by
            cases e with
            | returned v => exact he.2
            | panicked c => exact absurd he.1 (by simp)
            | outgrown => obtain ⟨_, _, he, _⟩ := he; exact absurd he (by simp)
    | halt x w' =>
      cases x <;> simp only [Oper.upon] at h ⊢
      exact absurd h.1 (by simp)
  · exact absurd he (by simp)
/-- An operation under a guard that is met, by a law for the one without. -/
theorem wpList_any_guard {P : Program} {ops : Array Oper} {rest : List Oper} {o : Oper} {a : Act} {w : World} {Q : Exit → Act → World → Prop} (hw : Region.wanted o (yielded ops a.tmps) = true) (h : wpList P ops (fun e a w => e = .normal ∧ wpList P ops Q rest a w) [{ o with guard := none }] a w) : wpList P ops Q (o :: rest) a w := by
  have h1 : ({ o with guard := none } : Oper).wp P a w (wpList P ops Q rest) Q := wp_of_list (ops := ops) rfl h
  have h2 : o.wp P a w (wpList P ops Q rest) Q := h1
  unfold wpList
  rw [hw]
  exact .inl h2
end Go.Proofs.Ytlbchdlokimpfaa.V

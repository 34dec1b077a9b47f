/- Steps: a call of three, and what is taken out of what two things are answered. -/
import Derived.Test.YtlbchdlokimpfaaBJ
namespace Go.Proofs.Ytlbchdlokimpfaa.V
set_option linter.unusedVariables false
open Go.RowKit
variable {P : Program} {ops : Array Oper} {Q : Exit → Act → World → Prop} {tbl : List (Nat × Ent)} {w0 : World} {o : Oper}
theorem Step.callR3 {f : FuncId} {s s2 s3 : Nat} {ats : Array TypeId} {fn : Func} {c : Code} (hw : Wants tbl ops o) (ho : o.op = .call { callee := .value (.func f), args := #[.tmp s, .tmp s2, .tmp s3], argTypes := ats })
    (hf : P.funcs[f]? = some fn) (hname : (fn.name == "runtime.NumGoroutine") = false) (hb : fn.body = some c)
    (h : ∀ (w : World) (v v2 v3 : Value), Below w0.heap.size w0 w → (get tbl s).p v w → (get tbl s2).p v2 w → (get tbl s3).p v3 w → Calls P f #[v, v2, v3] w fun e w' => ∃ v', e = .returned v' ∧ Below w.heap.size w w' ∧ ∀ d, o.dst = some d → (get tbl d).p v' w') : Step P ops Q tbl w0 o := by
  refine Step.enter hw fun a w hb' hk => ⟨f, #[a.eval (.tmp s), a.eval (.tmp s2), a.eval (.tmp s3)], ?_, h w _ _ _ hb' (hk s (looks_op (by rw [ho]; simp [Op.operands, Call.operands]))) (hk s2 (looks_op (by rw [ho]; simp [Op.operands, Call.operands]))) (hk s3 (looks_op (by rw [ho]; simp [Op.operands, Call.operands])))⟩
  obtain ⟨dst, op, type, pos, after, guard⟩ := o
  obtain rfl : op = _ := ho
  have h3 : fn.name ≠ "runtime.NumGoroutine" := by simpa using hname
  simp [execOp_call_go, callFunc, hf, h3, hb]
/-- A set that was laid down, and that nothing is wrong. -/
def Ent.laid (B ra : Nat) (bs : List Bool) : Ent := ⟨fun v w => ∃ s, v = .tuple #[s, .int .i64 0] ∧ SetAt w s ra bs ∧ NewSet w B s bs.length, fun hb ⟨s, h1, h2, h3⟩ => ⟨s, h1, h2.below hb, h3.below hb⟩⟩
def Ent.set (B ra : Nat) (bs : List Bool) : Ent := ⟨fun v w => SetAt w v ra bs ∧ NewSet w B v bs.length, fun hb ⟨h2, h3⟩ => ⟨h2.below hb, h3.below hb⟩⟩
theorem Step.ext0S {s B ra : Nat} {bs : List Bool} (hw : Wants tbl ops o) (ho : o.op = .extract (.tmp s) 0) (hs : get tbl s = Ent.laid B ra bs) (hd : ∀ d, o.dst = some d → get tbl d = Ent.set B ra bs) : Step P ops Q tbl w0 o := by
  refine Step.value hw fun a w hb hk => ?_
  have h1 := hk s (looks_op (by rw [ho]; simp [Op.operands]))
  rw [hs] at h1
  obtain ⟨v, h2, h3⟩ := h1
  have h4 := slot_of h2
  refine ⟨v, ?_, fun d h => by rw [hd d h]; exact h3⟩
  simp only [execOp, ho]
  simp [go_sem, h4]
theorem Step.ext1S {s B ra : Nat} {bs : List Bool} (hw : Wants tbl ops o) (ho : o.op = .extract (.tmp s) 1) (hs : get tbl s = Ent.laid B ra bs) (hd : ∀ d, o.dst = some d → get tbl d = Ent.is (.int .i64 0)) : Step P ops Q tbl w0 o := by
  refine Step.value hw fun a w hb hk => ?_
  have h1 := hk s (looks_op (by rw [ho]; simp [Op.operands]))
  rw [hs] at h1
  obtain ⟨v, h2, h3⟩ := h1
  have h4 := slot_of h2
  refine ⟨.int .i64 0, ?_, fun d h => by rw [hd d h]; rfl⟩
  simp only [execOp, ho]
  simp [go_sem, h4]
end Go.Proofs.Ytlbchdlokimpfaa.V

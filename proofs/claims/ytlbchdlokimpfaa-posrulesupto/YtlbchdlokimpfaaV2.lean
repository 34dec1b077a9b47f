/- Steps of a region that draws its order, by the kind of operation. -/
import Derived.Test.YtlbchdlokimpfaaV
namespace Go.Proofs.Ytlbchdlokimpfaa.V
set_option linter.unusedVariables false
open Go.RowKit

def ent (tbl : List (Nat × Ent)) : Operand → Ent
  | .tmp s => get tbl s
  | .const v => Ent.is v
  | _ => Ent.no

/-- The operation is carried out. -/
def Wants (tbl : List (Nat × Ent)) (ops : Array Oper) (o : Oper) : Prop := o.guard = none ∨ ∃ g b t, o.guard = some (g, b) ∧ (ops[g]?).bind (·.dst) = some t ∧ get tbl t = Ent.is (.bool b)
/-- It is passed over. -/
def Skips (tbl : List (Nat × Ent)) (ops : Array Oper) (o : Oper) : Prop := (∃ g t, o.guard = some (g, true) ∧ (ops[g]?).bind (·.dst) = some t ∧ (get tbl t = Ent.is (.bool false) ∨ get tbl t = Ent.is undef)) ∨ ∃ g t, o.guard = some (g, false) ∧ (ops[g]?).bind (·.dst) = some t ∧ (get tbl t = Ent.is (.bool true) ∨ get tbl t = Ent.is undef)

theorem looks_guard {ops : Array Oper} {o : Oper} {g t : Nat} {b : Bool} (h : o.guard = some (g, b)) (ht : (ops[g]?).bind (·.dst) = some t) : (o.looksAt ops).contains t = true := by
  simp [Oper.looksAt, h, ht]
theorem looks_op {ops : Array Oper} {o : Oper} {t : Nat} (h : Operand.tmp t ∈ o.op.operands) : (o.looksAt ops).contains t = true := by
  simp only [Oper.looksAt, List.contains_eq_mem, List.mem_append, decide_eq_true_eq]
  exact .inl (List.mem_filterMap.2 ⟨.tmp t, by simpa using h, rfl⟩)
theorem tmps_of_eval {a : Act} {t : Nat} {b : Bool} (h : a.eval (.tmp t) = .bool b) : a.tmps[t]? = some (.bool b) := by
  by_cases ht : t < a.tmps.size
  · simp [Act.eval, Array.getD, ht] at h
    simp [ht, h]
  · simp [Act.eval, Array.getD, ht, undef] at h

theorem Wants.wanted {tbl : List (Nat × Ent)} {ops : Array Oper} {o : Oper} (h : Wants tbl ops o) {a : Act} {w : World} (hk : ∀ d, (o.looksAt ops).contains d = true → (get tbl d).p (a.eval (.tmp d)) w) : Region.wanted o (yielded ops a.tmps) = true := by
  rcases h with h | ⟨g, b, t, hg, ht, he⟩
  · simp [Region.wanted, h]
  · have h1 := hk t (looks_guard hg ht)
    rw [he] at h1
    have h2 := tmps_of_eval h1
    simp [Region.wanted, hg, yielded, ht, h2]
theorem Skips.wanted {tbl : List (Nat × Ent)} {ops : Array Oper} {o : Oper} (h : Skips tbl ops o) {a : Act} {w : World} (hk : ∀ d, (o.looksAt ops).contains d = true → (get tbl d).p (a.eval (.tmp d)) w) : Region.wanted o (yielded ops a.tmps) = false := by
  rcases h with ⟨g, t, hg, ht, he⟩ | ⟨g, t, hg, ht, he⟩
  all_goals
    have h1 := hk t (looks_guard hg ht)
    rcases he with he | he
    · rw [he] at h1
      have h2 := tmps_of_eval h1
      simp [Region.wanted, hg, yielded, ht, h2]
    · rw [he] at h1
      have h1' : a.eval (.tmp t) = undef := h1
      simp only [Region.wanted, hg, yielded, ht, Option.bind_some]
      by_cases hs : t < a.tmps.size
      · simp [Act.eval, Array.getD, hs] at h1'
        simp [hs, h1', undef]
      · simp [hs]

variable {P : Program} {ops : Array Oper} {Q : Exit → Act → World → Prop} {tbl : List (Nat × Ent)} {w0 : World} {o : Oper}

theorem Step.skip (hs : Skips tbl ops o) (hd : ∀ d, o.dst = some d → get tbl d = Ent.is undef) : Step P ops Q tbl w0 o := by
  intro a w _ hk
  exact .inr ⟨hs.wanted hk, fun d h => by rw [hd d h]; rfl⟩
theorem Step.value (hw : Wants tbl ops o) (h : ∀ (a : Act) (w : World), Below w0.heap.size w0 w → (∀ d, (o.looksAt ops).contains d = true → (get tbl d).p (a.eval (.tmp d)) w) → ∃ v, (execOp a.eval o).run P w = .ok (.value v) w ∧ ∀ d, o.dst = some d → (get tbl d).p v w) : Step P ops Q tbl w0 o := by
  intro a w hb hk
  obtain ⟨v, hr, hv⟩ := h a w hb hk
  refine .inl ⟨hw.wanted hk, ?_⟩
  unfold Oper.wp
  rw [hr]
  exact ⟨Below.refl _ _, v, rfl, hv⟩
theorem Step.enter (hw : Wants tbl ops o) (h : ∀ (a : Act) (w : World), Below w0.heap.size w0 w → (∀ d, (o.looksAt ops).contains d = true → (get tbl d).p (a.eval (.tmp d)) w) → ∃ f args, (execOp a.eval o).run P w = .ok (.enter f args) w ∧ Calls P f args w fun e w' => ∃ v, e = .returned v ∧ Below w.heap.size w w' ∧ ∀ d, o.dst = some d → (get tbl d).p v w') : Step P ops Q tbl w0 o := by
  intro a w hb hk
  obtain ⟨f, args, hr, hc⟩ := h a w hb hk
  refine .inl ⟨hw.wanted hk, ?_⟩
  unfold Oper.wp
  rw [hr]
  refine Calls.mono hc ?_
  rintro e w' ⟨v, rfl, hb', hv⟩
  exact ⟨hb', v, rfl, hv⟩

theorem ent_eval {x : Operand} {a : Act} {w : World} {e : Ent} (he : ent tbl x = e) (hx : x ∈ o.op.operands ∨ ∃ v, x = .const v) (hk : ∀ d, (o.looksAt ops).contains d = true → (get tbl d).p (a.eval (.tmp d)) w) : (∃ t, x = .tmp t) ∨ (∃ v, x = .const v) → e.p (a.eval x) w := by
  subst he
  rintro (⟨t, rfl⟩ | ⟨v, rfl⟩)
  · rcases hx with hx | ⟨v, hv⟩
    · exact hk t (looks_op hx)
    · cases hv
  · rfl

theorem Step.move {x : Operand} (hw : Wants tbl ops o) (ho : o.op = .move x ∨ o.op = .assign x) (hx : (∃ t, x = .tmp t) ∨ ∃ v, x = .const v) (hd : ∀ d, o.dst = some d → get tbl d = ent tbl x) : Step P ops Q tbl w0 o := by
  refine Step.value hw fun a w hb hk => ⟨a.eval x, ?_, fun d h => ?_⟩
  · rcases ho with ho | ho <;> simp [execOp, ho]
  · rw [hd d h]
    refine ent_eval rfl (.inl ?_) hk hx
    rcases ho with ho | ho <;> simp [ho, Op.operands]
theorem Step.pick {c x y : Operand} {b : Bool} (hw : Wants tbl ops o) (ho : o.op = .pick c x y) (hc : ∃ t, c = .tmp t ∧ get tbl t = Ent.is (.bool b)) (hx : (∃ t, (if b then x else y) = .tmp t) ∨ ∃ v, (if b then x else y) = .const v) (hd : ∀ d, o.dst = some d → get tbl d = ent tbl (if b then x else y)) : Step P ops Q tbl w0 o := by
  obtain ⟨t, rfl, ht⟩ := hc
  refine Step.value hw fun a w hb hk => ⟨a.eval (if b then x else y), ?_, fun d h => ?_⟩
  · have h1 := hk t (looks_op (by rw [ho]; simp [Op.operands]))
    rw [ht] at h1
    have h2 : a.eval (.tmp t) = .bool b := h1
    cases b <;> simp [execOp, ho, h2, asBool]
  · rw [hd d h]
    refine ent_eval rfl (.inl ?_) hk hx
    cases b <;> simp [ho, Op.operands]
/-- The text of bytes. -/
theorem Step.str {s k : Nat} {l : List Nat} (hw : Wants tbl ops o) (ho : o.op = .convert 49 9 (.tmp s)) (hs : get tbl s = Ent.sl k l) (hd : ∀ d, o.dst = some d → get tbl d = Ent.is (.string (strOfNums (ints l)))) : Step Try.prog ops Q tbl w0 o := by
  refine Step.value hw fun a w hb hk => ⟨.string (strOfNums (ints l)), ?_, fun d h => by rw [hd d h]; rfl⟩
  have h1 := hk s (looks_op (by rw [ho]; simp [Op.operands]))
  rw [hs] at h1
  obtain ⟨a1, c1, h2, h3⟩ := h1
  simp [execOp, ho, h2, str_of h3]
/-- Two whole numbers, or two texts, that are the same. -/
theorem Step.same {t t2 : TypeId} {x y : Operand} {v : Value} (hw : Wants tbl ops o) (ho : o.op = .binOp .eql t x y t2) (hx : (∃ t, x = .tmp t) ∨ ∃ v, x = .const v) (hy : (∃ t, y = .tmp t) ∨ ∃ v, y = .const v) (hex : ent tbl x = Ent.is v) (hey : ent tbl y = Ent.is v) (hg : ∀ w : World, (eqGuard .eql t x y v v).run P w = .ok () w) (hr : ∀ w : World, (binOp .eql t v v).run P w = .ok (.bool true) w) (hd : ∀ d, o.dst = some d → get tbl d = Ent.is (.bool true)) : Step P ops Q tbl w0 o := by
  refine Step.value hw fun a w hb hk => ⟨.bool true, ?_, fun d h => by rw [hd d h]; rfl⟩
  have h1 : a.eval x = v := ent_eval hex (.inl (by rw [ho]; simp [Op.operands])) hk hx
  have h2 : a.eval y = v := ent_eval hey (.inl (by rw [ho]; simp [Op.operands])) hk hy
  simp [execOp, ho, h1, h2, hr w, hg w]
/-- An operation on two values. -/
theorem Step.bin {op : BinOp} {t t2 : TypeId} {x y : Operand} {v1 v2 v : Value} (hw : Wants tbl ops o) (ho : o.op = .binOp op t x y t2) (hx : (∃ t, x = .tmp t) ∨ ∃ v, x = .const v) (hy : (∃ t, y = .tmp t) ∨ ∃ v, y = .const v) (hex : ent tbl x = Ent.is v1) (hey : ent tbl y = Ent.is v2) (hr : ∀ w : World, (eqGuard op t x y v1 v2).run P w = .ok () w ∧ (binOp op t v1 v2).run P w = .ok v w) (hd : ∀ d, o.dst = some d → get tbl d = Ent.is v) : Step P ops Q tbl w0 o := by
  refine Step.value hw fun a w hb hk => ⟨v, ?_, fun d h => by rw [hd d h]; rfl⟩
  have h1 : a.eval x = v1 := ent_eval hex (.inl (by rw [ho]; simp [Op.operands])) hk hx
  have h2 : a.eval y = v2 := ent_eval hey (.inl (by rw [ho]; simp [Op.operands])) hk hy
  simp [execOp, ho, h1, h2, (hr w).1, (hr w).2]
/-- The text of bytes that lay there. -/
theorem Step.strOld {s k c : Nat} {a0 : Option Addr} {l : List Nat} (hw : Wants tbl ops o) (ho : o.op = .convert 49 9 (.tmp s)) (hs : get tbl s = Ent.is (.slice a0 k c)) (hsl : Sl w0 .u8 a0 k c (ints l)) (hd : ∀ d, o.dst = some d → get tbl d = Ent.is (.string (strOfNums (ints l)))) : Step Try.prog ops Q tbl w0 o := by
  refine Step.value hw fun a w hb hk => ⟨.string (strOfNums (ints l)), ?_, fun d h => by rw [hd d h]; rfl⟩
  have h1 := hk s (looks_op (by rw [ho]; simp [Op.operands]))
  rw [hs] at h1
  have h2 : a.eval (.tmp s) = .slice a0 k c := h1
  simp [execOp, ho, h2, str_of (hsl.below hb)]
/-- A call whose one argument is known. -/
theorem Step.call1 {f : FuncId} {s : Nat} {ats : Array TypeId} {v : Value} {fn : Func} {c : Code} (hw : Wants tbl ops o) (ho : o.op = .call { callee := .value (.func f), args := #[.tmp s], argTypes := ats }) (hs : get tbl s = Ent.is v)
    (hf : P.funcs[f]? = some fn) (hname : (fn.name == "runtime.NumGoroutine") = false) (hb : fn.body = some c)
    (h : ∀ w : World, Below w0.heap.size w0 w → Calls P f #[v] w fun e w' => ∃ v', e = .returned v' ∧ Below w.heap.size w w' ∧ ∀ d, o.dst = some d → (get tbl d).p v' w') : Step P ops Q tbl w0 o := by
  refine Step.enter hw fun a w hb' hk => ⟨f, #[v], ?_, h w hb'⟩
  have h1 := hk s (looks_op (by rw [ho]; simp [Op.operands, Call.operands]))
  rw [hs] at h1
  have h2 : a.eval (.tmp s) = v := h1
  obtain ⟨dst, op, type, pos, after, guard⟩ := o
  obtain rfl : op = _ := ho
  have h3 : fn.name ≠ "runtime.NumGoroutine" := by simpa using hname
  simp [execOp_call_go, callFunc, hf, h3, hb, h2]
/-- A call whose two arguments are known. -/
theorem Step.call2 {f : FuncId} {s s2 : Nat} {ats : Array TypeId} {v v2 : Value} {fn : Func} {c : Code} (hw : Wants tbl ops o) (ho : o.op = .call { callee := .value (.func f), args := #[.tmp s, .tmp s2], argTypes := ats }) (hs : get tbl s = Ent.is v) (hs2 : get tbl s2 = Ent.is v2)
    (hf : P.funcs[f]? = some fn) (hname : (fn.name == "runtime.NumGoroutine") = false) (hb : fn.body = some c)
    (h : ∀ w : World, Below w0.heap.size w0 w → Calls P f #[v, v2] w fun e w' => ∃ v', e = .returned v' ∧ Below w.heap.size w w' ∧ ∀ d, o.dst = some d → (get tbl d).p v' w') : Step P ops Q tbl w0 o := by
  refine Step.enter hw fun a w hb' hk => ⟨f, #[v, v2], ?_, h w hb'⟩
  have h1 := hk s (looks_op (by rw [ho]; simp [Op.operands, Call.operands]))
  rw [hs] at h1
  have h2 : a.eval (.tmp s) = v := h1
  have h4 := hk s2 (looks_op (by rw [ho]; simp [Op.operands, Call.operands]))
  rw [hs2] at h4
  have h5 : a.eval (.tmp s2) = v2 := h4
  obtain ⟨dst, op, type, pos, after, guard⟩ := o
  obtain rfl : op = _ := ho
  have h3 : fn.name ≠ "runtime.NumGoroutine" := by simpa using hname
  simp [execOp_call_go, callFunc, hf, h3, hb, h2, h5]
/-- The head of a slice of bytes. -/
theorem Step.head {s i k len cap : Nat} {a0 : Option Addr} (hw : Wants tbl ops o) (ho : o.op = .slice 49 (.tmp s) none (some (.tmp i)) none) (hs : get tbl s = Ent.is (.slice a0 len cap)) (hi : get tbl i = Ent.is (.int .i64 (k : Int))) (hk : k ≤ cap) (hd : ∀ d, o.dst = some d → get tbl d = Ent.is (.slice a0 k cap)) : Step Try.prog ops Q tbl w0 o := by
  refine Step.value hw fun a w hb hk => ⟨.slice a0 k cap, ?_, fun d h => by rw [hd d h]; rfl⟩
  have h1 : a.eval (.tmp s) = .slice a0 len cap := by
    have := hk s (looks_op (by rw [ho]; simp [Op.operands]))
    rwa [hs] at this
  have h2 : a.eval (.tmp i) = .int .i64 (k : Int) := by
    have := hk i (looks_op (by rw [ho]; simp [Op.operands]))
    rwa [hi] at this
  have h3 : (k : Int) ≤ (cap : Int) := by omega
  simp only [execOp, ho, h1, h2, Option.map_some, Option.map_none]
  simp [go_sem, h3]
/-- A conversion of a known value. -/
theorem Step.conv {t1 t2 : TypeId} {s : Nat} {v1 v : Value} (hw : Wants tbl ops o) (ho : o.op = .convert t1 t2 (.tmp s)) (hs : get tbl s = Ent.is v1) (hr : ∀ w : World, (convert t1 t2 v1).run P w = .ok v w) (hd : ∀ d, o.dst = some d → get tbl d = Ent.is v) : Step P ops Q tbl w0 o := by
  refine Step.value hw fun a w hb hk => ⟨v, ?_, fun d h => by rw [hd d h]; rfl⟩
  have h1 : a.eval (.tmp s) = v1 := by
    have := hk s (looks_op (by rw [ho]; simp [Op.operands]))
    rwa [hs] at this
  simp [execOp, ho, h1, hr w]
/-- What the end of such a region is read by. -/
theorem slot_of {a : Act} {d : Nat} {v : Value} (h : a.eval (.tmp d) = v) : a.tmps[d]?.getD undef = v := by
  rw [← h]; simp [Act.eval]
end Go.Proofs.Ytlbchdlokimpfaa.V

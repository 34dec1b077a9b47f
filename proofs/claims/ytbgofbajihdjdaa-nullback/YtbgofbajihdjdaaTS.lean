/- Steps on values, rows of values and boxes in a region that draws its order. -/
import Derived.Test.YtbgofbajihdjdaaT1
import Derived.Test.YtbgofbajihdjdaaV11
import Derived.RangeFuncNested
namespace Go.Proofs.Ytbgofbajihdjdaa.V
set_option linter.unusedVariables false
open Go.RowKit
variable {ops : Array Oper} {Q : Exit → Act → World → Prop} {tbl : List (Nat × Ent)} {w0 : World} {o : Oper}

def Ent.ownV (B : Nat) (l : List Z.V) : Ent := ⟨fun v w => OwnV w B v l, fun hb h => h.below hb⟩
def Ent.slV (k : Nat) (l : List Z.V) : Ent := ⟨fun v w => ∃ a c, v = .slice a k c ∧ SlV w a k c l, fun hb ⟨a, c, h1, h2⟩ => ⟨a, c, h1, h2.below hb⟩⟩
theorem build_oneV (w : World) (k i : Int) (z : ByteArray) : (Instr.buildSlice 22 1 #[(0, .agg #[.int .i64 k, .int .i64 i, .string z])]).run Try.prog w = .ok (.slice (some ⟨w.heap.size, 0, none⟩) 1 1) (w.alloc (.cells #[.int .i64 k, .int .i64 i, .string z] 44)) := by
  simp [go_sem]
theorem Step.oneV {s : Nat} {k i : Int} {z : ByteArray} (hw : Wants tbl ops o) (ho : o.op = .buildSlice 22 1 #[(0, .tmp s)]) (hs : get tbl s = Ent.is (.agg #[.int .i64 k, .int .i64 i, .string z])) (hd : ∀ d, o.dst = some d → get tbl d = Ent.slV 1 [⟨k, i, z⟩]) : Step Try.prog ops Q tbl w0 o := by
  refine Step.run hw fun a w hb hk => ⟨.slice (some ⟨w.heap.size, 0, none⟩) 1 1, w.alloc (.cells #[.int .i64 k, .int .i64 i, .string z] 44), ?_, (Below.refl _ _).alloc (Nat.le_refl _) _, fun d h => ?_⟩
  · have h1 : a.eval (.tmp s) = .agg #[.int .i64 k, .int .i64 i, .string z] := by
      have := hk s (looks_op (by rw [ho]; simp [Op.operands]))
      rwa [hs] at this
    simp only [execOp, ho]
    simp [h1, build_oneV]
  · rw [hd d h]
    refine ⟨_, _, rfl, rfl, Nat.le_refl _, by decide, by simp, .inr ⟨w.heap.size, 0, rfl, by simp, fun j x hx => ?_⟩⟩
    match j, hx with
    | 0, hx => simp at hx; subst hx; simp
/-- A new box. -/
def Ent.box (B : Nat) (t : TypeId) (u : Value) : Ent := ⟨fun v w => ∃ b, v = .pointer (some ⟨b, 0, none⟩) ∧ B ≤ b ∧ Boxed w b t u, fun hb ⟨b, h1, h2, h3⟩ => ⟨b, h1, h2, (hb.block b h3.lt).trans h3⟩⟩
theorem Step.boxVs (hw : Wants tbl ops o) (ho : o.op = .alloc 22) (hd : ∀ d, o.dst = some d → get tbl d = Ent.box w0.heap.size 22 (.slice none 0 0)) : Step Try.prog ops Q tbl w0 o := by
  refine Step.run hw fun a w hb hk => ⟨.pointer (some ⟨w.heap.size, 0, none⟩), w.alloc (.cells #[.slice none 0 0] 22), ?_, (Below.refl _ _).alloc (Nat.le_refl _) _, fun d h => ?_⟩
  · simp only [execOp, ho]
    simp [go_sem]
  · rw [hd d h]
    exact ⟨_, rfl, hb.size, Boxed.new w _ _⟩
theorem Step.lenT {s k : Nat} {t : TypeId} (hw : Wants tbl ops o) (ho : o.op = .call { callee := .builtin .len, args := #[.tmp s], argTypes := #[t] }) (ht : t = 22 ∨ t = 23) (hs : ∀ v w, (get tbl s).p v w → ∃ a c, v = .slice a k c) (hd : ∀ d, o.dst = some d → get tbl d = Ent.is (.int .i64 (k : Int))) : Step Try.prog ops Q tbl w0 o := by
  refine Step.value hw fun a w hb hk => ⟨.int .i64 (k : Int), ?_, fun d h => by rw [hd d h]; rfl⟩
  obtain ⟨a1, c1, h2⟩ := hs _ _ (hk s (looks_op (by rw [ho]; simp [Op.operands, Call.operands])))
  obtain ⟨dst, op, type, pos, after, guard⟩ := o
  obtain rfl : op = _ := ho
  have h3 := slot_of h2
  rcases ht with rfl | rfl <;> simp [h3, go_sem, Builtin.len_]
/-- What a box holds. -/
theorem Step.ldT {s g i : Nat} {t : TypeId} {v : Value} (hw : Wants tbl ops o) (ho : o.op = .load t (.tmp s)) (hs : get tbl s = Ent.is (.pointer (some ⟨g, i, none⟩))) (ht : (t = 22 ∧ ∃ a n c, v = .slice a n c) ∨ (t = 23 ∧ ∃ a n c, v = .slice a n c) ∨ (t = 3 ∧ ∃ n, v = .int .i64 n)) (hg : g < w0.heap.size) (hc : w0.cell? ⟨g, i, none⟩ = some v) (hd : ∀ d, o.dst = some d → get tbl d = Ent.is v) : Step Try.prog ops Q tbl w0 o := by
  refine Step.value hw fun a w hb hk => ⟨v, ?_, fun d h => by rw [hd d h]; rfl⟩
  have e1 : a.eval (.tmp s) = .pointer (some ⟨g, i, none⟩) := by
    have := hk s (looks_op (by rw [ho]; simp [Op.operands]))
    rwa [hs] at this
  have hc2 : w.cell? ⟨g, i, none⟩ = some v := by rw [hb.cell (p := ⟨g, i, none⟩) hg]; exact hc
  simp only [execOp, ho, e1]
  rcases ht with ⟨rfl, a, n, c, rfl⟩ | ⟨rfl, a, n, c, rfl⟩ | ⟨rfl, n, rfl⟩ <;> simp [go_sem, hc2]
theorem run_idxV (w : World) (g off len cap : Nat) (k : IntKind) (i : Int) (h0 : 0 ≤ i) (h1 : i < (len : Int)) : (Instr.indexAt 22 (.slice (some ⟨g, off, none⟩) len cap) (.int k i)).run Try.prog w = .ok (.pointer (some ⟨g, off + i.toNat * 3, none⟩)) w := by
  have he : Try.prog.elem 22 = 44 := by kernel_rfl
  have hs : (sizeOf 44).run Try.prog w = .ok 3 w := by
    have h : (Try.prog.info? 44).map (·.size) = some 3 := by kernel_rfl
    cases hq : Try.prog.info? 44 with
    | none => rw [hq] at h; simp at h
    | some i => rw [hq] at h; simp at h; simp [sizeOf, typeInfo, hq, h]
  rw [run_indexAt_slice (w := w) 22 ⟨g, off, none⟩ len cap k i (by rw [he]; exact Try.underlying22), if_pos ⟨h0, h1⟩, he, hs]
  simp only [Result.andThen_ok, Addr.add_lit]
/-- Where a value of a row lies. -/
theorem Step.idxV {s g off len cap : Nat} {x : Operand} {k : IntKind} {i : Int} {p : Value} (hw : Wants tbl ops o) (ho : o.op = .indexAddr 22 (.tmp s) x) (hs : get tbl s = Ent.is (.slice (some ⟨g, off, none⟩) len cap)) (hx : (∃ t, x = .tmp t) ∨ ∃ v, x = .const v) (hex : ent tbl x = Ent.is (.int k i)) (h0 : 0 ≤ i) (h1 : i < (len : Int)) (hp : .pointer (some ⟨g, off + i.toNat * 3, none⟩) = p) (hd : ∀ d, o.dst = some d → get tbl d = Ent.is p) : Step Try.prog ops Q tbl w0 o := by
  subst hp
  refine Step.value hw fun a w hb hk => ⟨.pointer (some ⟨g, off + i.toNat * 3, none⟩), ?_, fun d h => by rw [hd d h]; rfl⟩
  have e1 : a.eval (.tmp s) = .slice (some ⟨g, off, none⟩) len cap := by
    have := hk s (looks_op (by rw [ho]; simp [Op.operands]))
    rwa [hs] at this
  have e2 : a.eval x = .int k i := ent_eval hex (.inl (by rw [ho]; simp [Op.operands])) hk hx
  simp [execOp, ho, e1, e2, run_idxV w g off len cap k i h0 h1]
/-- A value of a row. -/
theorem Step.ldV {s g j : Nat} {k i : Int} {z : ByteArray} (hw : Wants tbl ops o) (ho : o.op = .load 44 (.tmp s)) (hs : get tbl s = Ent.is (.pointer (some ⟨g, j, none⟩))) (hg : g < w0.heap.size) (h0 : w0.cell? ⟨g, j, none⟩ = some (.int .i64 k)) (h1 : w0.cell? ⟨g, j + 1, none⟩ = some (.int .i64 i)) (h2 : w0.cell? ⟨g, j + 2, none⟩ = some (.string z)) (hd : ∀ d, o.dst = some d → get tbl d = Ent.is (.agg #[.int .i64 k, .int .i64 i, .string z])) : Step Try.prog ops Q tbl w0 o := by
  refine Step.value hw fun a w hb hk => ⟨.agg #[.int .i64 k, .int .i64 i, .string z], ?_, fun d h => by rw [hd d h]; rfl⟩
  have e1 : a.eval (.tmp s) = .pointer (some ⟨g, j, none⟩) := by
    have := hk s (looks_op (by rw [ho]; simp [Op.operands]))
    rwa [hs] at this
  have c0 : w.cell? ⟨g, j, none⟩ = some (.int .i64 k) := by rw [hb.cell (p := ⟨g, j, none⟩) hg]; exact h0
  have c1 : w.cell? ⟨g, j + 1, none⟩ = some (.int .i64 i) := by rw [hb.cell (p := ⟨g, j + 1, none⟩) hg]; exact h1
  have c2 : w.cell? ⟨g, j + 2, none⟩ = some (.string z) := by rw [hb.cell (p := ⟨g, j + 2, none⟩) hg]; exact h2
  simp only [execOp, ho, e1]
  simp [go_sem, c0, c1, c2]
/-- Room for so many values. -/
theorem Step.makeV {s n : Nat} {i : Int} {c : Value} (hw : Wants tbl ops o) (ho : o.op = .makeSlice 22 (.const c) (.tmp s)) (hc : c = .int .i64 0) (hs : get tbl s = Ent.is (.int .i64 i)) (hi : i = (n : Int)) (hn : n * 32 ≤ 140737488355328) (hd : ∀ d, o.dst = some d → get tbl d = Ent.ownV w0.heap.size []) : Step Try.prog ops Q tbl w0 o := by
  subst hc hi
  obtain ⟨i0, hi, hz0, hz1, hz2⟩ := info_parts Try.infoVal
  refine Step.run hw fun a w hb hk => ?_
  have e1 : a.eval (.tmp s) = .int .i64 (n : Int) := by
    have := hk s (looks_op (by rw [ho]; simp [Op.operands]))
    rwa [hs] at this
  have e2 : a.eval (.const (.int .i64 0)) = .int .i64 0 := rfl
  obtain ⟨w', hr, hown, hg⟩ := run_make_own w w0.heap.size 22 44 i0 _ 3 Try.underlying22 hi hz0 hz1 .i64 .i64 n (by rw [hz2]; omega) (by unfold maxLen; omega) hb.size
  refine ⟨.slice (some ⟨w.heap.size, 0, none⟩) 0 n, w', ?_, ?_, fun d h => ?_⟩
  · simp [execOp, ho, e1, e2, hr]
  · exact ((Kept.refl (fun _ => False) w).grown hg (by simp)).below (Nat.le_refl _) (by simp)
  · rw [hd d h]
    exact hown
/-- A call of two arguments, of which the second is a function of the program. -/
theorem Step.callF {P : Program} {f g : FuncId} {s : Nat} {ats : Array TypeId} {v : Value} {fn : Func} {c : Code} (hw : Wants tbl ops o) (ho : o.op = .call { callee := .value (.func f), args := #[.tmp s, .func g], argTypes := ats }) (hs : get tbl s = Ent.is v)
    (hf : P.funcs[f]? = some fn) (hname : (fn.name == "runtime.NumGoroutine") = false) (hb : fn.body = some c)
    (h : ∀ w : World, Below w0.heap.size w0 w → Calls P f #[v, .func (.func g) #[] #[]] w fun e w' => ∃ v', e = .returned v' ∧ Below w.heap.size w w' ∧ ∀ d, o.dst = some d → (get tbl d).p v' w') : Step P ops Q tbl w0 o := by
  refine Step.enter hw fun a w hbw hk => ⟨f, #[v, .func (.func g) #[] #[]], ?_, h w hbw⟩
  have h1 := hk s (looks_op (by rw [ho]; simp [Op.operands, Call.operands]))
  rw [hs] at h1
  have h2 : a.eval (.tmp s) = v := h1
  have h4 : a.eval (.func g) = .func (.func g) #[] #[] := rfl
  obtain ⟨dst, op, type, pos, after, guard⟩ := o
  obtain rfl : op = _ := ho
  have h3 : fn.name ≠ "runtime.NumGoroutine" := by simpa using hname
  simp [execOp_call_go, callFunc, hf, h3, hb, h2, h4]
theorem append_nothingV (w : World) (ty : TypeId) (ao bo : Option Addr) (n cap c : Nat) (h : n ≤ cap) :
    (Builtin.append_ #[22, 22] ty #[.slice ao n cap, .slice bo 0 c]).run Try.prog w = .ok (.slice ao n cap) w := by
  obtain ⟨i0, hi, hz0, hz1, hz2⟩ := info_parts Try.infoVal
  cases ao <;> cases bo <;> simp [Builtin.append_, run_underlying Try.underlying22, sizeOf, typeInfo, hi, Builtin.lenOf, h, Builtin.firstCells, run_load_none, storeCells]
/-- No values, in new memory, without room. -/
def Ent.bareV (B : Nat) : Ent := ⟨fun v w => OwnV w B v [] ∧ ∃ g, v = .slice (some ⟨g, 0, none⟩) 0 0, fun hb ⟨h1, h2⟩ => ⟨h1.below hb, h2⟩⟩
theorem Step.bareV (hw : Wants tbl ops o) (ho : o.op = .buildSlice 22 0 #[]) (hd : ∀ d, o.dst = some d → get tbl d = Ent.bareV w0.heap.size) : Step Try.prog ops Q tbl w0 o := by
  refine Step.run hw fun a w hb hk => ⟨.slice (some ⟨w.heap.size, 0, none⟩) 0 0, w.alloc (.cells #[] 44), ?_, (Below.refl _ _).alloc (Nat.le_refl _) _, fun d h => ?_⟩
  · simp only [execOp, ho]
    simp [go_sem]
  · rw [hd d h]
    exact ⟨World.ownsRow_lit w #[] 0 hb.size (by decide) rfl, _, rfl⟩
theorem Step.appV {s x : Nat} {ao : Option Addr} {m c : Nat} {news : List Z.V} (hg : o.guard = none) (ho : o.op = .call { callee := .builtin .append, args := #[.tmp s, .tmp x], argTypes := #[22, 22] })
    (hs : get tbl s = Ent.bareV w0.heap.size) (hx : get tbl x = Ent.is (.slice ao m c)) (hsl : SlV w0 ao m c news) (hlim : m * 32 ≤ 140737488355328) (hd : ∀ d, o.dst = some d → get tbl d = Ent.ownV w0.heap.size news) : Step Try.prog ops Q tbl w0 o := by
  intro a w hb hk
  have h1 := hk s (looks_op (by rw [ho]; simp [Op.operands, Call.operands]))
  rw [hs] at h1
  obtain ⟨h1, g, h3⟩ := h1
  have h2 : a.eval (.tmp x) = .slice ao m c := by
    have := hk x (looks_op (by rw [ho]; simp [Op.operands, Call.operands]))
    rwa [hx] at this
  have hsl' := hsl.below hb
  have hm : news.length = m := hsl.1
  refine .inl ⟨(Wants.wanted (.inl hg) hk), ?_⟩
  by_cases h0 : m = 0
  · subst h0
    obtain rfl : news = [] := List.eq_nil_of_length_eq_zero hm
    have hrun := append_nothingV w o.type (some ⟨g, 0, none⟩) ao 0 0 c (Nat.le_refl _)
    unfold Oper.wp
    simp [execOp, ho, resolve, invoke, builtin, h3, h2, hrun, Result.andThen]
    refine ⟨Below.refl _ _, _, rfl, fun d hdd => ?_⟩
    rw [hd d hdd, ← h3]; exact h1
  · cases ao with
    | none => exact absurd (by have := hsl.2.2.2.1 rfl; have := hsl.2.1; omega) h0
    | some ad =>
      obtain ⟨i0, hi, hz0, hz1, hz2⟩ := info_parts Try.infoVal
      refine wp_of_list (ops := ops) hg (wpList_append_grows w hg (.tmp s) (.tmp x) 22 ho 44 i0 (.agg #[.int .i64 0, .int .i64 0, .string ⟨#[]⟩]) 3 32 Try.underlying22 hi hz0 hz1 hz2 rfl (by decide) (some ⟨g, 0, none⟩) 0 0 [] h3 (by simp) rfl (fun _ _ _ _ h => by simp at h) ad m c (cellsV news) h2 (by rw [cellsV_length, hm]) (hsl'.news ad rfl) (cellsV_one _) (by omega) (by unfold maxLen; omega) (by simpa using hlim) ?_)
      intro v' w' ho' hg'
      have hbel : Below w.heap.size w w' := ((Kept.refl (fun _ => False) w).grown hg' (by simp)).below (Nat.le_refl _) (by simp)
      refine ⟨rfl, hbel, v', rfl, fun d hdd => ?_⟩
      rw [hd d hdd]
      have h5 := owns_base ho' (base' := w0.heap.size) fun k hk => by have := (owns_lt ho' hk).1; have := hb.size; omega
      show w'.ownsRow _ _ _ _ _ _
      rw [hm]
      simpa using h5
end Go.Proofs.Ytbgofbajihdjdaa.V

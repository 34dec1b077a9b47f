/- Steps on values, rows of values and boxes in a region that draws its order. -/
import Derived.Test.YtkcpfgjkplailaaBdF
import Derived.Test.YtkcpfgjkplailaaBdL
import Derived.RangeFuncNested
import Derived.Test.YtkcpfgjkplailaaBdK
namespace Go.Proofs.Ytkcpfgjkplailaa.V
set_option linter.unusedVariables false
open Go.RowKit
variable {ops : Array Oper} {Q : Exit → Act → World → Prop} {tbl : List (Nat × Ent)} {w0 : World} {o : Oper}

def Ent.ownV (B : Nat) (l : List Z.V) : Ent := ⟨fun v w => OwnV w B v l, fun hb h => h.below hb⟩
def Ent.slV (k : Nat) (l : List Z.V) : Ent := ⟨fun v w => ∃ a c, v = .slice a k c ∧ SlV w a k c l, fun hb ⟨a, c, h1, h2⟩ => ⟨a, c, h1, h2.below hb⟩⟩
theorem build_oneV (w : World) (k i : Int) (z : ByteArray) : (Instr.buildSlice 22 1 #[(0, .agg #[.int .i64 k, .int .i64 i, .string z])]).run Try.prog w = .ok (.slice (some ⟨w.heap.size, 0, none⟩) 1 1) (w.alloc (.cells #[.int .i64 k, .int .i64 i, .string z] 42)) := by
  simp [go_sem]
theorem Step.oneV {s : Nat} {k i : Int} {z : ByteArray} (hw : Wants tbl ops o) (ho : o.op = .buildSlice 22 1 #[(0, .tmp s)]) (hs : get tbl s = Ent.is (.agg #[.int .i64 k, .int .i64 i, .string z])) (hd : ∀ d, o.dst = some d → get tbl d = Ent.slV 1 [⟨k, i, z⟩]) : Step Try.prog ops Q tbl w0 o := by
  refine Step.run hw fun a w hb hk => ⟨.slice (some ⟨w.heap.size, 0, none⟩) 1 1, w.alloc (.cells #[.int .i64 k, .int .i64 i, .string z] 42), ?_, (Below.refl _ _).alloc (Nat.le_refl _) _, fun d h => ?_⟩
  · have h1 : a.eval (.tmp s) = .agg #[.int .i64 k, .int .i64 i, .string z] := by
      have := hk s (looks_op (by rw [ho]; simp [Op.operands]))
      rwa [hs] at this
    simp only [execOp, ho]
    simp [h1, build_oneV]
  · rw [hd d h]
    refine ⟨_, _, rfl, rfl, Nat.le_refl _, by decide, by simp, .inr ⟨w.heap.size, 0, rfl, by simp, fun j x hx => ?_⟩⟩
    match j, hx with
    | 0, hx => simp at hx; subst hx; simp
/-- A new box. -/
def Ent.box (B : Nat) (t : TypeId) (u : Value) : Ent := ⟨fun v w => ∃ b, v = .pointer (some ⟨b, 0, none⟩) ∧ B ≤ b ∧ Boxed w b t u, fun hb ⟨b, h1, h2, h3⟩ => ⟨b, h1, h2, (hb.block b h3.lt).trans h3⟩⟩
theorem Step.boxVs (hw : Wants tbl ops o) (ho : o.op = .alloc 22) (hd : ∀ d, o.dst = some d → get tbl d = Ent.box w0.heap.size 22 (.slice none 0 0)) : Step Try.prog ops Q tbl w0 o := by
  refine Step.run hw fun a w hb hk => ⟨.pointer (some ⟨w.heap.size, 0, none⟩), w.alloc (.cells #[.slice none 0 0] 22), ?_, (Below.refl _ _).alloc (Nat.le_refl _) _, fun d h => ?_⟩
  · simp only [execOp, ho]
    simp [go_sem]
  · rw [hd d h]
    exact ⟨_, rfl, hb.size, Boxed.new w _ _⟩
theorem Step.lenT {s k : Nat} {t : TypeId} (hw : Wants tbl ops o) (ho : o.op = .call { callee := .builtin .len, args := #[.tmp s], argTypes := #[t] }) (ht : t = 22 ∨ t = 84) (hs : ∀ v w, (get tbl s).p v w → ∃ a c, v = .slice a k c) (hd : ∀ d, o.dst = some d → get tbl d = Ent.is (.int .i64 (k : Int))) : Step Try.prog ops Q tbl w0 o := by
  refine Step.value hw fun a w hb hk => ⟨.int .i64 (k : Int), ?_, fun d h => by rw [hd d h]; rfl⟩
  obtain ⟨a1, c1, h2⟩ := hs _ _ (hk s (looks_op (by rw [ho]; simp [Op.operands, Call.operands])))
  obtain ⟨dst, op, type, pos, after, guard⟩ := o
  obtain rfl : op = _ := ho
  have h3 := slot_of h2
  rcases ht with rfl | rfl <;> simp [h3, go_sem, Builtin.len_]
/-- What a box holds. -/
theorem Step.ldT {s g i : Nat} {t : TypeId} {v : Value} (hw : Wants tbl ops o) (ho : o.op = .load t (.tmp s)) (hs : get tbl s = Ent.is (.pointer (some ⟨g, i, none⟩))) (ht : (t = 22 ∧ ∃ a n c, v = .slice a n c) ∨ (t = 84 ∧ ∃ a n c, v = .slice a n c) ∨ (t = 3 ∧ ∃ n, v = .int .i64 n)) (hg : g < w0.heap.size) (hc : w0.cell? ⟨g, i, none⟩ = some v) (hd : ∀ d, o.dst = some d → get tbl d = Ent.is v) : Step Try.prog ops Q tbl w0 o := by
  refine Step.value hw fun a w hb hk => ⟨v, ?_, fun d h => by rw [hd d h]; rfl⟩
  have e1 : a.eval (.tmp s) = .pointer (some ⟨g, i, none⟩) := by
    have := hk s (looks_op (by rw [ho]; simp [Op.operands]))
    rwa [hs] at this
  have hc2 : w.cell? ⟨g, i, none⟩ = some v := by rw [hb.cell (p := ⟨g, i, none⟩) hg]; exact hc
  simp only [execOp, ho, e1]
  rcases ht with ⟨rfl, a, n, c, rfl⟩ | ⟨rfl, a, n, c, rfl⟩ | ⟨rfl, n, rfl⟩ <;> simp [go_sem, hc2]
theorem run_idxV (w : World) (g off len cap : Nat) (k : IntKind) (i : Int) (h0 : 0 ≤ i) (h1 : i < (len : Int)) : (Instr.indexAt 22 (.slice (some ⟨g, off, none⟩) len cap) (.int k i)).run Try.prog w = .ok (.pointer (some ⟨g, off + i.toNat * 3, none⟩)) w := by
  have he : Try.prog.elem 22 = 42 := by kernel_rfl
  have hs : (sizeOf 42).run Try.prog w = .ok 3 w := by
    have h : (Try.prog.info? 42).map (·.size) = some 3 := by kernel_rfl
    cases hq : Try.prog.info? 42 with
    | none => rw [hq] at h; simp at h
    | some i => rw [hq] at h; simp at h; simp [sizeOf, typeInfo, hq, h]
  rw [run_indexAt_slice (w := w) 22 ⟨g, off, none⟩ len cap k i (by rw [he]; exact Try.underlying22), if_pos ⟨h0, h1⟩, he, hs]
  simp only [Result.andThen_ok, Addr.add_lit]
/-- Where a value of a row lies. -/
theorem Step.idxV {s g off len cap : Nat} {x : Operand} {k : IntKind} {i : Int} {p : Value} (hw : Wants tbl ops o) (ho : o.op = .indexAddr 22 (.tmp s) x) (hs : get tbl s = Ent.is (.slice (some ⟨g, off, none⟩) len cap)) (hx : (∃ t, x = .tmp t) ∨ ∃ v, x = .const v) (hex : ent tbl x = Ent.is (.int k i)) (h0 : 0 ≤ i) (h1 : i < (len : Int)) (hp : .pointer (some ⟨g, off + i.toNat * 3, none⟩) = p) (hd : ∀ d, o.dst = some d → get tbl d = Ent.is p) : Step Try.prog ops Q tbl w0 o := by
  subst hp
  refine Step.value hw fun a w hb hk => ⟨.pointer (some ⟨g, off + i.toNat * 3, none⟩), ?_, fun d h => by rw [hd d h]; rfl⟩
  have e1 : a.eval (.tmp s) = .slice (some ⟨g, off, none⟩) len cap := by
    have := hk s (looks_op (by rw [ho]; simp [Op.operands]))
    rwa [hs] at this
  have e2 : a.eval x = .int k i := ent_eval hex (.inl (by rw [ho]; simp [Op.operands])) hk hx
  simp [execOp, ho, e1, e2, run_idxV w g off len cap k i h0 h1]
/-- A value of a row. -/
theorem Step.ldV {s g j : Nat} {k i : Int} {z : ByteArray} (hw : Wants tbl ops o) (ho : o.op = .load 42 (.tmp s)) (hs : get tbl s = Ent.is (.pointer (some ⟨g, j, none⟩))) (hg : g < w0.heap.size) (h0 : w0.cell? ⟨g, j, none⟩ = some (.int .i64 k)) (h1 : w0.cell? ⟨g, j + 1, none⟩ = some (.int .i64 i)) (h2 : w0.cell? ⟨g, j + 2, none⟩ = some (.string z)) (hd : ∀ d, o.dst = some d → get tbl d = Ent.is (.agg #[.int .i64 k, .int .i64 i, .string z])) : Step Try.prog ops Q tbl w0 o := by
  refine Step.value hw fun a w hb hk => ⟨.agg #[.int .i64 k, .int .i64 i, .string z], ?_, fun d h => by rw [hd d h]; rfl⟩
  have e1 : a.eval (.tmp s) = .pointer (some ⟨g, j, none⟩) := by
    have := hk s (looks_op (by rw [ho]; simp [Op.operands]))
    rwa [hs] at this
  have c0 : w.cell? ⟨g, j, none⟩ = some (.int .i64 k) := by rw [hb.cell (p := ⟨g, j, none⟩) hg]; exact h0
  have c1 : w.cell? ⟨g, j + 1, none⟩ = some (.int .i64 i) := by rw [hb.cell (p := ⟨g, j + 1, none⟩) hg]; exact h1
  have c2 : w.cell? ⟨g, j + 2, none⟩ = some (.string z) := by rw [hb.cell (p := ⟨g, j + 2, none⟩) hg]; exact h2
  simp only [execOp, ho, e1]
  simp [go_sem, c0, c1, c2]
/-- Room for so many values. -/
theorem Step.makeV {s n : Nat} {i : Int} {c : Value} (hw : Wants tbl ops o) (ho : o.op = .makeSlice 22 (.const c) (.tmp s)) (hc : c = .int .i64 0) (hs : get tbl s = Ent.is (.int .i64 i)) (hi : i = (n : Int)) (hn : n * 32 ≤ 140737488355328) (hd : ∀ d, o.dst = some d → get tbl d = Ent.ownV w0.heap.size []) : Step Try.prog ops Q tbl w0 o := by
  subst hc hi
  obtain ⟨i0, hi, hz0, hz1, hz2⟩ := info_parts Try.infoVal
  refine Step.run hw fun a w hb hk => ?_
  have e1 : a.eval (.tmp s) = .int .i64 (n : Int) := by
    have := hk s (looks_op (by rw [ho]; simp [Op.operands]))
    rwa [hs] at this
  have e2 : a.eval (.const (.int .i64 0)) = .int .i64 0 := rfl
  obtain ⟨w', hr, hown, hg⟩ := run_make_own w w0.heap.size 22 42 i0 _ 3 Try.underlying22 hi hz0 hz1 .i64 .i64 n (by rw [hz2]; omega) (by unfold maxLen; omega) hb.size
  refine ⟨.slice (some ⟨w.heap.size, 0, none⟩) 0 n, w', ?_, ?_, fun d h => ?_⟩
  · simp [execOp, ho, e1, e2, hr]
  · exact ((Kept.refl (fun _ => False) w).grown hg (by simp)).below (Nat.le_refl _) (by simp)
  · rw [hd d h]
    exact hown
/-- A call of two arguments, of which the second is a function of the program. -/
theorem Step.callF {P : Program} {f g : FuncId} {s : Nat} {ats : Array TypeId} {v : Value} {fn : Func} {c : Code} (hw : Wants tbl ops o) (ho : o.op = .call { callee := .value (.func f), args := #[.tmp s, .func g], argTypes := ats }) (hs : get tbl s = Ent.is v)
    (hf : P.funcs[f]? = some fn) (hname : (fn.name == "runtime.NumGoroutine") = false) (hb : fn.body = some c)
    (h : ∀ w : World, Below w0.heap.size w0 w → Calls P f #[v, .func (.func g) #[] #[]] w fun e w' => ∃ v', e = .returned v' ∧ Below w.heap.size w w' ∧ ∀ d, o.dst = some d → (get tbl d).p v' w') : Step P ops Q tbl w0 o := by
  refine Step.enter hw fun a w hbw hk => ⟨f, #[v, .func (.func g) #[] #[]], ?_, h w hbw⟩
  have h1 := hk s (looks_op (by rw [ho]; simp [Op.operands, Call.operands]))
  rw [hs] at h1
  have h2 : a.eval (.tmp s) = v := h1
  have h4 : a.eval (.func g) = .func (.func g) #[] #[] := rfl
  obtain ⟨dst, op, type, pos, after, guard⟩ := o
  obtain rfl : op = _ := ho
  have h3 : fn.name ≠ "runtime.NumGoroutine" := by simpa using hname
  simp [execOp_call_go, callFunc, hf, h3, hb, h2, h4]
theorem append_nothingV (w : World) (ty : TypeId) (ao bo : Option Addr) (n cap c : Nat) (h : n ≤ cap) :
    (Builtin.append_ #[22, 22] ty #[.slice ao n cap, .slice bo 0 c]).run Try.prog w = .ok (.slice ao n cap) w := by
  obtain ⟨i0, hi, hz0, hz1, hz2⟩ := info_parts Try.infoVal
  cases ao <;> cases bo <;> simp [Builtin.append_, run_underlying Try.underlying22, sizeOf, typeInfo, hi, Builtin.lenOf, h, Builtin.firstCells, run_load_none, storeCells]
/-- No values, in new memory, without room. -/
def Ent.bareV (B : Nat) : Ent := ⟨fun v w => OwnV w B v [] ∧ ∃ g, v = .slice (some ⟨g, 0, none⟩) 0 0, fun hb ⟨h1, h2⟩ => ⟨h1.below hb, h2⟩⟩
theorem Step.bareV (hw : Wants tbl ops o) (ho : o.op = .buildSlice 22 0 #[]) (hd : ∀ d, o.dst = some d → get tbl d = Ent.bareV w0.heap.size) : Step Try.prog ops Q tbl w0 o := by
  refine Step.run hw fun a w hb hk => ⟨.slice (some ⟨w.heap.size, 0, none⟩) 0 0, w.alloc (.cells #[] 42), ?_, (Below.refl _ _).alloc (Nat.le_refl _) _, fun d h => ?_⟩
  · simp only [execOp, ho]
    simp [go_sem]
  · rw [hd d h]
    exact ⟨World.ownsRow_lit w #[] 0 hb.size (by decide) rfl, _, rfl⟩
theorem Step.appV {s x : Nat} {ao : Option Addr} {m c : Nat} {news : List Z.V} (hg : o.guard = none) (ho : o.op = .call { callee := .builtin .append, args := #[.tmp s, .tmp x], argTypes := #[22, 22] })
    (hs : get tbl s = Ent.bareV w0.heap.size) (hx : get tbl x = Ent.is (.slice ao m c)) (hsl : SlV w0 ao m c news) (hlim : m * 32 ≤ 140737488355328) (hd : ∀ d, o.dst = some d → get tbl d = Ent.ownV w0.heap.size news) : Step Try.prog ops Q tbl w0 o := by
  intro a w hb hk
  have h1 := hk s (looks_op (by rw [ho]; simp [Op.operands, Call.operands]))
  rw [hs] at h1
  obtain ⟨h1, g, h3⟩ := h1
  have h2 : a.eval (.tmp x) = .slice ao m c := by
    have := hk x (looks_op (by rw [ho]; simp [Op.operands, Call.operands]))
    rwa [hx] at this
  have hsl' := hsl.below hb
  have hm : news.length = m := hsl.1
  refine .inl ⟨(Wants.wanted (.inl hg) hk), ?_⟩
  by_cases h0 : m = 0
  · subst h0
    obtain rfl : news = [] := List.eq_nil_of_length_eq_zero hm
    have hrun := append_nothingV w o.type (some ⟨g, 0, none⟩) ao 0 0 c (Nat.le_refl _)
    unfold Oper.wp
    simp [execOp, ho, resolve, invoke, builtin, h3, h2, hrun, Result.andThen]
    refine ⟨Below.refl _ _, _, rfl, fun d hdd => ?_⟩
    rw [hd d hdd, ← h3]; exact h1
  · cases ao with
    | none => exact absurd (by have := hsl.2.2.2.1 rfl; have := hsl.2.1; omega) h0
    | some ad =>
      obtain ⟨i0, hi, hz0, hz1, hz2⟩ := info_parts Try.infoVal
      refine wp_of_list (ops := ops) hg (wpList_append_grows w hg (.tmp s) (.tmp x) 22 ho 42 i0 (.agg #[.int .i64 0, .int .i64 0, .string ⟨#[]⟩]) 3 32 Try.underlying22 hi hz0 hz1 hz2 rfl (by decide) (some ⟨g, 0, none⟩) 0 0 [] h3 (by simp) rfl (fun _ _ _ _ h => by simp at h) ad m c (cellsV news) h2 (by rw [cellsV_length, hm]) (hsl'.news ad rfl) (cellsV_one _) (by omega) (by unfold maxLen; omega) (by simpa using hlim) ?_)
      intro v' w' ho' hg'
      have hbel : Below w.heap.size w w' := ((Kept.refl (fun _ => False) w).grown hg' (by simp)).below (Nat.le_refl _) (by simp)
      refine ⟨rfl, hbel, v', rfl, fun d hdd => ?_⟩
      rw [hd d hdd]
      have h5 := owns_base ho' (base' := w0.heap.size) fun k hk => by have := (owns_lt ho' hk).1; have := hb.size; omega
      show w'.ownsRow _ _ _ _ _ _
      rw [hm]
      simpa using h5
end Go.Proofs.Ytkcpfgjkplailaa.V
/- Split: which values are nothing, and the others. -/
namespace Go.Proofs.Ytkcpfgjkplailaa
set_option linter.unusedVariables false
open Go.RowKit
attribute [local go_sem] Oper.semAt_some

/-- Nothing. -/
def Z.z0 : Z.V := ⟨0, 0, ⟨#[]⟩⟩
/-- Which are nothing. -/
def nus (l : List Z.V) : List Bool := l.map fun x => x.k == 0
/-- The others. -/
def oth (l : List Z.V) : List Z.V := l.filter fun x => !(x.k == 0)
theorem nus_length (l : List Z.V) : (nus l).length = l.length := by simp [nus]
theorem nus_get {l : List Z.V} {j : Nat} {x : Z.V} (h : l[j]? = some x) : (nus l).getD j false = (x.k == 0) := by simp [nus, List.getD, h]
theorem take_snocV {l : List Z.V} {j : Nat} {x : Z.V} (h : l[j]? = some x) : l.take (j + 1) = l.take j ++ [x] := by
  rw [List.take_add_one, h]; rfl
/-- The values at these places. -/
def got (l : List Z.V) {len : Nat} (pre : List { i : Nat // i < len }) : List Z.V := pre.map fun x => l.getD x.1 Z.z0
theorem got_snoc (l : List Z.V) {len : Nat} (pre : List { i : Nat // i < len }) (x : { i : Nat // i < len }) : got l (pre ++ [x]) = got l pre ++ [l.getD x.1 Z.z0] := by simp [got]
theorem got_length (l : List Z.V) {len : Nat} (pre : List { i : Nat // i < len }) : (got l pre).length = pre.length := by simp [got]
/-- A box holds a row of values of one's own. -/
def HoldsV (W : World) (B n₀ : Nat) (m : List Z.V) : Prop := ∃ v, Boxed W B 22 v ∧ OwnV W n₀ v m
theorem holdsV_own {β : Type} (B n₀ : Nat) (f : β → List Z.V) : Own (fun s W => HoldsV W B n₀ (f s)) := by
  intro s W W' row h hg hr
  obtain ⟨v, h1, h2⟩ := h
  obtain ⟨v', g1, g2, _⟩ := holdsRow_own n₀ B 22 42 3 (fun s => (f s).length) (fun s => cellsV (f s)) (fun _ _ => True) s W W' row ⟨v, h1, h2, trivial⟩ hg hr
  exact ⟨v', g1, g2⟩
theorem plc_oth (l : List Z.V) : ∀ k, k ≤ l.length → got l (plc (nus l) l.length k) = oth (l.take k)
  | 0, _ => rfl
  | k + 1, h => by
    have ih := plc_oth l k (by omega)
    obtain ⟨x, hx⟩ : ∃ x, l[k]? = some x := ⟨l[k]'h, List.getElem?_eq_getElem _⟩
    have hn := nus_get hx
    rw [take_snocV hx]
    cases hb : (x.k == 0) with
    | true =>
      rw [plc_yes _ _ k h (by rw [hn, hb]), ih]
      simp [oth, hb]
    | false =>
      rw [plc_no _ _ k h (by rw [hn, hb]), got_snoc, ih]
      simp [oth, hb, List.getD, hx]
theorem cntT_oth (l : List Z.V) : (oth l).length + cntT (nus l) = l.length := by
  have h1 := plc_oth l l.length (Nat.le_refl _)
  have h2 := plc_all (nus l) (nus_length l)
  rw [List.take_length] at h1
  rw [← h1, got_length]
  exact h2
/-- What the places hold after j rounds. -/
def soFar (l : List Z.V) (len j : Nat) : List Value := Vb (nus (l.take j)) ++ List.replicate (len - j) (.bool false)
theorem soFar_zero (l : List Z.V) (len : Nat) : soFar l len 0 = List.replicate len (.bool false) := by simp [soFar, nus, Vb]
theorem soFar_all (l : List Z.V) {len : Nat} (h : l.length = len) : soFar l len len = Vb (nus l) := by subst h; simp [soFar]
theorem soFar_set (l : List Z.V) (len j : Nat) (hl : l.length = len) (h : j < len) {x : Z.V} (hx : l[j]? = some x) : (soFar l len j).set j (.bool (x.k == 0)) = soFar l len (j + 1) := by
  have h1 : (Vb (nus (l.take j))).length = j := by rw [Vb_length, nus_length, List.length_take]; omega
  unfold soFar
  rw [take_snocV hx, show len - j = (len - (j + 1)) + 1 by omega, List.replicate_succ, List.set_append_right _ _ (by omega), h1, Nat.sub_self, List.set_cons_zero]
  simp [nus, Vb]
theorem soFar_at (l : List Z.V) (len j : Nat) (hl : l.length = len) (h : j < len) : (soFar l len j)[j]? = some (.bool false) := by
  have h1 : (Vb (nus (l.take j))).length = j := by rw [Vb_length, nus_length, List.length_take]; omega
  unfold soFar
  rw [List.getElem?_append_right (by omega), h1, Nat.sub_self, show len - j = (len - (j + 1)) + 1 by omega, List.replicate_succ]
  rfl

theorem owns_below {w w' : World} {B : Nat} {e : TypeId} {size : Nat} {v : Value} {n : Nat} {xs : List Value} (h : w.ownsRow B e size v n xs) (hb : Below w.heap.size w w') : w'.ownsRow B e size v n xs := owns_of_block h fun g hg => hb.block g (owns_lt h hg).2
/-- An append to one's own row, and a store into a box, leave all that is no cells. -/
theorem others_app {W wa w2 : World} {B : Nat} {e : TypeId} {size : Nat} {v : Value} {n : Nat} {xs : List Value} (hwa : Below W.heap.size W wa) (ho : wa.ownsRow B e size v n xs) (hk : Kept (fun k => v.ownBlock = some k) wa w2) : KeepsOthers W w2 := by
  refine ⟨Nat.le_trans hwa.size hk.size, fun k o hk0 hc => ?_⟩
  have h1 : wa.heap[k]? = some o := (hwa.block k (lt_of_block hk0)).trans hk0
  rw [hk.block k (lt_of_block h1) (fun hv => ?_)]
  · exact h1
  · rcases ho.2 with ⟨h2, _⟩ | ⟨g, cap, cur, h2, _, hh, _⟩
    · rw [h2] at hv; simp [Value.ownBlock] at hv
    · rw [h2] at hv
      simp [Value.ownBlock] at hv
      subst hv
      rw [h1] at hh
      obtain rfl := Option.some.inj hh
      simp [Obj.isCells] at hc
theorem boxed_app {wa w2 : World} {B B' : Nat} {t e : TypeId} {size : Nat} {v u : Value} {n : Nat} {xs : List Value} (hb : Boxed wa B t u) (hte : t ≠ e) (ho : wa.ownsRow B' e size v n xs) (hk : Kept (fun k => v.ownBlock = some k) wa w2) : Boxed w2 B t u :=
  (hk.block B hb.lt (fun h => hb.not_row hte ho h.symm)).trans hb

/-- What Split's third region holds. -/
def spTbl (B0 B1 B j : Nat) (ao : Option Addr) (cap c n : Nat) : List (Nat × V.Ent) :=
  [(1, V.Ent.is (.pointer (some ⟨B0, 0, none⟩))), (4, V.Ent.is (.slice (some ⟨B1, 0, none⟩) j j)), (25, V.Ent.is (.slice ao j cap)), (26, V.Ent.is (.int .i64 (j : Int))), (27, V.Ent.is (.slice (some ⟨B1, 0, none⟩) j j)), (28, V.Ent.is (.int .i64 (c : Int))), (29, V.Ent.is (.int .i64 (n : Int))), (30, V.Ent.ownV B []), (7, V.Ent.box B 22 (.slice none 0 0))]

/-- What a round's region holds. -/
def rdTbl (B0 B : Nat) (g off j cap : Nat) (m : Nat) (x : Nat) (v : Value) (k i : Int) (z : ByteArray) : List (Nat × V.Ent) :=
  [(1, V.Ent.is (.pointer (some ⟨B0, 0, none⟩))), (7, V.Ent.is (.pointer (some ⟨B, 0, none⟩))), (8, V.Ent.is (.int .i64 (x : Int))), (34, V.Ent.is v), (35, V.Ent.is (.slice (some ⟨g, off, none⟩) j cap)), (36, V.Ent.is (.int .i64 (x : Int))), (37, V.Ent.is (.pointer (some ⟨g, off + x * 3, none⟩))), (38, V.Ent.is (.agg #[.int .i64 k, .int .i64 i, .string z])), (39, V.Ent.slV 1 [⟨k, i, z⟩])]

end Go.Proofs.Ytkcpfgjkplailaa
/- Steps of a region that draws its order: a value's parts in memory. -/
namespace Go.Proofs.Ytkcpfgjkplailaa.V
set_option linter.unusedVariables false
open Go.RowKit

variable {ops : Array Oper} {Q : Exit → Act → World → Prop} {tbl : List (Nat × Ent)} {w0 : World} {o : Oper}

/-- The address of a part. -/
theorem Step.field {s B i : Nat} (hw : Wants tbl ops o) (ho : o.op = .fieldAddr 42 (.tmp s) i) (hs : get tbl s = Ent.is (.pointer (some ⟨B, 0, none⟩))) (hi : i < 3) (hd : ∀ d, o.dst = some d → get tbl d = Ent.is (.pointer (some ⟨B, i, none⟩))) : Step Try.prog ops Q tbl w0 o := by
  refine Step.value hw fun a w hb hk => ⟨.pointer (some ⟨B, i, none⟩), ?_, fun d h => by rw [hd d h]; rfl⟩
  have h1 : a.eval (.tmp s) = .pointer (some ⟨B, 0, none⟩) := by
    have := hk s (looks_op (by rw [ho]; simp [Op.operands]))
    rwa [hs] at this
  simp only [execOp, ho, h1]
  match i, hi with
  | 0, _ => simp [go_sem]
  | 1, _ => simp [go_sem]
  | 2, _ => simp [go_sem]
/-- A value as a whole. -/
theorem Step.loadV {s B : Nat} {k i : Int} {z : ByteArray} (hw : Wants tbl ops o) (ho : o.op = .load 42 (.tmp s)) (hs : get tbl s = Ent.is (.pointer (some ⟨B, 0, none⟩))) (hB : At w0 B k i z) (hd : ∀ d, o.dst = some d → get tbl d = Ent.is (.agg #[.int .i64 k, .int .i64 i, .string z])) : Step Try.prog ops Q tbl w0 o := by
  refine Step.value hw fun a w hb hk => ⟨.agg #[.int .i64 k, .int .i64 i, .string z], ?_, fun d h => by rw [hd d h]; rfl⟩
  have h1 : a.eval (.tmp s) = .pointer (some ⟨B, 0, none⟩) := by
    have := hk s (looks_op (by rw [ho]; simp [Op.operands]))
    rwa [hs] at this
  have h2 : At w B k i z := hB.below hb
  unfold At at h2
  unfold execOp
  simp only [ho, h1, Instr.loadAt, Instr.sureAddr, Sem.run_bind, Sem.run_pure, Result.andThen_ok, run_loadVar_row w B 42 42 _ (0, 0) _ h2 Try.underlying42 rfl (by kernel_rfl)]
/-- A part. -/
theorem Step.loadI {t s B j : Nat} {k : IntKind} {n : Int} (hw : Wants tbl ops o) (ho : o.op = .load t (.tmp s)) (hs : get tbl s = Ent.is (.pointer (some ⟨B, j, none⟩))) (ht : Try.prog.underlying t = some (.int k)) (hl : B < w0.heap.size) (hB : w0.cell? ⟨B, j, none⟩ = some (.int k n)) (hd : ∀ d, o.dst = some d → get tbl d = Ent.is (.int k n)) : Step Try.prog ops Q tbl w0 o := by
  refine Step.value hw fun a w hb hk => ⟨.int k n, ?_, fun d h => by rw [hd d h]; rfl⟩
  have h1 : a.eval (.tmp s) = .pointer (some ⟨B, j, none⟩) := by
    have := hk s (looks_op (by rw [ho]; simp [Op.operands]))
    rwa [hs] at this
  have h2 : w.cell? ⟨B, j, none⟩ = some (.int k n) := by rw [hb.cell (p := ⟨B, j, none⟩) hl]; exact hB
  have ha : ∀ w : World, (isAgg t).run Try.prog w = .ok false w := fun w => by unfold isAgg; rw [Sem.run_bind, run_underlying ht w]; rfl
  simp only [execOp, ho, h1]
  simp [go_sem, h2, ha]
theorem Step.loadS {t s B j : Nat} {z : ByteArray} (hw : Wants tbl ops o) (ho : o.op = .load t (.tmp s)) (hs : get tbl s = Ent.is (.pointer (some ⟨B, j, none⟩))) (ht : Try.prog.underlying t = some .string) (hl : B < w0.heap.size) (hB : w0.cell? ⟨B, j, none⟩ = some (.string z)) (hd : ∀ d, o.dst = some d → get tbl d = Ent.is (.string z)) : Step Try.prog ops Q tbl w0 o := by
  refine Step.value hw fun a w hb hk => ⟨.string z, ?_, fun d h => by rw [hd d h]; rfl⟩
  have h1 : a.eval (.tmp s) = .pointer (some ⟨B, j, none⟩) := by
    have := hk s (looks_op (by rw [ho]; simp [Op.operands]))
    rwa [hs] at this
  have h2 : w.cell? ⟨B, j, none⟩ = some (.string z) := by rw [hb.cell (p := ⟨B, j, none⟩) hl]; exact hB
  have ha : ∀ w : World, (isAgg t).run Try.prog w = .ok false w := fun w => by unfold isAgg; rw [Sem.run_bind, run_underlying ht w]; rfl
  simp only [execOp, ho, h1]
  simp [go_sem, h2, ha]
theorem At.lt {w : World} {B : Nat} {k i : Int} {z : ByteArray} (h : At w B k i z) : B < w.heap.size := lt_of_block h
theorem eql_int (t : TypeId) (k : IntKind) (x y : Int) (_ht : Try.prog.underlying t = some (.int k)) (w : World) : (binOp .eql t (.int k x) (.int k y)).run Try.prog w = .ok (.bool (x == y)) w := by
  simp [go_sem]
theorem eql_bool (x y : Bool) (w : World) : (binOp .eql 4 (.bool x) (.bool y)).run Try.prog w = .ok (.bool (x == y)) w := by
  simp [go_sem]
end Go.Proofs.Ytkcpfgjkplailaa.V
/- Steps of a region that draws its order: the parts of a value in a row; one number of 64 bits, laid into new memory; a difference. -/
namespace Go.Proofs.Ytkcpfgjkplailaa.V
set_option linter.unusedVariables false
open Go.RowKit
variable {ops : Array Oper} {Q : Exit → Act → World → Prop} {tbl : List (Nat × Ent)} {w0 : World} {o : Oper}

theorem Step.fieldP {s g j i : Nat} (hw : Wants tbl ops o) (ho : o.op = .fieldAddr 42 (.tmp s) i) (hs : get tbl s = Ent.is (.pointer (some ⟨g, j, none⟩))) (hi : i < 3) (hd : ∀ d, o.dst = some d → get tbl d = Ent.is (.pointer (some ⟨g, j + i, none⟩))) : Step Try.prog ops Q tbl w0 o := by
  refine Step.value hw fun a w hb hk => ⟨.pointer (some ⟨g, j + i, none⟩), ?_, fun d h => by rw [hd d h]; rfl⟩
  have h1 : a.eval (.tmp s) = .pointer (some ⟨g, j, none⟩) := by
    have := hk s (looks_op (by rw [ho]; simp [Op.operands]))
    rwa [hs] at this
  simp only [execOp, ho, h1]
  match i, hi with
  | 0, _ => simp [go_sem]
  | 1, _ => simp [go_sem]
  | 2, _ => simp [go_sem]
theorem sub_of {t : TypeId} {x y d : Int} (h : wrap64 (x - y) = d) (w : World) : (binOp .sub t (.int .i64 x) (.int .i64 y)).run Try.prog w = .ok (.int .i64 d) w := by
  have e : wrap64 (x - y) = IntKind.i64.wrap (x - y) := by rw [IntKind.wrap_i64]; unfold wrap64; omega
  rw [← h, e]
  simp [go_sem]
theorem wrap_in {n : Int} (h : -9223372036854775808 ≤ n ∧ n ≤ 9223372036854775807) : wrap64 n = n := IntWalk.wrap64_in n h
def Ent.slU (k : Nat) (l : List Nat) : Ent := ⟨fun v w => ∃ a c, v = .slice a k c ∧ Sl w .u64 a k c (ints l), fun hb ⟨a, c, h1, h2⟩ => ⟨a, c, h1, h2.below hb⟩⟩
theorem build_oneU (w : World) (n : Int) : (Instr.buildSlice 36 1 #[(0, .int .u64 n)]).run Try.prog w = .ok (.slice (some ⟨w.heap.size, 0, none⟩) 1 1) (w.alloc (.cells #[.int .u64 n] 48)) := by
  simp [go_sem]
theorem Step.oneU {s : Nat} {z : Nat} (hw : Wants tbl ops o) (ho : o.op = .buildSlice 36 1 #[(0, .tmp s)]) (hs : get tbl s = Ent.is (.int .u64 (z : Int))) (hd : ∀ d, o.dst = some d → get tbl d = Ent.slU 1 [z]) : Step Try.prog ops Q tbl w0 o := by
  refine Step.run hw fun a w hb hk => ⟨.slice (some ⟨w.heap.size, 0, none⟩) 1 1, w.alloc (.cells #[.int .u64 (z : Int)] 48), ?_, (Below.refl _ _).alloc (Nat.le_refl _) _, fun d h => ?_⟩
  · have h1 : a.eval (.tmp s) = .int .u64 (z : Int) := by
      have := hk s (looks_op (by rw [ho]; simp [Op.operands]))
      rwa [hs] at this
    simp only [execOp, ho]
    simp [h1, build_oneU]
  · rw [hd d h]
    exact ⟨_, _, rfl, Sl.one w 48 .u64 (z : Int)⟩
end Go.Proofs.Ytkcpfgjkplailaa.V

/- Steps: what sets tell, and are joined to. -/
import Derived.Test.YtlbchdlokimpfaaV26
import Derived.Test.YtlbchdlokimpfaaBR
namespace Go.Proofs.Ytlbchdlokimpfaa
set_option linter.unusedVariables false
open Go.RowKit
/-- A set in a block. -/
def Here (w : World) (b : Nat) (v : Value) (ra : Nat) (bs : List Bool) : Prop := ∃ x y, v = .agg #[x, y] ∧ AtS w b x y ∧ SetAt w v ra bs
theorem Here.below {w w' : World} {b : Nat} {v : Value} {ra : Nat} {bs : List Bool} (h : Here w b v ra bs) (hb : Below w.heap.size w w') : Here w' b v ra bs := by
  obtain ⟨x, y, h1, h2, h3⟩ := h
  exact ⟨x, y, h1, h2.below hb, h3.below hb⟩
theorem Here.set {w : World} {b : Nat} {v : Value} {ra : Nat} {bs : List Bool} (h : Here w b v ra bs) : SetAt w v ra bs := by
  obtain ⟨x, y, h1, h2, h3⟩ := h
  exact h3
end Go.Proofs.Ytlbchdlokimpfaa
namespace Go.Proofs.Ytlbchdlokimpfaa.V
set_option linter.unusedVariables false
open Go.RowKit
/-- No other operation behind it writes the slot. -/
def once (l : List Oper) (jx d : Nat) : Bool := (List.range l.length).all fun i => i == jx || waits l.toArray l.length jx i || (l[i]?).bind (·.dst) != some d
theorem once_get {l : List Oper} {jx d : Nat} (h : once l jx d = true) {i : Nat} {o : Oper} (ho : l[i]? = some o) (hw : waits l.toArray l.length jx i = false) (hne : i ≠ jx) : o.dst ≠ some d := by
  intro hd
  have hi : i < l.length := (List.getElem?_eq_some_iff.1 ho).1
  have h1 := List.all_eq_true.1 h i (List.mem_range.2 hi)
  rw [ho, hw] at h1
  simp [hne, hd] at h1
section
variable {ops : Array Oper} {Q : Exit → Act → World → Prop} {tbl : List (Nat × Ent)} {w0 : World} {o : Oper}
theorem Step.ldH {s B ra : Nat} {v : Value} {bs : List Bool} (hw : Wants tbl ops o) (ho : o.op = .load 28 (.tmp s)) (hs : get tbl s = Ent.is (.pointer (some ⟨B, 0, none⟩))) (hB : Here w0 B v ra bs) (hd : ∀ d, o.dst = some d → get tbl d = Ent.is v) : Step Try.prog ops Q tbl w0 o := by
  obtain ⟨x, y, rfl, h1, h2⟩ := hB
  exact Step.ldS hw ho hs h1 hd
theorem Step.listS {s ra B : Nat} {tb : Nat → Int} {bs : List Bool} (hw : Wants tbl ops o) (ho : o.op = .call { callee := .value (.func 26), args := #[.tmp s], argTypes := #[28] }) (hs : get tbl s = Ent.set B ra bs) (hT : TabAt w0 tb) (hd : ∀ d, o.dst = some d → get tbl d = Ent.slI (Z.ls bs).length (Z.nums (Z.tz tb) ra bs)) : Step Try.prog ops Q tbl w0 o := by
  refine Step.callR hw ho Try.func26 (by kernel_rfl) rfl fun wa v1 hwa e1 => ?_
  rw [hs] at e1
  refine (list_any tb _ ra bs _ e1.1 (hT.below hwa)).mono ?_
  rintro e wb ⟨a, c, rfl, hsl, hb⟩
  exact ⟨_, rfl, hb, fun d h => by rw [hd d h]; exact ⟨a, c, rfl, hsl⟩⟩
theorem Step.listV {s ra : Nat} {v : Value} {tb : Nat → Int} {bs : List Bool} (hw : Wants tbl ops o) (ho : o.op = .call { callee := .value (.func 26), args := #[.tmp s], argTypes := #[28] }) (hs : get tbl s = Ent.is v) (hv : SetAt w0 v ra bs) (hT : TabAt w0 tb) (hd : ∀ d, o.dst = some d → get tbl d = Ent.slI (Z.ls bs).length (Z.nums (Z.tz tb) ra bs)) : Step Try.prog ops Q tbl w0 o := by
  refine Step.callR hw ho Try.func26 (by kernel_rfl) rfl fun wa v1 hwa e1 => ?_
  rw [hs] at e1
  obtain rfl : v1 = v := e1
  refine (list_any tb _ ra bs _ (hv.below hwa) (hT.below hwa)).mono ?_
  rintro e wb ⟨a, c, rfl, hsl, hb⟩
  exact ⟨_, rfl, hb, fun d h => by rw [hd d h]; exact ⟨a, c, rfl, hsl⟩⟩
theorem Step.notS {s ra B : Nat} {bs : List Bool} (hw : Wants tbl ops o) (ho : o.op = .call { callee := .value (.func 23), args := #[.tmp s], argTypes := #[28] }) (hs : get tbl s = Ent.set B ra bs) (h1 : 1 ≤ ra) (h3 : ra ≤ 3) (hd : ∀ d, o.dst = some d → get tbl d = Ent.set w0.heap.size ra (Z.nt bs)) : Step Try.prog ops Q tbl w0 o := by
  refine Step.callR hw ho Try.func23 (by kernel_rfl) rfl fun wa v1 hwa e1 => ?_
  rw [hs] at e1
  refine (notset_any _ ra bs _ e1.1 h1 h3).mono ?_
  rintro e wb ⟨s2, rfl, hs1, hs2, hs3⟩
  exact ⟨_, rfl, hs3, fun d h => by rw [hd d h]; exact ⟨hs1, hs2.mono hwa.size⟩⟩
theorem Step.notV {s ra : Nat} {v : Value} {bs : List Bool} (hw : Wants tbl ops o) (ho : o.op = .call { callee := .value (.func 23), args := #[.tmp s], argTypes := #[28] }) (hs : get tbl s = Ent.is v) (hv : SetAt w0 v ra bs) (h1 : 1 ≤ ra) (h3 : ra ≤ 3) (hd : ∀ d, o.dst = some d → get tbl d = Ent.set w0.heap.size ra (Z.nt bs)) : Step Try.prog ops Q tbl w0 o := by
  refine Step.callR hw ho Try.func23 (by kernel_rfl) rfl fun wa v1 hwa e1 => ?_
  rw [hs] at e1
  obtain rfl : v1 = v := e1
  refine (notset_any _ ra bs _ (hv.below hwa) h1 h3).mono ?_
  rintro e wb ⟨s2, rfl, hs1, hs2, hs3⟩
  exact ⟨_, rfl, hs3, fun d h => by rw [hd d h]; exact ⟨hs1, hs2.mono hwa.size⟩⟩
theorem Step.ints {s s2 n : Nat} {l l2 : List Int} (hw : Wants tbl ops o) (ho : o.op = .call { callee := .value (.func 25), args := #[.tmp s, .tmp s2], argTypes := #[22, 22] }) (hs : get tbl s = Ent.slI n l) (hs2 : get tbl s2 = Ent.slI n l2) (he : l = l2) (hn : n ≤ 1099511627776) (hd : ∀ d, o.dst = some d → get tbl d = Ent.is (.bool true)) : Step Try.prog ops Q tbl w0 o := by
  refine Step.callR2 hw ho Try.func25 (by kernel_rfl) rfl fun wa v1 v2 hwa e1 e2 => ?_
  rw [hs] at e1
  rw [hs2] at e2
  obtain ⟨a1, c1, rfl, f1⟩ := e1
  obtain ⟨a2, c2, rfl, f2⟩ := e2
  subst he
  refine (ints_yes _ _ _ _ _ l _ f1 f2 hn).mono ?_
  rintro e wb ⟨rfl, hb⟩
  exact ⟨_, rfl, hb, fun d h => by rw [hd d h]; rfl⟩
/-- What is known of a set that is handed on. -/
def IsSet (e : Ent) (w0 : World) (ra : Nat) (bs : List Bool) : Prop := ∀ (w : World) (v : Value), Below w0.heap.size w0 w → e.p v w → SetAt w v ra bs
theorem IsSet.is {w0 : World} {v : Value} {ra : Nat} {bs : List Bool} (h : SetAt w0 v ra bs) : IsSet (Ent.is v) w0 ra bs := fun w v' hb e => by obtain rfl : v' = v := e; exact h.below hb
theorem IsSet.set {w0 : World} {B ra : Nat} {bs : List Bool} : IsSet (Ent.set B ra bs) w0 ra bs := fun w v' hb e => e.1
theorem Step.or {s s2 ra rb : Nat} {e1 e2 : Ent} {ba bb : List Bool} (hw : Wants tbl ops o) (ho : o.op = .call { callee := .value (.func 21), args := #[.tmp s, .tmp s2], argTypes := #[28, 28] }) (hs : get tbl s = e1) (hs2 : get tbl s2 = e2) (h1 : IsSet e1 w0 ra ba) (h2 : IsSet e2 w0 rb bb) (hl : ba.length = bb.length) (g1 : 1 ≤ ra) (g3 : ra ≤ 3) (hd : ∀ d, o.dst = some d → get tbl d = Ent.laid w0.heap.size ra (Z.orr ba bb)) : Step Try.prog ops Q tbl w0 o := by
  refine Step.callR2 hw ho Try.func21 (by kernel_rfl) rfl fun wa v1 v2 hwa f1 f2 => ?_
  rw [hs] at f1
  rw [hs2] at f2
  refine (or_any v1 v2 ra rb ba bb wa (h1 wa v1 hwa f1) (h2 wa v2 hwa f2) hl g1 g3).mono ?_
  rintro e wb ⟨s, rfl, hs1, hs2, hs3⟩
  exact ⟨_, rfl, hs3, fun d h => by rw [hd d h]; exact ⟨s, rfl, hs1, hs2.mono hwa.size⟩⟩
theorem Step.and {s s2 ra rb : Nat} {e1 e2 : Ent} {ba bb : List Bool} (hw : Wants tbl ops o) (ho : o.op = .call { callee := .value (.func 19), args := #[.tmp s, .tmp s2], argTypes := #[28, 28] }) (hs : get tbl s = e1) (hs2 : get tbl s2 = e2) (h1 : IsSet e1 w0 ra ba) (h2 : IsSet e2 w0 rb bb) (hl : ba.length = bb.length) (g1 : 1 ≤ ra) (g3 : ra ≤ 3) (hd : ∀ d, o.dst = some d → get tbl d = Ent.laid w0.heap.size ra (Z.an ba bb)) : Step Try.prog ops Q tbl w0 o := by
  refine Step.callR2 hw ho Try.func19 (by kernel_rfl) rfl fun wa v1 v2 hwa f1 f2 => ?_
  rw [hs] at f1
  rw [hs2] at f2
  refine (and_any v1 v2 ra rb ba bb wa (h1 wa v1 hwa f1) (h2 wa v2 hwa f2) hl g1 g3).mono ?_
  rintro e wb ⟨s, rfl, hs1, hs2, hs3⟩
  exact ⟨_, rfl, hs3, fun d h => by rw [hd d h]; exact ⟨s, rfl, hs1, hs2.mono hwa.size⟩⟩
theorem Sl.of_row {w : World} {base n : Nat} {ap : Option Addr} {cp : Nat} {l : List Int} (h : w.ownsRow base 3 1 (.slice ap n cp) n (l.map (Value.int .i64))) (hl : l.length = n) : Sl w .i64 ap n cp l := by
  subst hl
  obtain ⟨ao, cap, hv, hs, -⟩ := Sl.of_owns h
  injection hv with e1 _ e3
  subst e1 e3
  exact hs
theorem few_is (ao : Option Addr) (len cap : Nat) (l : List Int) (w : World) (h : Sl w .i64 ao len cap l) (hm : len ≤ 140737488355328) :
    Calls Try.prog 11 #[.slice ao len cap] w fun e w' => e = .returned (.slice ao (min len 300) cap) ∧ Sl w .i64 ao (min len 300) cap (l.take 300) ∧ w' = w := by
  refine (few_any ao len cap l w h hm).mono ?_
  rintro e w' ⟨len', rfl, hs, hle, rfl⟩
  have h1 := hs.1
  have h2 := h.1
  rw [List.length_take, h2] at h1
  have : len' = min len 300 := by omega
  subst this
  exact ⟨rfl, hs, rfl⟩
theorem Step.few {s len cap : Nat} {ao : Option Addr} {l : List Int} (hw : Wants tbl ops o) (ho : o.op = .call { callee := .value (.func 11), args := #[.tmp s], argTypes := #[22] }) (hs : get tbl s = Ent.is (.slice ao len cap)) (hv : Sl w0 .i64 ao len cap l) (hm : len ≤ 140737488355328) (hd : ∀ d, o.dst = some d → get tbl d = Ent.is (.slice ao (min len 300) cap)) : Step Try.prog ops Q tbl w0 o := by
  refine Step.callR hw ho Try.func11 (by kernel_rfl) rfl fun wa v1 hwa e1 => ?_
  rw [hs] at e1
  obtain rfl : v1 = .slice ao len cap := e1
  refine (few_is ao len cap l wa (hv.below hwa) hm).mono ?_
  rintro e wb ⟨rfl, _, rfl⟩
  exact ⟨_, rfl, Below.refl _ _, fun d h => by rw [hd d h]; rfl⟩
theorem Step.of {s s2 s3 k r len cap : Nat} {ri : Int} {ao : Option Addr} {l : List Int} (hw : Wants tbl ops o) (ho : o.op = .call { callee := .value (.func 12), args := #[.tmp s, .tmp s2, .tmp s3], argTypes := #[3, 22, 3] })
    (hs : get tbl s = Ent.is (.int .i64 (k : Int))) (hs2 : get tbl s2 = Ent.is (.slice ao len cap)) (hs3 : get tbl s3 = Ent.is (.int .i64 ri)) (hri : ri = (r : Int)) (hv : Sl w0 .i64 ao len cap l) (hl : ∀ x ∈ l, 0 ≤ x ∧ x < (k : Int)) (hm : len ≤ 1099511627776) (hk : k ≤ 4096) (h1 : 1 ≤ r) (h3 : r ≤ 3) {cs : List Bool} (hcs : Z.fo k l = cs) (hd : ∀ d, o.dst = some d → get tbl d = Ent.laid w0.heap.size r cs) : Step Try.prog ops Q tbl w0 o := by
  refine Step.callR3 hw ho Try.func12 (by kernel_rfl) rfl fun wa v1 v2 v4 hwa e1 e2 e4 => ?_
  rw [hs] at e1
  rw [hs2] at e2
  rw [hs3] at e4
  obtain rfl : v1 = .int .i64 (k : Int) := e1
  obtain rfl : v2 = .slice ao len cap := e2
  obtain rfl : v4 = .int .i64 ri := e4
  subst hri hcs
  refine (of_any k r hk h1 h3 ao len cap l wa (hv.below hwa) hl hm).mono ?_
  rintro e wb ⟨s, rfl, hs1, hs2, hs3⟩
  exact ⟨_, rfl, hs3, fun d h => by rw [hd d h]; exact ⟨s, rfl, hs1, hs2.mono hwa.size⟩⟩
theorem run_addM (w : World) (x y m : Int) (h : x + y = m) (h0 : 0 ≤ m) (h1 : m < 1099511627776) : (binOp .add 3 (.int .i64 x) (.int .i64 y)).run Try.prog w = .ok (.int .i64 m) w := by
  have e : IntKind.i64.wrap (x + y) = m := by rw [IntKind.wrap_i64]; omega
  simp [go_sem, e]
theorem run_subM (w : World) (x y m : Int) (h : x - y = m) (h0 : 0 ≤ m) (h1 : m < 1099511627776) : (binOp .sub 3 (.int .i64 x) (.int .i64 y)).run Try.prog w = .ok (.int .i64 m) w := by
  have e : IntKind.i64.wrap (x - y) = m := by rw [IntKind.wrap_i64]; omega
  simp [go_sem, e]
theorem run_eqI (w : World) (x y : Int) (h : x = y) : (binOp .eql 3 (.int .i64 x) (.int .i64 y)).run Try.prog w = .ok (.bool true) w := by
  subst h
  simp [go_sem]
theorem run_eqE (w : World) : (binOp .eql 29 (.int .i64 0) (.int .i64 0)).run Try.prog w = .ok (.bool true) w := by
  simp [go_sem]
end
end Go.Proofs.Ytlbchdlokimpfaa.V

/- Steps of a region that draws its order: a value's parts in memory. -/
import Derived.Test.YtahpbenobhodnaaV5
import Derived.Test.YtahpbenobhodnaaZ5
namespace Go.Proofs.Ytahpbenobhodnaa.V
set_option linter.unusedVariables false
open Go.RowKit

variable {ops : Array Oper} {Q : Exit → Act → World → Prop} {tbl : List (Nat × Ent)} {w0 : World} {o : Oper}

/-- The address of a part. -/
theorem Step.field {s B i : Nat} (hw : Wants tbl ops o) (ho : o.op = .fieldAddr 23 (.tmp s) i) (hs : get tbl s = Ent.is (.pointer (some ⟨B, 0, none⟩))) (hi : i < 3) (hd : ∀ d, o.dst = some d → get tbl d = Ent.is (.pointer (some ⟨B, i, none⟩))) : Step Try.prog ops Q tbl w0 o := by
  refine Step.value hw fun a w hb hk => ⟨.pointer (some ⟨B, i, none⟩), ?_, fun d h => by rw [hd d h]; rfl⟩
  have h1 : a.eval (.tmp s) = .pointer (some ⟨B, 0, none⟩) := by
    have := hk s (looks_op (by rw [ho]; simp [Op.operands]))
    rwa [hs] at this
  simp only [execOp, ho, h1]
  match i, hi with
  | 0, _ => simp [go_sem]
  | 1, _ => simp [go_sem]
  | 2, _ => simp [go_sem]
/-- A value as a whole. -/
theorem Step.loadV {s B : Nat} {k i : Int} {z : ByteArray} (hw : Wants tbl ops o) (ho : o.op = .load 23 (.tmp s)) (hs : get tbl s = Ent.is (.pointer (some ⟨B, 0, none⟩))) (hB : At w0 B k i z) (hd : ∀ d, o.dst = some d → get tbl d = Ent.is (.agg #[.int .i64 k, .int .i64 i, .string z])) : Step Try.prog ops Q tbl w0 o := by
  refine Step.value hw fun a w hb hk => ⟨.agg #[.int .i64 k, .int .i64 i, .string z], ?_, fun d h => by rw [hd d h]; rfl⟩
  have h1 : a.eval (.tmp s) = .pointer (some ⟨B, 0, none⟩) := by
    have := hk s (looks_op (by rw [ho]; simp [Op.operands]))
    rwa [hs] at this
  have h2 : At w B k i z := hB.below hb
  unfold At at h2
  unfold execOp
  simp only [ho, h1, Instr.loadAt, Instr.sureAddr, Sem.run_bind, Sem.run_pure, Result.andThen_ok, run_loadVar_row w B 23 23 _ (0, 0) _ h2 Try.underlying23 rfl (by kernel_rfl)]
/-- A part. -/
theorem Step.loadI {t s B j : Nat} {k : IntKind} {n : Int} (hw : Wants tbl ops o) (ho : o.op = .load t (.tmp s)) (hs : get tbl s = Ent.is (.pointer (some ⟨B, j, none⟩))) (ht : Try.prog.underlying t = some (.int k)) (hl : B < w0.heap.size) (hB : w0.cell? ⟨B, j, none⟩ = some (.int k n)) (hd : ∀ d, o.dst = some d → get tbl d = Ent.is (.int k n)) : Step Try.prog ops Q tbl w0 o := by
  refine Step.value hw fun a w hb hk => ⟨.int k n, ?_, fun d h => by rw [hd d h]; rfl⟩
  have h1 : a.eval (.tmp s) = .pointer (some ⟨B, j, none⟩) := by
    have := hk s (looks_op (by rw [ho]; simp [Op.operands]))
    rwa [hs] at this
  have h2 : w.cell? ⟨B, j, none⟩ = some (.int k n) := by rw [hb.cell (p := ⟨B, j, none⟩) hl]; exact hB
  have ha : ∀ w : World, (isAgg t).run Try.prog w = .ok false w := fun w => by unfold isAgg; rw [Sem.run_bind, run_underlying ht w]; rfl
  simp only [execOp, ho, h1]
  simp [go_sem, h2, ha]
theorem Step.loadS {t s B j : Nat} {z : ByteArray} (hw : Wants tbl ops o) (ho : o.op = .load t (.tmp s)) (hs : get tbl s = Ent.is (.pointer (some ⟨B, j, none⟩))) (ht : Try.prog.underlying t = some .string) (hl : B < w0.heap.size) (hB : w0.cell? ⟨B, j, none⟩ = some (.string z)) (hd : ∀ d, o.dst = some d → get tbl d = Ent.is (.string z)) : Step Try.prog ops Q tbl w0 o := by
  refine Step.value hw fun a w hb hk => ⟨.string z, ?_, fun d h => by rw [hd d h]; rfl⟩
  have h1 : a.eval (.tmp s) = .pointer (some ⟨B, j, none⟩) := by
    have := hk s (looks_op (by rw [ho]; simp [Op.operands]))
    rwa [hs] at this
  have h2 : w.cell? ⟨B, j, none⟩ = some (.string z) := by rw [hb.cell (p := ⟨B, j, none⟩) hl]; exact hB
  have ha : ∀ w : World, (isAgg t).run Try.prog w = .ok false w := fun w => by unfold isAgg; rw [Sem.run_bind, run_underlying ht w]; rfl
  simp only [execOp, ho, h1]
  simp [go_sem, h2, ha]
theorem At.lt {w : World} {B : Nat} {k i : Int} {z : ByteArray} (h : At w B k i z) : B < w.heap.size := lt_of_block h
theorem eql_int (t : TypeId) (k : IntKind) (x y : Int) (_ht : Try.prog.underlying t = some (.int k)) (w : World) : (binOp .eql t (.int k x) (.int k y)).run Try.prog w = .ok (.bool (x == y)) w := by
  simp [go_sem]
theorem eql_bool (x y : Bool) (w : World) : (binOp .eql 4 (.bool x) (.bool y)).run Try.prog w = .ok (.bool (x == y)) w := by
  simp [go_sem]
end Go.Proofs.Ytahpbenobhodnaa.V

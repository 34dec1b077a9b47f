/- Steps on the table of 256 numbers in a region that draws its order; whole numbers held against each other. -/
import Derived.Test.YtmobcabkaodjoaaH7a
namespace Go.Proofs.Ytmobcabkaodjoaa.V
set_option linter.unusedVariables false
open Go.RowKit
variable {ops : Array Oper} {Q : Exit → Act → World → Prop} {tbl : List (Nat × Ent)} {w0 : World} {o : Oper}

theorem size_u32 (w : World) : (sizeOf 23).run Try.prog w = .ok 1 w := by
  have h : (Try.prog.info? 23).map (·.size) = some 1 := by kernel_rfl
  cases hq : Try.prog.info? 23 with
  | none => rw [hq] at h; simp at h
  | some i => rw [hq] at h; simp at h; simp [sizeOf, typeInfo, hq, h]
theorem run_idx (w : World) (B : Nat) (k : IntKind) (i : Int) (h0 : 0 ≤ i) (h1 : i < 256) : (Instr.indexAt 24 (.pointer (some ⟨B, 0, none⟩)) (.int k i)).run Try.prog w = .ok (.pointer (some ⟨B, i.toNat, none⟩)) w := by
  have hl : Try.prog.arrayLen 24 = 256 := by kernel_rfl
  have he : Try.prog.elem 24 = 23 := by kernel_rfl
  have := run_indexAt_array (P := Try.prog) (w := w) 24 ⟨B, 0, none⟩ k i (by rw [hl, he]; exact Try.underlying24)
  rw [this, hl, he, if_pos ⟨h0, h1⟩, size_u32]
  simp [Addr.add]; omega
/-- Where a row of the table lies. -/
theorem Step.idx {s B : Nat} {x : Operand} {k : IntKind} {i : Int} (hw : Wants tbl ops o) (ho : o.op = .indexAddr 24 (.tmp s) x) (hs : get tbl s = Ent.is (.pointer (some ⟨B, 0, none⟩))) (hx : (∃ t, x = .tmp t) ∨ ∃ v, x = .const v) (hex : ent tbl x = Ent.is (.int k i)) (h0 : 0 ≤ i) (h1 : i < 256) (hd : ∀ d, o.dst = some d → get tbl d = Ent.is (.pointer (some ⟨B, i.toNat, none⟩))) : Step Try.prog ops Q tbl w0 o := by
  refine Step.value hw fun a w hb hk => ⟨.pointer (some ⟨B, i.toNat, none⟩), ?_, fun d h => by rw [hd d h]; rfl⟩
  have e1 : a.eval (.tmp s) = .pointer (some ⟨B, 0, none⟩) := by
    have := hk s (looks_op (by rw [ho]; simp [Op.operands]))
    rwa [hs] at this
  have e2 : a.eval x = .int k i := ent_eval hex (.inl (by rw [ho]; simp [Op.operands])) hk hx
  simp [execOp, ho, e1, e2, run_idx w B k i h0 h1]
/-- A row of the table. -/
theorem Step.row {s B i : Nat} {f : Nat → Nat} {C : Array Value} {t : TypeId} (hw : Wants tbl ops o) (ho : o.op = .load 23 (.tmp s)) (hs : get tbl s = Ent.is (.pointer (some ⟨B, i, none⟩))) (hB : w0.heap[B]? = some (.cells C t (0, 0))) (hC : Tab f C) (hi : i < 256) (hd : ∀ d, o.dst = some d → get tbl d = Ent.is (.int .u32 ((f i : Nat) : Int))) : Step Try.prog ops Q tbl w0 o := by
  refine Step.value hw fun a w hb hk => ⟨.int .u32 ((f i : Nat) : Int), ?_, fun d h => by rw [hd d h]; rfl⟩
  have e1 : a.eval (.tmp s) = .pointer (some ⟨B, i, none⟩) := by
    have := hk s (looks_op (by rw [ho]; simp [Op.operands]))
    rwa [hs] at this
  have h2 : w.heap[B]? = some (.cells C t (0, 0)) := by rw [hb.block B (lt_of_block hB)]; exact hB
  have hc := (cell_of_tab h2 hC hi).1
  simp only [execOp, ho, e1]
  simp [go_sem, hc]
/-- The table as a whole. -/
theorem Step.tab {s B : Nat} {C : Array Value} {t : TypeId} (hw : Wants tbl ops o) (ho : o.op = .load 24 (.tmp s)) (hs : get tbl s = Ent.is (.pointer (some ⟨B, 0, none⟩))) (hB : w0.heap[B]? = some (.cells C t (0, 0))) (hC : C.size = 256) (hd : ∀ d, o.dst = some d → get tbl d = Ent.is (.agg C)) : Step Try.prog ops Q tbl w0 o := by
  refine Step.value hw fun a w hb hk => ⟨.agg C, ?_, fun d h => by rw [hd d h]; rfl⟩
  have h1 : a.eval (.tmp s) = .pointer (some ⟨B, 0, none⟩) := by
    have := hk s (looks_op (by rw [ho]; simp [Op.operands]))
    rwa [hs] at this
  have h2 : w.heap[B]? = some (.cells C t (0, 0)) := by rw [hb.block B (lt_of_block hB)]; exact hB
  unfold execOp
  simp only [ho, h1, Instr.loadAt, Instr.sureAddr, Sem.run_bind, Sem.run_pure, Result.andThen_ok, run_loadVar_row w B t 24 C (0, 0) (.array 256 23) h2 Try.underlying24 rfl (by rw [hC]; exact (zero_of_info Try.infoTab).2)]
theorem eql_int (t : TypeId) (k : IntKind) (x y : Int) (_ht : Try.prog.underlying t = some (.int k)) (w : World) : (binOp .eql t (.int k x) (.int k y)).run Try.prog w = .ok (.bool (x == y)) w := by
  simp [go_sem]
theorem eql_bool (x y : Bool) (w : World) : (binOp .eql 4 (.bool x) (.bool y)).run Try.prog w = .ok (.bool (x == y)) w := by
  simp [go_sem]
theorem xor_int (t : TypeId) (k : IntKind) (x y : Int) (w : World) : (binOp .xor t (.int k x) (.int k y)).run Try.prog w = .ok (.int k (bits .xor k x y)) w := by
  simp [go_sem]
end Go.Proofs.Ytmobcabkaodjoaa.V

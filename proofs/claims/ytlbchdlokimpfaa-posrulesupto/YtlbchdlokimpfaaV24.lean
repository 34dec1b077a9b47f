/- Steps on sets, and on questions and numbers that functions tell, in a region that draws its order. -/
import Derived.Test.YtlbchdlokimpfaaBI
namespace Go.Proofs.Ytlbchdlokimpfaa.V
set_option linter.unusedVariables false
open Go.RowKit
variable {ops : Array Oper} {Q : Exit → Act → World → Prop} {tbl : List (Nat × Ent)} {w0 : World} {o : Oper}
/-- A question; numbers that are told. -/
def Ent.ask (f : Nat → Bool) (n : Nat) : Ent := ⟨fun v w => Asks v w f n, fun hb h => h.below hb⟩
def Ent.tells (ps : List Int) : Ent := ⟨fun v w => GivesR v w ps, fun hb h => h.below hb⟩
theorem Step.fieldS {s B i : Nat} (hw : Wants tbl ops o) (ho : o.op = .fieldAddr 28 (.tmp s) i) (hs : get tbl s = Ent.is (.pointer (some ⟨B, 0, none⟩))) (hi : i < 2) (hd : ∀ d, o.dst = some d → get tbl d = Ent.is (.pointer (some ⟨B, i, none⟩))) : Step Try.prog ops Q tbl w0 o := by
  refine Step.value hw fun a w hb hk => ⟨_, ?_, fun d h => by rw [hd d h]; rfl⟩
  have h1 : a.eval (.tmp s) = .pointer (some ⟨B, 0, none⟩) := by
    have := hk s (looks_op (by rw [ho]; simp [Op.operands]))
    rwa [hs] at this
  have h2 : i = 0 ∨ i = 1 := by omega
  rcases h2 with rfl | rfl <;> (simp only [execOp, ho, h1]; simp [go_sem])
theorem Step.ldI {s B j : Nat} {n : Int} (hw : Wants tbl ops o) (ho : o.op = .load 3 (.tmp s)) (hs : get tbl s = Ent.is (.pointer (some ⟨B, j, none⟩))) (hl : B < w0.heap.size) (hB : w0.cell? ⟨B, j, none⟩ = some (.int .i64 n)) (hd : ∀ d, o.dst = some d → get tbl d = Ent.is (.int .i64 n)) : Step Try.prog ops Q tbl w0 o := by
  refine Step.value hw fun a w hb hk => ⟨_, ?_, fun d h => by rw [hd d h]; rfl⟩
  have h1 : a.eval (.tmp s) = .pointer (some ⟨B, j, none⟩) := by
    have := hk s (looks_op (by rw [ho]; simp [Op.operands]))
    rwa [hs] at this
  have h2 : w.cell? ⟨B, j, none⟩ = some (.int .i64 n) := by rw [hb.cell (p := ⟨B, j, none⟩) hl]; exact hB
  simp only [execOp, ho, h1]
  simp [go_sem, h2]
theorem Step.ldS {s B : Nat} {x y : Value} (hw : Wants tbl ops o) (ho : o.op = .load 28 (.tmp s)) (hs : get tbl s = Ent.is (.pointer (some ⟨B, 0, none⟩))) (hB : AtS w0 B x y) (hd : ∀ d, o.dst = some d → get tbl d = Ent.is (.agg #[x, y])) : Step Try.prog ops Q tbl w0 o := by
  refine Step.value hw fun a w hb hk => ⟨_, ?_, fun d h => by rw [hd d h]; rfl⟩
  have h1 : a.eval (.tmp s) = .pointer (some ⟨B, 0, none⟩) := by
    have := hk s (looks_op (by rw [ho]; simp [Op.operands]))
    rwa [hs] at this
  have h2 := (hB.below hb).cells
  simp only [execOp, ho, h1]
  simp [go_sem, h2.1, h2.2]
theorem Step.has {s : Nat} {v : Value} (hw : Wants tbl ops o) (ho : o.op = .makeFunc (.func 28) #[.tmp s] #[]) (hs : get tbl s = Ent.is v) (hd : ∀ d, o.dst = some d → get tbl d = Ent.is (.func (.func 28) #[v] #[])) : Step Try.prog ops Q tbl w0 o := by
  refine Step.value hw fun a w hb hk => ⟨_, ?_, fun d h => by rw [hd d h]; rfl⟩
  have h1 : a.eval (.tmp s) = v := by
    have := hk s (looks_op (by rw [ho]; simp [Op.operands]))
    rwa [hs] at this
  have h3 := slot_of h1
  simp only [execOp, ho]
  simp [go_sem, h3]
end Go.Proofs.Ytlbchdlokimpfaa.V

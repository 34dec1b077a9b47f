/- Steps on a slice of slices in a region that draws its order. -/
import Derived.Test.YtmobcabkaodjoaaV9
namespace Go.Proofs.Ytmobcabkaodjoaa.V
set_option linter.unusedVariables false
open Go.RowKit
variable {ops : Array Oper} {Q : Exit → Act → World → Prop} {tbl : List (Nat × Ent)} {w0 : World} {o : Oper}

theorem run_atR (w : World) (g off len cap : Nat) (k : IntKind) (i : Int) (h0 : 0 ≤ i) (h1 : i < (len : Int)) : (Instr.indexAt 42 (.slice (some ⟨g, off, none⟩) len cap) (.int k i)).run Try.prog w = .ok (.pointer (some ⟨g, off + i.toNat, none⟩)) w := by
  have he : Try.prog.elem 42 = 22 := by kernel_rfl
  have hs : (sizeOf 22).run Try.prog w = .ok 1 w := by
    have h : (Try.prog.info? 22).map (·.size) = some 1 := by kernel_rfl
    cases hq : Try.prog.info? 22 with
    | none => rw [hq] at h; simp at h
    | some i => rw [hq] at h; simp at h; simp [sizeOf, typeInfo, hq, h]
  rw [run_indexAt_slice (w := w) 42 ⟨g, off, none⟩ len cap k i (by rw [he]; exact Try.underlying42), if_pos ⟨h0, h1⟩, he, hs]
  simp only [Result.andThen_ok, Nat.mul_one, Addr.add_lit]
/-- Where a slice of a slice of slices lies. -/
theorem Step.atR {s g off len cap : Nat} {x : Operand} {k : IntKind} {i : Int} (hw : Wants tbl ops o) (ho : o.op = .indexAddr 42 (.tmp s) x) (hs : get tbl s = Ent.is (.slice (some ⟨g, off, none⟩) len cap)) (hx : (∃ t, x = .tmp t) ∨ ∃ v, x = .const v) (hex : ent tbl x = Ent.is (.int k i)) (h0 : 0 ≤ i) (h1 : i < (len : Int)) (hd : ∀ d, o.dst = some d → get tbl d = Ent.is (.pointer (some ⟨g, off + i.toNat, none⟩))) : Step Try.prog ops Q tbl w0 o := by
  refine Step.value hw fun a w hb hk => ⟨.pointer (some ⟨g, off + i.toNat, none⟩), ?_, fun d h => by rw [hd d h]; rfl⟩
  have e1 : a.eval (.tmp s) = .slice (some ⟨g, off, none⟩) len cap := by
    have := hk s (looks_op (by rw [ho]; simp [Op.operands]))
    rwa [hs] at this
  have e2 : a.eval x = .int k i := ent_eval hex (.inl (by rw [ho]; simp [Op.operands])) hk hx
  simp [execOp, ho, e1, e2, run_atR w g off len cap k i h0 h1]
theorem Step.ldR {s g i : Nat} {a1 : Option Addr} {n c : Nat} (hw : Wants tbl ops o) (ho : o.op = .load 22 (.tmp s)) (hs : get tbl s = Ent.is (.pointer (some ⟨g, i, none⟩))) (hg : g < w0.heap.size) (hc : w0.cell? ⟨g, i, none⟩ = some (.slice a1 n c)) (hd : ∀ d, o.dst = some d → get tbl d = Ent.is (.slice a1 n c)) : Step Try.prog ops Q tbl w0 o := by
  refine Step.value hw fun a w hb hk => ⟨.slice a1 n c, ?_, fun d h => by rw [hd d h]; rfl⟩
  have e1 : a.eval (.tmp s) = .pointer (some ⟨g, i, none⟩) := by
    have := hk s (looks_op (by rw [ho]; simp [Op.operands]))
    rwa [hs] at this
  have hc2 : w.cell? ⟨g, i, none⟩ = some (.slice a1 n c) := by rw [hb.cell (p := ⟨g, i, none⟩) hg]; exact hc
  simp only [execOp, ho, e1]
  simp [go_sem, hc2]
end Go.Proofs.Ytmobcabkaodjoaa.V

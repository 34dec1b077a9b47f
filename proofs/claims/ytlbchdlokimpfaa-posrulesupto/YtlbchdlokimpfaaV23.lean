/- Steps on words of bits, in a region that draws its order. -/
import Derived.Test.YtlbchdlokimpfaaTB
namespace Go.Proofs.Ytlbchdlokimpfaa.V
set_option linter.unusedVariables false
open Go.RowKit
variable {ops : Array Oper} {Q : Exit → Act → World → Prop} {tbl : List (Nat × Ent)} {w0 : World} {o : Oper}
theorem Step.ldB {s g i : Nat} {ao : Option Addr} {n c : Nat} (hw : Wants tbl ops o) (ho : o.op = .load 79 (.tmp s)) (hs : get tbl s = Ent.is (.pointer (some ⟨g, i, none⟩))) (hg : g < w0.heap.size) (hc : w0.cell? ⟨g, i, none⟩ = some (.slice ao n c)) (hd : ∀ d, o.dst = some d → get tbl d = Ent.is (.slice ao n c)) : Step Try.prog ops Q tbl w0 o := by
  refine Step.value hw fun a w hb hk => ⟨_, ?_, fun d h => by rw [hd d h]; rfl⟩
  have e1 : a.eval (.tmp s) = .pointer (some ⟨g, i, none⟩) := by
    have := hk s (looks_op (by rw [ho]; simp [Op.operands]))
    rwa [hs] at this
  have hc2 : w.cell? ⟨g, i, none⟩ = some (.slice ao n c) := by rw [hb.cell (p := ⟨g, i, none⟩) hg]; exact hc
  simp only [execOp, ho, e1]
  simp [go_sem, hc2]
theorem Step.ldW {s g i : Nat} {n : Int} (hw : Wants tbl ops o) (ho : o.op = .load 87 (.tmp s)) (hs : get tbl s = Ent.is (.pointer (some ⟨g, i, none⟩))) (hg : g < w0.heap.size) (hc : w0.cell? ⟨g, i, none⟩ = some (.int .u64 n)) (hd : ∀ d, o.dst = some d → get tbl d = Ent.is (.int .u64 n)) : Step Try.prog ops Q tbl w0 o := by
  refine Step.value hw fun a w hb hk => ⟨_, ?_, fun d h => by rw [hd d h]; rfl⟩
  have e1 : a.eval (.tmp s) = .pointer (some ⟨g, i, none⟩) := by
    have := hk s (looks_op (by rw [ho]; simp [Op.operands]))
    rwa [hs] at this
  have hc2 : w.cell? ⟨g, i, none⟩ = some (.int .u64 n) := by rw [hb.cell (p := ⟨g, i, none⟩) hg]; exact hc
  simp only [execOp, ho, e1]
  simp [go_sem, hc2]
theorem Step.idxW {s x g off len cap i : Nat} (hw : Wants tbl ops o) (ho : o.op = .indexAddr 79 (.tmp s) (.tmp x)) (hs : get tbl s = Ent.is (.slice (some ⟨g, off, none⟩) len cap)) (hx : get tbl x = Ent.is (.int .i64 (i : Int))) (h1 : i < len) (hd : ∀ d, o.dst = some d → get tbl d = Ent.is (.pointer (some ⟨g, off + i, none⟩))) : Step Try.prog ops Q tbl w0 o := by
  refine Step.value hw fun a w hb hk => ⟨.pointer (some ⟨g, off + i, none⟩), ?_, fun d h => by rw [hd d h]; rfl⟩
  have e1 : a.eval (.tmp s) = .slice (some ⟨g, off, none⟩) len cap := by
    have := hk s (looks_op (by rw [ho]; simp [Op.operands]))
    rwa [hs] at this
  have e2 : a.eval (.tmp x) = .int .i64 (i : Int) := by
    have := hk x (looks_op (by rw [ho]; simp [Op.operands]))
    rwa [hx] at this
  have h2 : (i : Int) < (len : Int) := by omega
  simp only [execOp, ho, e1, e2]
  simp [go_sem, h2]
theorem run_quo64 (w : World) (a : Nat) (h : a < 1099511627776) : (binOp .quo 3 (.int .i64 (a : Int)) (.int .i64 64)).run Try.prog w = .ok (.int .i64 ((a / 64 : Nat) : Int)) w := by
  have h1 : (a : Int) < 1099511627776 := by omega
  simp [go_sem]
  rw [IntKind.wrap_i64]
  omega
theorem run_rem64 (w : World) (a : Nat) (h : a < 1099511627776) : (binOp .rem 3 (.int .i64 (a : Int)) (.int .i64 64)).run Try.prog w = .ok (.int .i64 ((a % 64 : Nat) : Int)) w := by
  simp [go_sem]
  exact Int.tmod_eq_emod_of_nonneg (by omega)
theorem run_shl1 (w : World) (t : Nat) (h : t < 64) : (binOp .shl 87 (.int .u64 1) (.int .i64 (t : Int))).run Try.prog w = .ok (.int .u64 ((2 ^ t : Nat) : Int)) w := by
  have h2 : (2 : Nat) ^ t < 2 ^ 64 := Nat.pow_lt_pow_right (by decide) h
  rw [binOp_shl, shift_shl .u64 .i64 1 (t : Int) (by omega) (by simp [IntKind.bits]; omega)]
  simp only [Int.one_mul, Int.toNat_natCast, IntKind.wrap_u64, Sem.run_pure]
  have h3 : ((2 : Int) ^ t) = ((2 ^ t : Nat) : Int) := by simp
  rw [h3]
  obtain ⟨p, hp⟩ : ∃ p, 2 ^ t = p := ⟨_, rfl⟩
  rw [hp] at h2 ⊢
  have : (p : Int) % 18446744073709551616 = (p : Int) := by omega
  rw [this]
theorem run_or64 (w : World) (x y : Nat) (hx : x < 18446744073709551616) (hy : y < 18446744073709551616) : (binOp .or 87 (.int .u64 (x : Int)) (.int .u64 (y : Int))).run Try.prog w = .ok (.int .u64 ((x ||| y : Nat) : Int)) w := by
  have := bits_or_u64_nat x y hx hy
  simp [go_sem, this]
end Go.Proofs.Ytlbchdlokimpfaa.V

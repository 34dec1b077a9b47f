/- More steps on values in a region that draws its order; what was split is joined as it was. -/
import Derived.Test.YtbgofbajihdjdaaT5
import Derived.Test.YtbgofbajihdjdaaV14
namespace Go.Proofs.Ytbgofbajihdjdaa
set_option linter.unusedVariables false
open Go.RowKit

/-- A value, but that what is nothing has nothing else. -/
def Z.bare (x : Z.V) : Z.V := if x.k == 0 then Z.z0 else x
theorem joinV_split : ∀ l : List Z.V, joinV (nus l) (oth l) = l.map Z.bare
  | [] => rfl
  | x :: l => by
    have ih := joinV_split l
    cases hk : (x.k == 0) with
    | true =>
      have h1 : nus (x :: l) = true :: nus l := by simp [nus, hk]
      have h2 : oth (x :: l) = oth l := by simp [oth, hk]
      rw [h1, h2, joinV, ih]
      simp [Z.bare, hk]
    | false =>
      have h1 : nus (x :: l) = false :: nus l := by simp [nus, hk]
      have h2 : oth (x :: l) = x :: oth l := by simp [oth, hk]
      rw [h1, h2]
      show (x :: oth l).getD 0 Z.z0 :: joinV (nus l) ((x :: oth l).drop 1) = _
      rw [show (x :: oth l).drop 1 = oth l from rfl, ih]
      simp [Z.bare, hk]
theorem anyN_oth (l : List Z.V) : anyN (oth l) = false := by
  unfold anyN oth
  rw [List.any_eq_false]
  intro x hx
  have := (List.mem_filter.1 hx).2
  simpa using this
theorem joinOk_split (l : List Z.V) : joinOk (nus l) (oth l) = true := by
  unfold joinOk
  rw [anyN_oth, cntT_oth, nus_length]
  simp
namespace V
variable {ops : Array Oper} {Q : Exit → Act → World → Prop} {tbl : List (Nat × Ent)} {w0 : World} {o : Oper}
/-- The first part's place. -/
theorem Step.field0 {s g j : Nat} (hw : Wants tbl ops o) (ho : o.op = .fieldAddr 44 (.tmp s) 0) (hs : get tbl s = Ent.is (.pointer (some ⟨g, j, none⟩))) (hd : ∀ d, o.dst = some d → get tbl d = Ent.is (.pointer (some ⟨g, j, none⟩))) : Step Try.prog ops Q tbl w0 o := by
  refine Step.value hw fun a w hb hk => ⟨.pointer (some ⟨g, j, none⟩), ?_, fun d h => by rw [hd d h]; rfl⟩
  have e1 : a.eval (.tmp s) = .pointer (some ⟨g, j, none⟩) := by
    have := hk s (looks_op (by rw [ho]; simp [Op.operands]))
    rwa [hs] at this
  simp only [execOp, ho, e1]
  simp [go_sem]
theorem Step.zeroV (hw : Wants tbl ops o) (ho : o.op = .build 44 #[]) (hd : ∀ d, o.dst = some d → get tbl d = Ent.is (.agg #[.int .i64 0, .int .i64 0, .string ⟨#[]⟩])) : Step Try.prog ops Q tbl w0 o := by
  refine Step.value hw fun a w hb hk => ⟨.agg #[.int .i64 0, .int .i64 0, .string ⟨#[]⟩], ?_, fun d h => by rw [hd d h]; rfl⟩
  simp only [execOp, ho]
  simp [go_sem]
end V
end Go.Proofs.Ytbgofbajihdjdaa

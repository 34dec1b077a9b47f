/- Parts of slices in a region that draws its order. -/
import Derived.Test.YtahpbenobhodnaaV2
import Derived.Test.YtahpbenobhodnaaG3
namespace Go.Proofs.Ytahpbenobhodnaa.V
set_option linter.unusedVariables false
open Go.RowKit
variable {ops : Array Oper} {Q : Exit → Act → World → Prop} {tbl : List (Nat × Ent)} {w0 : World} {o : Oper}

theorem size_u8 (w : World) : (sizeOf 5).run Try.prog w = .ok 1 w := by
  obtain ⟨i0, hi, hz0, hz1, hz2⟩ := info_parts Try.infoU8
  simp [sizeOf, typeInfo, hi, hz1]
theorem elem_bytes : Try.prog.elem 24 = 5 := by kernel_rfl
theorem under_bytes : Try.prog.underlying 24 = some (.slice (Try.prog.elem 24)) := by rw [elem_bytes]; exact Try.underlying24

theorem Step.part {s p q i j len cap : Nat} {a0 : Option Addr} {l : List Nat} (hw : Wants tbl ops o) (ho : o.op = .slice 24 (.tmp s) (some (.tmp p)) (some (.tmp q)) none) (hs : get tbl s = Ent.is (.slice a0 len cap)) (hp : get tbl p = Ent.is (.int .i64 (i : Int))) (hq : get tbl q = Ent.is (.int .i64 (j : Int)))
    (hsl : Sl w0 .u8 a0 len cap (ints l)) (hij : i ≤ j) (hj : j ≤ len) (hd : ∀ d, o.dst = some d → get tbl d = Ent.sl (j - i) ((l.take j).drop i)) : Step Try.prog ops Q tbl w0 o := by
  refine Step.value hw fun a w hb hk => ⟨.slice (if cap = i then a0 else a0.map (·.add (i * 1))) (j - i) (cap - i), ?_, fun d h => ?_⟩
  · have h1 : a.eval (.tmp s) = .slice a0 len cap := by
      have := hk s (looks_op (by rw [ho]; simp [Op.operands]))
      rwa [hs] at this
    have h2 : a.eval (.tmp p) = .int .i64 (i : Int) := by
      have := hk p (looks_op (by rw [ho]; simp [Op.operands]))
      rwa [hp] at this
    have h3 : a.eval (.tmp q) = .int .i64 (j : Int) := by
      have := hk q (looks_op (by rw [ho]; simp [Op.operands]))
      rwa [hq] at this
    have hc := hsl.2.1
    have hr := run_slice_lh (P := Try.prog) w 24 a0 len cap under_bytes .i64 .i64 (i : Int) (j : Int) (by omega) (by omega) (by omega)
    rw [elem_bytes, size_u8] at hr
    simp only [Result.andThen_ok, Int.toNat_natCast, sliced] at hr
    simp only [execOp, ho, h1, h2, h3, Option.map_some, Option.map_none]
    have hr2 := run_sliceAt_slice (P := Try.prog) w 24 (.slice a0 len cap) (some (.int .i64 (i : Int))) (some (.int .i64 (j : Int))) none under_bytes
    simp [hr2, hr]
  · rw [hd d h]
    have := (hsl.below hb).part i j hij hj
    rw [← ints_take, ← ints_drop] at this
    exact ⟨_, _, rfl, this⟩
theorem Step.rest {s p i len cap : Nat} {a0 : Option Addr} {l : List Nat} (hw : Wants tbl ops o) (ho : o.op = .slice 24 (.tmp s) (some (.tmp p)) none none) (hs : get tbl s = Ent.is (.slice a0 len cap)) (hp : get tbl p = Ent.is (.int .i64 (i : Int)))
    (hsl : Sl w0 .u8 a0 len cap (ints l)) (hi : i ≤ len) (hd : ∀ d, o.dst = some d → get tbl d = Ent.sl (len - i) (l.drop i)) : Step Try.prog ops Q tbl w0 o := by
  refine Step.value hw fun a w hb hk => ⟨.slice (if cap = i then a0 else a0.map (·.add (i * 1))) (len - i) (cap - i), ?_, fun d h => ?_⟩
  · have h1 : a.eval (.tmp s) = .slice a0 len cap := by
      have := hk s (looks_op (by rw [ho]; simp [Op.operands]))
      rwa [hs] at this
    have h2 : a.eval (.tmp p) = .int .i64 (i : Int) := by
      have := hk p (looks_op (by rw [ho]; simp [Op.operands]))
      rwa [hp] at this
    have hr := run_slice_l (P := Try.prog) w 24 a0 len cap under_bytes .i64 (i : Int) (by omega) (by omega)
    rw [elem_bytes, size_u8] at hr
    simp only [Result.andThen_ok, Int.toNat_natCast, sliced] at hr
    simp only [execOp, ho, h1, h2, Option.map_some, Option.map_none]
    have hr2 := run_sliceAt_slice (P := Try.prog) w 24 (.slice a0 len cap) (some (.int .i64 (i : Int))) none none under_bytes
    simp [hr2, hr]
  · rw [hd d h]
    have := (hsl.below hb).part i len hi (Nat.le_refl _)
    rw [List.take_of_length_le (by rw [hsl.1]; exact Nat.le_refl _), ← ints_drop] at this
    exact ⟨_, _, rfl, this⟩
end Go.Proofs.Ytahpbenobhodnaa.V

/- A row of values cut: its head, its rest. -/
import Derived.Test.YtkcpfgjkplailaaBdF
import Derived.Test.YtkcpfgjkplailaaBdY
namespace Go.Proofs.Ytkcpfgjkplailaa
set_option linter.unusedVariables false
open Go.RowKit

theorem size_val (w : World) : (sizeOf 42).run Try.prog w = .ok 3 w := by
  have h : (Try.prog.info? 42).map (·.size) = some 3 := by kernel_rfl
  cases hq : Try.prog.info? 42 with
  | none => rw [hq] at h; simp at h
  | some i => rw [hq] at h; simp at h; simp [sizeOf, typeInfo, hq, h]
theorem elem_vals : Try.prog.elem 22 = 42 := by kernel_rfl
theorem under_vals : Try.prog.underlying 22 = some (.slice (Try.prog.elem 22)) := by rw [elem_vals]; exact Try.underlying22
theorem rest_V {w : World} {ao : Option Addr} {len cap : Nat} {l : List Z.V} (h : SlV w ao len cap l) {K : Nat} (hK : K ≤ len) : ∃ qa, SlV w qa (len - K) (cap - K) (l.drop K) ∧
    (∀ w : World, (Instr.slice 22 (.slice ao len cap) (some (.int .i64 (K : Int))) none none).run Try.prog w = .ok (.slice qa (len - K) (cap - K)) w) ∧
    (∀ w : World, (Instr.sliceAt 22 (.slice ao len cap) (some (.int .i64 (K : Int))) none none).run Try.prog w = .ok (.slice qa (len - K) (cap - K)) w) := by
  obtain ⟨h1, h2, h3, h4, h5⟩ := h
  have hr : ∀ w : World, (Instr.slice 22 (.slice ao len cap) (some (.int .i64 (K : Int))) none none).run Try.prog w = .ok (.slice (if cap = K then ao else ao.map (·.add (K * 3))) (len - K) (cap - K)) w := fun w => by
    have hr := run_slice_l (P := Try.prog) w 22 ao len cap under_vals .i64 (K : Int) (by omega) (by omega)
    rw [elem_vals, size_val] at hr
    simp only [Result.andThen_ok, Int.toNat_natCast, sliced] at hr
    exact hr
  refine ⟨_, ?_, hr, fun w => ?_⟩
  · refine ⟨by rw [List.length_drop, h1], by omega, by omega, ?_, ?_⟩
    · split
      · intro _; omega
      · intro e
        cases ao with
        | none => have := h4 rfl; omega
        | some x => simp at e
    · by_cases hc : cap = K
      · exact .inl (by omega)
      · rw [if_neg hc]
        rcases h5 with h5 | ⟨b, off, rfl, hlt, h5⟩
        · exact .inl (by omega)
        · refine .inr ⟨b, off + K * 3, by simp [Addr.add], hlt, fun j x hx => ?_⟩
          rw [List.getElem?_drop] at hx
          have h6 := h5 _ _ hx
          rw [show off + (K + j) * 3 = off + K * 3 + j * 3 by omega] at h6
          exact h6
  · rw [run_sliceAt_slice (P := Try.prog) w 22 (.slice ao len cap) (some (.int .i64 (K : Int))) none none under_vals]; exact hr w
theorem head_V {w : World} {ao : Option Addr} {len cap : Nat} {l : List Z.V} (h : SlV w ao len cap l) {K : Nat} (hK : K ≤ len) : ∃ qa, SlV w qa K cap (l.take K) ∧
    (∀ w : World, (Instr.slice 22 (.slice ao len cap) none (some (.int .i64 (K : Int))) none).run Try.prog w = .ok (.slice qa K cap) w) ∧
    (∀ w : World, (Instr.sliceAt 22 (.slice ao len cap) none (some (.int .i64 (K : Int))) none).run Try.prog w = .ok (.slice qa K cap) w) := by
  obtain ⟨h1, h2, h3, h4, h5⟩ := h
  have hr : ∀ w : World, (Instr.slice 22 (.slice ao len cap) none (some (.int .i64 (K : Int))) none).run Try.prog w = .ok (.slice (if cap = 0 then ao else ao.map (·.add (0 * 3))) K cap) w := fun w => by
    have hr := run_slice_h (P := Try.prog) w 22 ao len cap under_vals .i64 (K : Int) (by omega) (by omega)
    rw [elem_vals, size_val] at hr
    simp only [Result.andThen_ok, Int.toNat_natCast, sliced, Nat.sub_zero] at hr
    exact hr
  refine ⟨_, ?_, hr, fun w => ?_⟩
  · refine ⟨by rw [List.length_take, h1]; omega, by omega, by omega, ?_, ?_⟩
    · split
      · intro _; omega
      · intro e
        cases ao with
        | none => have := h4 rfl; omega
        | some x => simp at e
    · rcases h5 with h5 | ⟨b, off, rfl, hlt, h5⟩
      · exact .inl (by omega)
      · by_cases hK0 : K = 0
        · exact .inl hK0
        · rw [if_neg (by omega)]
          refine .inr ⟨b, off, by simp [Addr.add], hlt, fun j x hx => h5 j x ?_⟩
          by_cases hj : j < K
          · rwa [List.getElem?_take_of_lt hj] at hx
          · rw [List.getElem?_take_eq_none (by omega)] at hx; cases hx
  · rw [run_sliceAt_slice (P := Try.prog) w 22 (.slice ao len cap) none (some (.int .i64 (K : Int))) none under_vals]; exact hr w
end Go.Proofs.Ytkcpfgjkplailaa

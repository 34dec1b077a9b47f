/- The walk of the statement: whether any bits are a whole number, and which. -/
import Derived.Test.YthaeipephelmcaaN4
import Derived.Test.YthaeipephelmcaaN3
import Derived.Test.YthaeipephelmcaaRU
namespace Go.Proofs.Ythaeipephelmcaa
set_option linter.unusedVariables false
open Go.RowKit

set_option maxHeartbeats 1000000 in
theorem fltWholes_walk (M : FltKept) (w : World) (a : Int) (wa : (Lit.int .u64 a).wf = true) :
    Calls Try.prog 4 #[.int .u64 a] w fun e w' => e = .returned (.bool true) ∧ Below w.heap.size w w' := by
  obtain ⟨ha0, ha1⟩ := wf_u64 wa
  have C1 := fun w => M.whole a w ha0 ha1
  have C2 := fun w => rwhole_any a w ha0 ha1
  have S := fun w => shown_any M w
  generalize D.wh a = x at C1 C2
  generalize D.whole a = y at C1 C2
  clear wa M
  go_enter Try.func4, Try.ntmps4
  go_wp2_with fail
  refine (S _).mono ?_
  rintro e w1 ⟨rfl, rfl⟩
  go_wp2_with fail
  refine (C1 _).mono ?_
  rintro e w1 ⟨rfl, rfl⟩
  go_wp2_with fail
  refine (C2 _).mono ?_
  rintro e w1 ⟨rfl, rfl⟩
  clear C1 C2
  cases y with
  | true =>
    go_wp2_with fail
    go_ret
    exact ⟨rfl, Below.refl _ _⟩
  | false =>
    go_wp2_with fail
    go_ret
    exact ⟨rfl, Below.refl _ _⟩
end Go.Proofs.Ythaeipephelmcaa

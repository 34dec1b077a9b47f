/- The walk of the statement: there and back bits are cleaned; keys of unlike clean bits are unlike. -/
import Derived.Test.YthaeipephelmcaaN4
import Derived.Test.YthaeipephelmcaaRU
namespace Go.Proofs.Ythaeipephelmcaa
set_option linter.unusedVariables false
open Go.RowKit

set_option maxHeartbeats 1000000 in
theorem fltBack_walk (M : FltKept) (w : World) (a : Int) (wa : (Lit.int .u64 a).wf = true) (b : Int) (wb : (Lit.int .u64 b).wf = true) :
    Calls Try.prog 7 #[.int .u64 a, .int .u64 b] w fun e w' => e = .returned (.bool true) ∧ Below w.heap.size w w' := by
  obtain ⟨ha0, ha1⟩ := wf_u64 wa
  obtain ⟨hb0, hb1⟩ := wf_u64 wb
  have hk := D.ky_in (b := a) ⟨ha0, ha1⟩
  have hc := D.cl_in (b := a) ⟨ha0, ha1⟩
  have CA := fun w => M.clean a w ha0 ha1
  have CB := fun w => M.clean b w hb0 hb1
  have KA := fun w => M.key a w ha0 ha1
  have KB := fun w => M.key b w hb0 hb1
  have BA := fun w => M.bits (D.ky a) w hk.1 hk.2
  have CC := fun w => M.clean (D.cl a) w hc.1 hc.2
  have S := fun w => shown_any M w
  rw [D.bt_ky ⟨ha0, ha1⟩] at BA
  rw [D.cl_cl] at CC
  have hi := D.ky_inj (a := a) (b := b) ⟨ha0, ha1⟩ ⟨hb0, hb1⟩
  clear hk hc
  generalize D.cl a = x at CA CC BA hi
  generalize D.cl b = y at CB hi
  generalize D.ky a = k at KA BA hi
  generalize D.ky b = l at KB hi
  clear wa wb M
  go_enter Try.func7, Try.ntmps7
  go_wp2_with fail
  refine (S _).mono ?_
  rintro e w1 ⟨rfl, rfl⟩
  go_wp2_with fail
  refine (KA _).mono ?_
  rintro e w1 ⟨rfl, rfl⟩
  go_wp2_with fail
  refine (BA _).mono ?_
  rintro e w1 ⟨rfl, rfl⟩
  go_wp2_with fail
  refine (CA _).mono ?_
  rintro e w1 ⟨rfl, rfl⟩
  go_wp2_with fail
  refine (CA _).mono ?_
  rintro e w1 ⟨rfl, rfl⟩
  go_wp2_with fail
  refine (CC _).mono ?_
  rintro e w1 ⟨rfl, rfl⟩
  go_wp2_with fail
  refine (CA _).mono ?_
  rintro e w1 ⟨rfl, rfl⟩
  go_wp2_with fail
  refine (KA _).mono ?_
  rintro e w1 ⟨rfl, rfl⟩
  go_wp2_with fail
  refine (KB _).mono ?_
  rintro e w1 ⟨rfl, rfl⟩
  by_cases c : k = l
  · obtain rfl := hi.1 c
    subst c
    clear hi
    go_wp2_with fail
    refine (CA _).mono ?_
    rintro e w1 ⟨rfl, rfl⟩
    go_wp2_with fail
    refine (CB _).mono ?_
    rintro e w1 ⟨rfl, rfl⟩
    go_wp2_with fail
    go_ret
    exact ⟨rfl, Below.refl _ _⟩
  · have d : x ≠ y := fun h => c (hi.2 h)
    clear hi
    go_wp2_with fail
    refine (CA _).mono ?_
    rintro e w1 ⟨rfl, rfl⟩
    go_wp2_with fail
    refine (CB _).mono ?_
    rintro e w1 ⟨rfl, rfl⟩
    go_wp2_with fail
    go_ret
    have e1 : (k == l) = false := by simpa using c
    have e2 : (x == y) = false := by simpa using d
    exact ⟨by show Ending.returned (.bool ((k == l) == (x == y))) = _; rw [e1, e2]; rfl, Below.refl _ _⟩
end Go.Proofs.Ythaeipephelmcaa

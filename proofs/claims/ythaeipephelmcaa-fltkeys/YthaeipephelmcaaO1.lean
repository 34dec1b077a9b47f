/- The walk of the statement: bits cleaned, keys, bits of keys, and which is ahead, are the reference's. -/
import Derived.Test.YthaeipephelmcaaN4
import Derived.Test.YthaeipephelmcaaN2
import Derived.Test.YthaeipephelmcaaRU
namespace Go.Proofs.Ythaeipephelmcaa
set_option linter.unusedVariables false
open Go.RowKit

set_option maxHeartbeats 1000000 in
theorem fltKeys_walk (M : FltKept) (w : World) (a : Int) (wa : (Lit.int .u64 a).wf = true) (b : Int) (wb : (Lit.int .u64 b).wf = true) :
    Calls Try.prog 3 #[.int .u64 a, .int .u64 b] w fun e w' => e = .returned (.bool true) ∧ Below w.heap.size w w' := by
  obtain ⟨ha0, ha1⟩ := wf_u64 wa
  obtain ⟨hb0, hb1⟩ := wf_u64 wb
  have C1 := fun w => M.clean a w ha0 ha1
  have C2 := fun w => rclean_any a w ha0 ha1
  have K1 := fun w => M.key a w ha0 ha1
  have K2 := fun w => rkey_any a w ha0 ha1
  have B1 := fun w => M.bits a w ha0 ha1
  have B2 := fun w => rbits_any a w ha0 ha1
  have P1 := fun w => M.compare a b w ha0 ha1 hb0 hb1
  have P2 := fun w => rcompare_any a b w ha0 ha1 hb0 hb1
  have N1 := fun w => M.nan w
  have N2 := fun w => risnan_any 9221120237041090560 w (by omega) (by omega)
  have S := fun w => shown_any M w
  rw [D.isN_nan] at N2
  generalize D.cl a = x at C1 C2
  generalize D.ky a = y at K1 K2
  generalize D.bt a = z at B1 B2
  generalize D.cp a b = u at P1 P2
  clear wa wb M
  go_enter Try.func3, Try.ntmps3
  go_wp2_with fail
  refine (S _).mono ?_
  rintro e w1 ⟨rfl, rfl⟩
  go_wp2_with fail
  refine (C1 _).mono ?_
  rintro e w1 ⟨rfl, rfl⟩
  go_wp2_with fail
  refine (C2 _).mono ?_
  rintro e w1 ⟨rfl, rfl⟩
  go_wp2_with fail
  refine (K1 _).mono ?_
  rintro e w1 ⟨rfl, rfl⟩
  go_wp2_with fail
  refine (K2 _).mono ?_
  rintro e w1 ⟨rfl, rfl⟩
  go_wp2_with fail
  refine (B1 _).mono ?_
  rintro e w1 ⟨rfl, rfl⟩
  go_wp2_with fail
  refine (B2 _).mono ?_
  rintro e w1 ⟨rfl, rfl⟩
  go_wp2_with fail
  refine (P1 _).mono ?_
  rintro e w1 ⟨rfl, rfl⟩
  go_wp2_with fail
  refine (P2 _).mono ?_
  rintro e w1 ⟨rfl, rfl⟩
  go_wp2_with fail
  refine (N1 _).mono ?_
  rintro e w1 ⟨rfl, rfl⟩
  go_wp2_with fail
  refine (N2 _).mono ?_
  rintro e w1 ⟨rfl, rfl⟩
  go_wp2_with fail
  go_ret
  exact ⟨rfl, Below.refl _ _⟩
end Go.Proofs.Ythaeipephelmcaa

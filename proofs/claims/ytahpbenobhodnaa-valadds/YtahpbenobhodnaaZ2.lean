/- The contracts of cmp.Compare, strings.Compare at the types that val asks them at; of val's Clean, Compare, May, Add. -/
import Derived.Test.YtahpbenobhodnaaU
import Derived.Test.YtahpbenobhodnaaE2
import Derived.Test.YtahpbenobhodnaaD9
import Derived.Test.YtahpbenobhodnaaZ1
namespace Go.Proofs.Ytahpbenobhodnaa
set_option linter.unusedVariables false
open Go.RowKit

theorem nani_any (x : Int) (w : World) : Calls Try.prog 49 #[.int .i64 x] w fun e w' => e = .returned (.bool false) ∧ w' = w := by
  go_enter Try.func49, Try.ntmps49
  go_wp2
  go_ret
  exact ⟨by simp, rfl⟩
theorem nanl_any (x : Int) (w : World) : Calls Try.prog 50 #[.int .i64 x] w fun e w' => e = .returned (.bool false) ∧ w' = w := by
  go_enter Try.func50, Try.ntmps50
  go_wp2
  go_ret
  exact ⟨by simp, rfl⟩
theorem cmpi_any (x y : Int) (w : World) : Calls Try.prog 37 #[.int .i64 x, .int .i64 y] w fun e w' => e = .returned (.int .i64 (Z.ci x y)) ∧ w' = w := by
  have HC : Hid (Z.ci x y = if x < y then -1 else if y < x then 1 else 0) := by show _ = _; rfl
  go_enter Try.func37, Try.ntmps37
  go_wp2_with fail
  refine (nani_any x w).mono ?_
  rintro e w1 ⟨rfl, rfl⟩
  go_wp2_with fail
  refine (nani_any y w1).mono ?_
  rintro e w2 ⟨rfl, rfl⟩
  by_cases hl : x < y
  · go_wp2
    go_ret
    exact ⟨by rw [HC.out, if_pos hl]; rfl, rfl⟩
  · by_cases hg : y < x
    · go_wp2
      go_ret
      exact ⟨by rw [HC.out, if_neg (by omega), if_pos hg]; rfl, rfl⟩
    · go_wp2
      go_ret
      exact ⟨by rw [HC.out, if_neg (by omega), if_neg (by omega)]; rfl, rfl⟩
theorem cmpl_any (x y : Int) (w : World) : Calls Try.prog 38 #[.int .i64 x, .int .i64 y] w fun e w' => e = .returned (.int .i64 (Z.ci x y)) ∧ w' = w := by
  have HC : Hid (Z.ci x y = if x < y then -1 else if y < x then 1 else 0) := by show _ = _; rfl
  go_enter Try.func38, Try.ntmps38
  go_wp2_with fail
  refine (nanl_any x w).mono ?_
  rintro e w1 ⟨rfl, rfl⟩
  go_wp2_with fail
  refine (nanl_any y w1).mono ?_
  rintro e w2 ⟨rfl, rfl⟩
  by_cases hl : x < y
  · go_wp2
    go_ret
    exact ⟨by rw [HC.out, if_pos hl]; rfl, rfl⟩
  · by_cases hg : y < x
    · go_wp2
      go_ret
      exact ⟨by rw [HC.out, if_neg (by omega), if_pos hg]; rfl, rfl⟩
    · go_wp2
      go_ret
      exact ⟨by rw [HC.out, if_neg (by omega), if_neg (by omega)]; rfl, rfl⟩
end Go.Proofs.Ytahpbenobhodnaa

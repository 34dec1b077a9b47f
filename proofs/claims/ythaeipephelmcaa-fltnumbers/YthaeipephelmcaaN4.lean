/- The law's own 'shown'. -/
import Derived.Test.YthaeipephelmcaaRows
import Derived.WalkKit
import Derived.WalkSpells
import Derived.WalkLawsBesides
import Derived.Test.YthaeipephelmcaaM0
namespace Go.Proofs.Ythaeipephelmcaa
set_option linter.unusedVariables false
open Go.RowKit

theorem d_half : D.wh 4612811918334230528 = 0 ∧ D.whole 4612811918334230528 = false :=
  have h := D.whole_none (b := 4612811918334230528) (E := 1024) (F := 1125899906842624) (by decide) (by decide) (by omega) (by omega) (by rw [D.wl_is]; decide)
  ⟨h.2, h.1⟩
theorem d_two : D.wh 4611686018427387904 = 2 ∧ D.whole 4611686018427387904 = true :=
  have h := D.whole_some (b := 4611686018427387904) (E := 1024) (F := 0) (m := 2) (by decide) (by decide) (by omega) (by omega) (by rw [D.wl_is]; decide)
  ⟨by rw [h.2]; rfl, h.1⟩
theorem d_zeros : D.cp 9223372036854775808 0 = -1 := by decide
theorem d_nan : D.cp 9218868437227405317 9218868437227405312 = 1 := by decide
theorem shown_any (M : FltKept) (w : World) : Calls Try.prog 10 #[] w fun e w' => e = .returned (.bool true) ∧ w' = w := by
  have H1 : Hid (∀ w, Calls Try.prog 21 #[.int .u64 4612811918334230528] w fun e w' => e = .returned (.tuple #[.int .i64 0, .bool false]) ∧ w' = w) := by
    intro w; have := M.whole 4612811918334230528 w (by omega) (by omega); rwa [d_half.1, d_half.2] at this
  have H2 : Hid (∀ w, Calls Try.prog 21 #[.int .u64 4611686018427387904] w fun e w' => e = .returned (.tuple #[.int .i64 2, .bool true]) ∧ w' = w) := by
    intro w; have := M.whole 4611686018427387904 w (by omega) (by omega); rwa [d_two.1, d_two.2] at this
  have H3 : Hid (∀ w, Calls Try.prog 17 #[.int .u64 9223372036854775808, .int .u64 0] w fun e w' => e = .returned (.int .i64 (-1)) ∧ w' = w) := by
    intro w; have := M.compare 9223372036854775808 0 w (by omega) (by omega) (by omega) (by omega); rwa [d_zeros] at this
  have H4 : Hid (∀ w, Calls Try.prog 17 #[.int .u64 9218868437227405317, .int .u64 9218868437227405312] w fun e w' => e = .returned (.int .i64 1) ∧ w' = w) := by
    intro w; have := M.compare 9218868437227405317 9218868437227405312 w (by omega) (by omega) (by omega) (by omega); rwa [d_nan] at this
  clear M
  go_enter Try.func10, Try.ntmps10
  go_wp2_with fail
  refine (H1.out _).mono ?_
  rintro e w1 ⟨rfl, rfl⟩
  go_wp2_with fail
  refine (H2.out _).mono ?_
  rintro e w2 ⟨rfl, rfl⟩
  go_wp2_with fail
  refine (H3.out _).mono ?_
  rintro e w3 ⟨rfl, rfl⟩
  go_wp2_with fail
  refine (H4.out _).mono ?_
  rintro e w4 ⟨rfl, rfl⟩
  go_wp2_with fail
  go_ret
  exact ⟨rfl, rfl⟩
end Go.Proofs.Ythaeipephelmcaa

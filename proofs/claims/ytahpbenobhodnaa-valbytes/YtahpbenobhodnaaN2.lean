/- The contracts of the reference's Parts, IsNan, Clean, Key, Bits, Compare. -/
import Derived.Test.YtahpbenobhodnaaRows
import Derived.WalkKit
import Derived.WalkSpells
import Derived.WalkLawsBesides
import Derived.Test.YtahpbenobhodnaaD6
namespace Go.Proofs.Ytahpbenobhodnaa
set_option linter.unusedVariables false
open Go.RowKit

theorem rparts_any (b : Int) (w : World) (h0 : 0 ≤ b) (h1 : b < 18446744073709551616) :
    Calls Try.prog 45 #[.int .u64 b] w fun e w' => e = .returned (.tuple #[.bool (decide (9223372036854775808 ≤ b)), .int .u64 (b / 4503599627370496 % 2048), .int .u64 (b % 4503599627370496)]) ∧ w' = w := by
  go_enter Try.func45, Try.ntmps45
  go_wp2
  go_ret3
  exact ⟨rfl, rfl⟩
theorem risnan_any (b : Int) (w : World) (h0 : 0 ≤ b) (h1 : b < 18446744073709551616) :
    Calls Try.prog 53 #[.int .u64 b] w fun e w' => e = .returned (.bool (D.isN b)) ∧ w' = w := by
  go_enter Try.func53, Try.ntmps53
  go_wp2_with fail
  refine (rparts_any b w h0 h1).mono ?_
  rintro e w1 ⟨rfl, rfl⟩
  obtain ⟨E, hE⟩ : ∃ E, b / 4503599627370496 % 2048 = E := ⟨_, rfl⟩
  obtain ⟨F, hF⟩ : ∃ F, b % 4503599627370496 = F := ⟨_, rfl⟩
  rw [hE, hF]
  have hI : Hid (D.isN b = ((E == 2047) && (F != 0))) := by show _ = _; unfold D.isN; rw [hE, hF]
  clear hE hF
  cases hb : (E == 2047) with
  | false =>
    go_wp2
    go_ret
    exact ⟨by rw [hI.out, hb]; rfl, rfl⟩
  | true =>
    go_wp2
    go_ret
    exact ⟨by rw [hI.out, hb]; rfl, rfl⟩
theorem rclean_any (b : Int) (w : World) (h0 : 0 ≤ b) (h1 : b < 18446744073709551616) :
    Calls Try.prog 44 #[.int .u64 b] w fun e w' => e = .returned (.int .u64 (D.cl b)) ∧ w' = w := by
  go_enter Try.func44, Try.ntmps44
  go_wp2_with fail
  refine (risnan_any b w h0 h1).mono ?_
  rintro e w1 ⟨rfl, rfl⟩
  cases hb : D.isN b with
  | false =>
    have HC : Hid (D.cl b = b) := D.cl_num hb
    go_wp2
    go_ret
    exact ⟨by rw [HC.out]; rfl, rfl⟩
  | true =>
    have HC : Hid (D.cl b = 9221120237041090560) := D.cl_nan hb
    go_wp2
    go_ret
    exact ⟨by rw [HC.out]; rfl, rfl⟩
theorem rkey_any (b : Int) (w : World) (h0 : 0 ≤ b) (h1 : b < 18446744073709551616) :
    Calls Try.prog 27 #[.int .u64 b] w fun e w' => e = .returned (.int .u64 (D.ky b)) ∧ w' = w := by
  have hc := D.cl_in (b := b) ⟨h0, h1⟩
  go_enter Try.func27, Try.ntmps27
  go_wp2_with fail
  refine (rclean_any b w h0 h1).mono ?_
  rintro e w1 ⟨rfl, rfl⟩
  obtain ⟨c, hce⟩ : ∃ c, D.cl b = c := ⟨_, rfl⟩
  rw [hce] at hc ⊢
  have HK : Hid (D.ky b = if 9223372036854775808 ≤ c then 18446744073709551615 - c else c + 9223372036854775808) := by show _ = _; unfold D.ky; rw [hce]
  obtain ⟨hc0, hc1⟩ := hc
  clear hce
  by_cases hs : 9223372036854775808 ≤ c
  · go_wp2_with fail
    refine (rparts_any c w1 hc0 hc1).mono ?_
    rintro e w2 ⟨rfl, rfl⟩
    have hd : decide (9223372036854775808 ≤ c) = true := by simp [hs]
    rw [hd]
    go_wp2
    go_ret
    exact ⟨by rw [HK.out, if_pos hs]; rfl, rfl⟩
  · go_wp2_with fail
    refine (rparts_any c w1 hc0 hc1).mono ?_
    rintro e w2 ⟨rfl, rfl⟩
    have hd : decide (9223372036854775808 ≤ c) = false := by simp; omega
    rw [hd]
    go_wp2
    go_ret
    exact ⟨by rw [HK.out, if_neg (by omega)]; rfl, rfl⟩
theorem rbits_any (k : Int) (w : World) (h0 : 0 ≤ k) (h1 : k < 18446744073709551616) :
    Calls Try.prog 35 #[.int .u64 k] w fun e w' => e = .returned (.int .u64 (D.bt k)) ∧ w' = w := by
  by_cases hs : 9223372036854775808 ≤ k
  · have HK : Hid (D.bt k = D.cl (k - 9223372036854775808)) := by show _ = _; unfold D.bt; rw [if_pos hs]
    go_enter Try.func35, Try.ntmps35
    go_wp2_with fail
    refine (rclean_any _ w (by omega) (by omega)).mono ?_
    rintro e w1 ⟨rfl, rfl⟩
    go_wp2
    go_ret
    exact ⟨by rw [HK.out]; rfl, rfl⟩
  · have HK : Hid (D.bt k = D.cl (18446744073709551615 - k)) := by show _ = _; unfold D.bt; rw [if_neg hs]
    go_enter Try.func35, Try.ntmps35
    go_wp2_with fail
    refine (rclean_any _ w (by omega) (by omega)).mono ?_
    rintro e w1 ⟨rfl, rfl⟩
    go_wp2
    go_ret
    exact ⟨by rw [HK.out]; rfl, rfl⟩
end Go.Proofs.Ytahpbenobhodnaa

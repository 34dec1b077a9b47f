/- The contracts of crc's through, and of laidDown. -/
import Derived.Test.YtmobcabkaodjoaaE4
import Derived.Test.YtmobcabkaodjoaaK2
namespace Go.Proofs.Ytmobcabkaodjoaa
set_option linter.unusedVariables false
open Go.RowKit

theorem sts_snoc (x i : Nat) : K.sts x (List.replicate (i + 1) 0) = K.st (K.sts x (List.replicate i 0)) 0 := by
  rw [List.replicate_succ', K.sts_append]; rfl
theorem st_odd (y : Nat) (h : y % 2 = 1) : K.st y 0 = (y / 2) ^^^ 3988292384 := by unfold K.st; rw [if_neg (by omega)]; rfl
theorem st_even (y : Nat) (h : y % 2 = 0) : K.st y 0 = y / 2 := by unfold K.st; rw [if_pos h]
theorem xor_pol (y : Nat) (h : y < 4294967296) : bits .xor .u32 ((y : Int) / 2) 3988292384 = (((y / 2) ^^^ 3988292384 : Nat) : Int) := by
  have := u32_xor_nat (y / 2) 3988292384 (by omega) (by omega)
  simpa using this

set_option maxHeartbeats 400000 in
theorem through_any (n : Nat) (w : World) (hn : n < 4294967296) :
    Calls Try.prog 20 #[.int .u32 (n : Int)] w fun e w' => e = .returned (.int .u32 ((K.row n : Nat) : Int)) ∧ w' = w := by
  go_enter Try.func20, Try.ntmps20
  go_wp2_with fail
  go_loop [0, 4] (fun r i => ∃ (y k : Nat), k ≤ 8 ∧ i = .int .i64 (k : Int) ∧ r = .int .u32 (y : Int) ∧ y < 4294967296 ∧ Hid (y = K.sts n (List.replicate k 0))) (fun _ i => 8 - (intOf i).toNat)
  case atStart => exact ⟨n, 0, by omega, rfl, rfl, hn, rfl⟩
  case round =>
    obtain ⟨y, k, hk, rfl, rfl, hy, HY⟩ := hrel
    by_cases hlt : k < 8
    · have HS := hide (sts_snoc n k)
      by_cases h2 : y % 2 = 1
      · have hb : ((y : Int) % 2 == 1) = true := by simp; omega
        have HX := hide (xor_pol y hy)
        have hst := hide (st_odd y h2)
        clear h2
        go_wp2
        go_round
        case rel => exact ⟨K.st y 0, k + 1, hlt, by go_num, by rw [HX.out, hst.out], K.st_lt y 0 hy, hide (by rw [HS.out, ← HY.out])⟩
        case measure => simp [intOf]; omega
      · have hb : ((y : Int) % 2 == 1) = false := by simp; omega
        have hst := hide (st_even y (by omega))
        clear h2
        go_wp2
        go_round
        case rel => exact ⟨K.st y 0, k + 1, hlt, by go_num, by rw [hst.out]; rfl, K.st_lt y 0 hy, hide (by rw [HS.out, ← HY.out])⟩
        case measure => simp [intOf]; omega
    · obtain rfl : k = 8 := by omega
      go_wp2
      go_ret
      exact ⟨by rw [HY.out]; rfl, rfl⟩
end Go.Proofs.Ytmobcabkaodjoaa

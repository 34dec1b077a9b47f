/- The contracts of the reference's step, Row, Sum, Other. -/
import Derived.Test.YtmobcabkaodjoaaH3
namespace Go.Proofs.Ytmobcabkaodjoaa
set_option linter.unusedVariables false
open Go.RowKit

theorem st_same (y b : Nat) (h : y % 2 = b) : K.st y b = y / 2 := by unfold K.st; rw [if_pos h]
theorem st_other (y b : Nat) (h : y % 2 ≠ b) : K.st y b = (y / 2) ^^^ 3988292384 := by unfold K.st; rw [if_neg h]; rfl

set_option maxHeartbeats 400000 in
theorem rstep_any (y b : Int) (w : World) (hy0 : 0 ≤ y) (hy : y < 4294967296) (hb0 : 0 ≤ b) (hb : b < 2) :
    Calls Try.prog 21 #[.int .u32 y, .int .u32 b] w fun e w' => e = .returned (.int .u32 ((K.st y.toNat b.toNat : Nat) : Int)) ∧ w' = w := by
  by_cases h : y % 2 = b
  · have HS := hide (st_same y.toNat b.toNat (by omega))
    have hb1 : (y % 2 != b) = false := by simp; omega
    clear h
    go_enter Try.func21, Try.ntmps21
    go_wp2
    go_ret
    exact ⟨ret_int (by rw [HS.out]; omega), rfl⟩
  · have HS := hide (st_other y.toNat b.toNat (by omega))
    have hb1 : (y % 2 != b) = true := by simp; omega
    have HX := hide (xor_pol y.toNat (by omega))
    rw [show ((y.toNat : Nat) : Int) = y by omega] at HX
    clear h
    go_enter Try.func21, Try.ntmps21
    go_wp2
    go_ret
    exact ⟨ret_int (by rw [HS.out, HX.out]), rfl⟩

set_option maxHeartbeats 400000 in
theorem rrow_any (n : Int) (w : World) (hn0 : 0 ≤ n) (hn : n < 4294967296) :
    Calls Try.prog 12 #[.int .u32 n] w fun e w' => e = .returned (.int .u32 ((K.row n.toNat : Nat) : Int)) ∧ w' = w := by
  go_enter Try.func12, Try.ntmps12
  go_wp2_with fail
  go_loop [0, 3] (fun r i => ∃ (y : Int) (k : Nat), k ≤ 8 ∧ i = .int .i64 (k : Int) ∧ r = .int .u32 y ∧ 0 ≤ y ∧ y < 4294967296 ∧ Hid (y.toNat = K.sts n.toNat (List.replicate k 0))) (fun _ i => 8 - (intOf i).toNat)
  case atStart => exact ⟨n, 0, by omega, rfl, rfl, hn0, hn, hide rfl⟩
  case round =>
    obtain ⟨y, k, hk, rfl, rfl, hy0, hy, HY⟩ := hrel
    by_cases hlt : k < 8
    · have HS := hide (sts_snoc n.toNat k)
      have hl := K.st_lt y.toNat 0 (by omega)
      go_wp2_with (go_at_call 21; refine (rstep_any y 0 _ hy0 hy (by omega) (by omega)).mono ?_; rintro e w' ⟨rfl, rfl⟩)
      go_round
      case rel => exact ⟨_, k + 1, hlt, by go_num, rfl, by omega, by have : (0 : Int).toNat = 0 := rfl; omega, hide (by rw [HS.out, ← HY.out]; rfl)⟩
      case measure => simp [intOf]; omega
    · obtain rfl : k = 8 := by omega
      go_wp2
      go_ret
      exact ⟨ret_int (by have := HY.out; unfold K.row; omega), rfl⟩

theorem reg_snoc (w : Nat) (l : List Nat) (c : Nat) : K.reg w (l ++ [c]) = K.sts (K.reg w l) (K.bits8 c) := by
  unfold K.reg K.bitsB; rw [List.flatMap_append, K.sts_append]; simp
theorem bitsK_step (x cc j : Nat) : K.sts x (K.bitsK cc (j + 1)) = K.sts (K.st x (cc % 2)) (K.bitsK (cc / 2) j) := rfl

set_option maxHeartbeats 400000 in
theorem rsum_zero (ao : Option Addr) (cap : Nat) (w : World) :
    Calls Try.prog 14 #[.slice ao 0 cap] w fun e w' => e = .returned (.int .u32 0) ∧ w' = w := by
  go_enter Try.func14, Try.ntmps14
  go_wp2_with fail
  go_loop [3, 4] (fun r i => r = .int .u32 4294967295 ∧ i = .int .i64 0) (fun _ _ => 0)
  case atStart => exact ⟨rfl, rfl⟩
  case round =>
    obtain ⟨rfl, rfl⟩ := hrel
    go_wp2
    go_ret
    exact ⟨rfl, rfl⟩

set_option maxHeartbeats 800000 in
theorem rsum_some (b off len cap : Nat) (l : List Nat) (w : World) (hl : l.length = len) (hm : len ≤ 140737488355328) (hc : ∀ i, i < len → w.cell? ⟨b, off + i, none⟩ = some (.int .u8 ((l.getD i 0 : Nat) : Int))) (h256 : ∀ x ∈ l, x < 256) :
    Calls Try.prog 14 #[.slice (some ⟨b, off, none⟩) len cap] w fun e w' => e = .returned (.int .u32 ((K.crc l : Nat) : Int)) ∧ w' = w := by
  have HL := hide hl
  have H2 := hide h256
  have Hc := hide hc
  clear hl h256 hc
  go_enter Try.func14, Try.ntmps14
  go_wp2_with fail
  go_loop [3, 4] (fun r i => ∃ (k : Nat) (x : Int), k ≤ len ∧ i = .int .i64 (k : Int) ∧ r = .int .u32 x ∧ 0 ≤ x ∧ x < 4294967296 ∧ Hid (x.toNat = K.reg 4294967295 (l.take k))) (fun _ i => len - (intOf i).toNat)
  case atStart => exact ⟨0, 4294967295, by omega, rfl, rfl, by omega, by omega, hide rfl⟩
  case round =>
    obtain ⟨k, x, hk, rfl, rfl, hx0, hx1, HX⟩ := hrel
    by_cases hlt : k < len
    · have e0 := Hc.out k hlt
      have hcl := getD_lt8 H2.out k
      have HS := hide (reg_snoc 4294967295 (l.take k) (l.getD k 0))
      have HT := hide (take_snocN l k (by have := HL.out; omega))
      obtain ⟨c, hce⟩ : ∃ c : Int, ((l.getD k 0 : Nat) : Int) = c := ⟨_, rfl⟩
      rw [hce] at e0
      have hc0 : 0 ≤ c := by omega
      have hc1 : c < 256 := by omega
      have HCE := hide (show l.getD k 0 = c.toNat by omega)
      clear hce hcl
      go_wp2_with fail
      go_loop [3, 5, 6] (fun r d i => ∃ (y cc : Int) (j : Nat), j ≤ 8 ∧ i = .int .i64 (j : Int) ∧ d = .int .u32 cc ∧ r = .int .u32 y ∧ 0 ≤ y ∧ y < 4294967296 ∧ 0 ≤ cc ∧ cc < 256 ∧ Hid (K.sts y.toNat (K.bitsK cc.toNat (8 - j)) = K.sts x.toNat (K.bits8 c.toNat))) (fun _ _ i => 8 - (intOf i).toNat)
      case atStart => exact ⟨x, c, 0, by omega, rfl, rfl, rfl, hx0, hx1, hc0, hc1, hide (by rw [K.bits8_K])⟩
      case round =>
        obtain ⟨y, cc, j, hj, rfl, rfl, rfl, hy0, hy1, hcc0, hcc1, HY⟩ := hrel
        by_cases hjl : j < 8
        · have hb0 : 0 ≤ cc % 2 := by omega
          have hb2 : cc % 2 < 2 := by omega
          have hl := K.st_lt y.toNat (cc % 2).toNat (by omega)
          have HB := hide (bitsK_step y.toNat cc.toNat (8 - (j + 1)))
          go_wp2_with (go_at_call 21; refine (rstep_any y (cc % 2) _ hy0 hy1 hb0 hb2).mono ?_; rintro e w' ⟨rfl, rfl⟩)
          go_round
          case rel => exact ⟨_, cc / 2, j + 1, hjl, by go_num, rfl, rfl, by omega, by omega, by omega, by omega, hide (by
            rw [← HY.out, show 8 - j = 8 - (j + 1) + 1 by omega, HB.out, Int.toNat_natCast, show (cc % 2).toNat = cc.toNat % 2 by omega, show (cc / 2).toNat = cc.toNat / 2 by omega])⟩
          case measure => simp [intOf]; omega
        · obtain rfl : j = 8 := by omega
          have HZ : Hid (y.toNat = K.sts x.toNat (K.bits8 c.toNat)) := hide (by rw [← HY.out]; rfl)
          go_wp2
          go_round
          case rel => exact ⟨k + 1, y, by omega, by go_num, rfl, hy0, hy1, hide (by rw [HZ.out, HT.out, HS.out, ← HX.out, HCE.out])⟩
          case measure => simp [intOf]; omega
    · obtain rfl : k = len := by omega
      have HN : Hid (4294967295 - x = ((K.crc l : Nat) : Int)) := hide (by
        have := HX.out
        rw [List.take_of_length_le (by have := HL.out; omega)] at this
        unfold K.crc; omega)
      go_wp2
      go_ret
      exact ⟨ret_int HN.out, rfl⟩

/-- The reference's Sum. -/
theorem rsum_any (ao : Option Addr) (len cap : Nat) (l : List Nat) (w : World) (h : Sl w .u8 ao len cap (ints l)) (hm : len ≤ 140737488355328) (h256 : ∀ x ∈ l, x < 256) :
    Calls Try.prog 14 #[.slice ao len cap] w fun e w' => e = .returned (.int .u32 ((K.crc l : Nat) : Int)) ∧ w' = w := by
  obtain ⟨h1, h2, h3, h4, h5⟩ := h
  rw [ints_length] at h1
  by_cases h0 : len = 0
  · subst h0
    obtain rfl : l = [] := List.eq_nil_of_length_eq_zero h1
    rw [show K.crc [] = 0 by simp [K.crc, K.reg, K.bitsB, K.sts]]
    exact rsum_zero ao cap w
  · rcases h5 with h5 | ⟨b, off, rfl, hlt, h5⟩
    · omega
    · exact rsum_some b off len cap l w h1 hm (fun i hi => by rw [h5 i hi, ints_getD]) h256
end Go.Proofs.Ytmobcabkaodjoaa

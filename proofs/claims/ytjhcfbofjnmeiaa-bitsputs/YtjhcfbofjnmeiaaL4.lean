/- The walk of the statement: what was packed is unpacked. -/
import Derived.Test.YtjhcfbofjnmeiaaL3
namespace Go.Proofs.Ytjhcfbofjnmeiaa
set_option linter.unusedVariables false
open Go.RowKit

/-- Pack, with a width that may be, as a whole number. -/
theorem pack_i (ao : Option Addr) (len cap : Nat) (l : List Int) (k : Int) (w : World) (h : Sl w .u64 ao len cap l) (hm : len * 64 + 64 < 1099511627776) (hin : In64 l) (hk0 : 0 ≤ k) (hk : k ≤ 64) :
    Calls Try.prog 21 #[.slice ao len cap, .int .i64 k] w fun e w' =>
      (Fit l k.toNat ∧ ∃ v', e = .returned (.tuple #[v', .int .i64 0]) ∧ w'.ownsRow w.heap.size 5 1 v' (A.bytesOf (bitsAll l k.toNat)).length (B8 (A.bytesOf (bitsAll l k.toNat))) ∧ Below w.heap.size w w') ∨
      (¬ Fit l k.toNat ∧ e = .returned (.tuple #[.slice none 0 0, .int .i64 1]) ∧ Below w.heap.size w w') := by
  obtain ⟨j, rfl⟩ := Int.eq_ofNat_of_zero_le hk0
  rw [Int.toNat_natCast]
  exact pack_any ao len cap l j w h hm hin (by omega)

/-- Unpack of what was packed. -/
theorem unpack_pack (ao : Option Addr) (len cap : Nat) (l : List Int) (n k : Int) (w : World) (h : Sl w .u8 ao len cap (ints (A.bytesOf (bitsAll l k.toNat)))) (hl : n = (l.length : Int)) (hm : l.length ≤ 1048576) (hin : In64 l) (hk0 : 0 ≤ k) (hk : k ≤ 64) (hf : Fit l k.toNat) :
    Calls Try.prog 23 #[.slice ao len cap, .int .i64 n, .int .i64 k] w fun e w' => ∃ v', e = .returned (.tuple #[v', .int .i64 0]) ∧ w'.ownsRow w.heap.size 32 1 v' l.length (l.map (Value.int .u64)) ∧ Below w.heap.size w w' := by
  subst hl
  obtain ⟨j, rfl⟩ := Int.eq_ofNat_of_zero_le hk0
  rw [Int.toNat_natCast] at h hf
  have hbl := bitsAll_length l j
  have hj : jb (A.bytesOf (bitsAll l j)) (l.length * j) = 0 := by rw [← hbl]; exact jb_bytes _
  have hlen : len = (A.bytesOf (bitsAll l j)).length := by rw [← h.1, ints_length]
  rw [A.bytesOf_length, hbl] at hlen
  have hmul : l.length * j ≤ 1048576 * 64 := Nat.mul_le_mul hm (by omega)
  have := unpack_yes ao len cap (A.bytesOf (bitsAll l j)) l.length j w h (A.bytesOf_lt _) (by omega) hm (by omega) hj
  rw [nums_pack l j hin hf] at this
  exact this

/-- Pack, with a bit less than the numbers need. -/
theorem pack_less (ao : Option Addr) (len cap : Nat) (l : List Int) (w : World) (h : Sl w .u64 ao len cap l) (hm : len * 64 + 64 < 1099511627776) (hin : In64 l) :
    Calls Try.prog 21 #[.slice ao len cap, .int .i64 ((wid l : Int) - 1)] w fun e w' => e = .returned (.tuple #[.slice none 0 0, .int .i64 1]) ∧ Below w.heap.size w w' := by
  have hw := wid_le l hin
  by_cases h0 : wid l = 0
  · refine (pack_arg ao len cap _ w (.inl (by omega))).mono ?_
    rintro e w' ⟨rfl, rfl⟩
    exact ⟨rfl, Below.refl _ _⟩
  · refine (pack_i ao len cap l _ w h hm hin (by omega) (by omega)).mono ?_
    rintro e w' (⟨hf, _⟩ | ⟨_, rfl, hb⟩)
    · have := (fit_wid l _ hin).1 hf
      omega
    · exact ⟨rfl, hb⟩

set_option maxHeartbeats 400000 in
theorem bitsBack_big (w : World) (a : Option Addr) (len cap : Nat) (m : Int) (h : 1000 < len) (hc : len ≤ cap) (hr : cap * 8 ≤ 140737488351232) :
    Calls Try.prog 5 #[.slice a len cap, .int .u8 m] w fun e w' => e = .returned (.bool true) ∧ Below w.heap.size w w' := by
  go_enter Try.func5, Try.ntmps5
  go_wp2_with fail
  refine (shown_any w).mono ?_
  rintro e w2 ⟨rfl, hb⟩
  go_wp2
  go_ret
  exact ⟨rfl, hb⟩

set_option maxHeartbeats 1000000 in
theorem bitsBack_small (w : World) (a : Option Addr) (len cap : Nat) (l : List Int) (hsl : Sl w .u64 a len cap l) (hin : In64 l) (hr : cap * 8 ≤ 140737488351232) (m : Int) (hm0 : 0 ≤ m) (hm1 : m < 256) (h : len ≤ 1000) :
    Calls Try.prog 5 #[.slice a len cap, .int .u8 m] w fun e w' => e = .returned (.bool true) ∧ Below w.heap.size w w' := by
  have hlc := hsl.2.1
  have hwl := wid_le l hin
  have HSL := hide hsl
  have HIN := hide hin
  clear hsl hin
  obtain ⟨K, hK, hK0, hK1⟩ : ∃ K : Int, K = min 64 ((wid l : Int) + m % 70) ∧ (wid l : Int) ≤ K ∧ K ≤ 64 := ⟨_, rfl, by omega, by omega⟩
  have HF : Hid (Fit l K.toNat) := (fit_wid l _ HIN.out).2 (by omega)
  have hp0 : 0 ≤ (len : Int) * K := Int.mul_nonneg (by omega) (by omega)
  have hp1 : (len : Int) * K ≤ 64000 := by
    have := Int.mul_le_mul (show (len : Int) ≤ 1000 by omega) hK1 (by omega) (by omega)
    omega
  obtain ⟨L, hL⟩ : ∃ L, (A.bytesOf (bitsAll l K.toNat)).length = L := ⟨_, rfl⟩
  have hnum : ((L : Int) != ((len : Int) * K + 7) / 8) = false := by
    have h1 := bitsAll_length l K.toNat
    have h2 := HSL.out.1
    rw [← hL, A.bytesOf_length, h1, h2, bne_eq_false_iff_eq]
    have h3 : ((len * K.toNat : Nat) : Int) = (len : Int) * K := by rw [Int.natCast_mul]; congr 1; omega
    rw [← h3]; omega
  have HL := hide hL
  have HK := hide hK
  have hd : decide ((1000 : Int) < (len : Int)) = false := by simp; omega
  clear hL hK
  rcases (show (K = 64 ∧ 64 ≤ (wid l : Int) + m % 70) ∨ (K = (wid l : Int) + m % 70 ∧ (wid l : Int) + m % 70 < 64) by have := HK.out; omega) with ⟨k1, k2⟩ | ⟨k1, k2⟩
  all_goals
    have HK1 := hide k1
    clear k1
    go_enter Try.func5, Try.ntmps5
    go_wp2_with fail
    refine (shown_any w).mono ?_
    rintro e w2 ⟨rfl, hb⟩
    have hs := hb.size
    go_wp2_with fail
    refine (width_w _ _ _ _ _ (HSL.out.below hb) (by omega) HIN.out).mono ?_
    rintro e w3 ⟨rfl, rfl⟩
    go_wp2_with fail
    first
      | rw [← HK1.out]
      | rw [show Value.int .i64 64 = Value.int .i64 K by rw [HK1.out]]
    refine (pack_i _ _ _ l _ _ (HSL.out.below hb) (by omega) HIN.out (by omega) (by omega)).mono ?_
    rintro e w4 (⟨_, v, rfl, ho, hb4⟩ | ⟨hn, _⟩)
    case inr => exact absurd HF.out hn
    have hb5 := hb.trans (hb4.mono hs)
    have hs5 := hb5.size
    obtain ⟨ao1, cap1, hv1, hsl1, _⟩ := Sl.of_bytes ho
    rw [HL.out] at hv1 hsl1
    have HS1 := hide hsl1
    have hll : l.length = len := HSL.out.1
    have HLL := hide hll
    clear hb hs hb4 ho hsl1 hll
    subst hv1
    go_wp2_with fail
    refine (unpack_pack _ _ _ l _ _ _ HS1.out (by rw [HLL.out]) (by have := HLL.out; omega) HIN.out (by omega) (by omega) HF.out).mono ?_
    rintro e w6 ⟨v2, rfl, ho2, hb6⟩
    have hb7 := hb5.trans (hb6.mono hs5)
    have hs7 := hb7.size
    obtain ⟨ao2, cap2, hv2, hsl2, _⟩ := Sl.of_owns ho2
    rw [HLL.out] at hv2 hsl2
    have HS2 := hide hsl2
    clear hb5 hs5 hb6 ho2 hsl2
    subst hv2
    go_wp2_with fail
    refine (same_yes _ _ _ _ _ l _ (HSL.out.below hb7) HS2.out (by omega)).mono ?_
    rintro e w8 ⟨rfl, hk8⟩
    have hb8 : Below w.heap.size w w8 := hb7.trans (hk8.below hs7 (by simp))
    have hs8 := hb8.size
    clear hk8
    go_wp2_with fail
    refine (pack_less _ _ _ l _ (HSL.out.below hb8) (by omega) HIN.out).mono ?_
    rintro e w9 ⟨rfl, hb9⟩
    go_wp2
    go_ret
    exact ⟨rfl, hb8.trans (hb9.mono hs8)⟩

theorem bitsBack_walk (w : World) (a : Option Addr) (len cap : Nat) (l : List Int) (c : Came .u64 w a len cap l) (hr : cap * 8 ≤ 140737488351232) (m : Int) (w1 : (Lit.int .u8 m).wf = true) :
    Calls Try.prog 5 #[.slice a len cap, .int .u8 m] w fun e w' => e = .returned (.bool true) ∧ Below w.heap.size w w' := by
  obtain ⟨hsl, hwf⟩ := c
  obtain ⟨h0, h1⟩ := wf_u8 w1
  by_cases h : len ≤ 1000
  · exact bitsBack_small w a len cap l hsl (fun x hx => wf_u64 (hwf x hx)) hr m h0 h1 h
  · exact bitsBack_big w a len cap m (by omega) hsl.2.1 hr
end Go.Proofs.Ytjhcfbofjnmeiaa

/- The contracts of flt's isNaN, Clean, Key, Bits, Compare. -/
import Derived.Test.YtahpbenobhodnaaU
import Derived.Test.YtahpbenobhodnaaD9
namespace Go.Proofs.Ytahpbenobhodnaa
set_option linter.unusedVariables false
open Go.RowKit

def KeptClean : Prop := ∀ (b : Int) (w : World), 0 ≤ b → b < 18446744073709551616 → Calls Try.prog 41 #[.int .u64 b] w fun e w' => e = .returned (.int .u64 (D.cl b)) ∧ w' = w
def KeptKey : Prop := ∀ (b : Int) (w : World), 0 ≤ b → b < 18446744073709551616 → Calls Try.prog 22 #[.int .u64 b] w fun e w' => e = .returned (.int .u64 (D.ky b)) ∧ w' = w
def KeptBits : Prop := ∀ (b : Int) (w : World), 0 ≤ b → b < 18446744073709551616 → Calls Try.prog 47 #[.int .u64 b] w fun e w' => e = .returned (.int .u64 (D.bt b)) ∧ w' = w
def KeptCompare : Prop := ∀ (a b : Int) (w : World), 0 ≤ a → a < 18446744073709551616 → 0 ≤ b → b < 18446744073709551616 → Calls Try.prog 39 #[.int .u64 a, .int .u64 b] w fun e w' => e = .returned (.int .i64 (D.cp a b)) ∧ w' = w
theorem isnan_any (b : Int) (w : World) (h0 : 0 ≤ b) (h1 : b < 18446744073709551616) :
    Calls Try.prog 52 #[.int .u64 b] w fun e w' => e = .returned (.bool (D.isN b)) ∧ w' = w := by
  have ha := D.andNot_top ⟨h0, h1⟩
  have HN : Hid (decide (9218868437227405312 < b % 9223372036854775808) = D.isN b) := D.isN_over ⟨h0, h1⟩
  go_enter Try.func52, Try.ntmps52
  go_wp2
  go_ret
  exact ⟨by rw [← HN.out]; rfl, rfl⟩
theorem clean_any : KeptClean := by
  intro b w h0 h1
  go_enter Try.func41, Try.ntmps41
  go_wp2_with fail
  refine (isnan_any b w h0 h1).mono ?_
  rintro e w1 ⟨rfl, rfl⟩
  cases hb : D.isN b with
  | false =>
    have HC : Hid (D.cl b = b) := D.cl_num hb
    go_wp2
    go_ret
    exact ⟨by rw [HC.out]; rfl, rfl⟩
  | true =>
    have HC : Hid (D.cl b = 9221120237041090560) := D.cl_nan hb
    go_wp2
    go_ret
    exact ⟨by rw [HC.out]; rfl, rfl⟩
theorem key_any : KeptKey := by
  intro b w h0 h1
  have hc := D.cl_in (b := b) ⟨h0, h1⟩
  go_enter Try.func22, Try.ntmps22
  go_wp2_with fail
  refine (clean_any b w h0 h1).mono ?_
  rintro e w1 ⟨rfl, rfl⟩
  obtain ⟨c, hce⟩ : ∃ c, D.cl b = c := ⟨_, rfl⟩
  rw [hce] at hc ⊢
  have HK : Hid (D.ky b = if 9223372036854775808 ≤ c then 18446744073709551615 - c else c + 9223372036854775808) := by show _ = _; unfold D.ky; rw [hce]
  clear hce
  have ha := D.and_top hc
  have hx := D.turn_all hc
  by_cases hs : 9223372036854775808 ≤ c
  · rw [if_pos hs] at ha
    obtain ⟨hc0, hc1⟩ := hc
    go_wp2
    go_ret
    exact ⟨by rw [HK.out, if_pos hs]; rfl, rfl⟩
  · rw [if_neg hs] at ha
    have ho := D.or_top hc.1 (by omega : c < 9223372036854775808)
    obtain ⟨hc0, hc1⟩ := hc
    go_wp2
    go_ret
    exact ⟨by rw [HK.out, if_neg (by omega)]; rfl, rfl⟩
theorem bits_any : KeptBits := by
  intro k w h0 h1
  have hk : D.In64 k := ⟨h0, h1⟩
  have ha := D.and_top hk
  by_cases hs : 9223372036854775808 ≤ k
  · rw [if_pos hs] at ha
    have hn := D.andNot_top hk
    have HB : Hid (D.bt k = D.cl (k % 9223372036854775808)) := by show _ = _; unfold D.bt; rw [if_pos hs, show k - 9223372036854775808 = k % 9223372036854775808 by omega]
    obtain ⟨r, hr⟩ : ∃ r, k % 9223372036854775808 = r := ⟨_, rfl⟩
    have hr0 : 0 ≤ r := by omega
    have hr1 : r < 18446744073709551616 := by omega
    rw [hr] at hn HB
    clear hr
    go_enter Try.func47, Try.ntmps47
    go_wp2_with fail
    refine (clean_any r w hr0 hr1).mono ?_
    rintro e w1 ⟨rfl, rfl⟩
    go_wp2
    go_ret
    exact ⟨by rw [HB.out]; rfl, rfl⟩
  · rw [if_neg hs] at ha
    have hn := D.turn_all hk
    have HB : Hid (D.bt k = D.cl (18446744073709551615 - k)) := by show _ = _; unfold D.bt; rw [if_neg hs]
    obtain ⟨r, hr⟩ : ∃ r, 18446744073709551615 - k = r := ⟨_, rfl⟩
    have hr0 : 0 ≤ r := by omega
    have hr1 : r < 18446744073709551616 := by omega
    rw [hr] at hn HB
    clear hr
    go_enter Try.func47, Try.ntmps47
    go_wp2_with fail
    refine (clean_any r w hr0 hr1).mono ?_
    rintro e w1 ⟨rfl, rfl⟩
    go_wp2
    go_ret
    exact ⟨by rw [HB.out]; rfl, rfl⟩
theorem compare_any : KeptCompare := by
  intro a b w a0 a1 b0 b1
  have hx := D.ky_in (b := a) ⟨a0, a1⟩
  have hy := D.ky_in (b := b) ⟨b0, b1⟩
  have HC : Hid (D.cp a b = if D.ky a < D.ky b then -1 else if D.ky b < D.ky a then 1 else 0) := by show _ = _; rfl
  go_enter Try.func39, Try.ntmps39
  go_wp2_with fail
  refine (key_any a w a0 a1).mono ?_
  rintro e w1 ⟨rfl, rfl⟩
  go_wp2_with fail
  refine (key_any b w1 b0 b1).mono ?_
  rintro e w2 ⟨rfl, rfl⟩
  obtain ⟨x, hxe⟩ : ∃ x, D.ky a = x := ⟨_, rfl⟩
  obtain ⟨y, hye⟩ : ∃ y, D.ky b = y := ⟨_, rfl⟩
  rw [hxe] at hx HC ⊢
  rw [hye] at hy HC ⊢
  clear hxe hye
  obtain ⟨x0, x1⟩ := hx
  obtain ⟨y0, y1⟩ := hy
  by_cases hl : x < y
  · go_wp2
    go_ret
    exact ⟨by rw [HC.out, if_pos hl]; rfl, rfl⟩
  · by_cases hg : y < x
    · go_wp2
      go_ret
      exact ⟨by rw [HC.out, if_neg (by omega), if_pos hg]; rfl, rfl⟩
    · go_wp2
      go_ret
      exact ⟨by rw [HC.out, if_neg (by omega), if_neg (by omega)]; rfl, rfl⟩
end Go.Proofs.Ytahpbenobhodnaa

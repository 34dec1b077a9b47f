/- Plain: bit work on words of 64 bits in the walk's spelling: the highest bit alone, all others, set, all turned. Nothing of the program. -/
import Derived.WalkKit
import Derived.Laws.BitsAllLaws
import Derived.Test.YtahpbenobhodnaaD6
namespace Go.Proofs.Ytahpbenobhodnaa.D
set_option linter.unusedVariables false

theorem and_top {b : Int} (h : In64 b) : bits .and .u64 b 9223372036854775808 = if 9223372036854775808 ≤ b then 9223372036854775808 else 0 := by
  obtain ⟨h0, h1⟩ := h
  rw [u64_and b 9223372036854775808 h0 h1 (by omega) (by omega)]
  obtain ⟨x, rfl⟩ := Int.eq_ofNat_of_zero_le h0
  have e : (x &&& 9223372036854775808 : Nat) = if 9223372036854775808 ≤ x then 9223372036854775808 else 0 := by
    apply Nat.eq_of_testBit_eq
    intro i
    have e63 : (9223372036854775808 : Nat) = 2 ^ 63 := by decide
    rw [Nat.testBit_and]
    by_cases hi : i = 63
    · subst hi
      have ht : x.testBit 63 = decide (9223372036854775808 ≤ x) := by
        rw [Nat.testBit_eq_decide_div_mod_eq]
        congr 1
        rw [show (2 : Nat) ^ 63 = 9223372036854775808 by decide]
        apply propext; omega
      rw [ht]
      by_cases hx : 9223372036854775808 ≤ x
      · rw [if_pos hx]; simp [hx]
      · rw [if_neg hx]; simp [hx]
    · have h63 : ¬ 63 = i := fun h => hi h.symm
      by_cases hx : 9223372036854775808 ≤ x
      · rw [if_pos hx, e63, Nat.testBit_two_pow]; simp [h63]
      · rw [if_neg hx, e63, Nat.testBit_two_pow]; simp [h63]
  show ((x &&& 9223372036854775808 : Nat) : Int) = _
  rw [e]
  split <;> split <;> omega
theorem andNot_top {b : Int} (h : In64 b) : bits .andNot .u64 b 9223372036854775808 = b % 9223372036854775808 := by
  obtain ⟨h0, h1⟩ := h
  rw [u64_andNot b 9223372036854775808 h0 h1 (by omega) (by omega)]
  obtain ⟨x, rfl⟩ := Int.eq_ofNat_of_zero_le h0
  show ((x &&& 9223372036854775807 : Nat) : Int) = _
  have e : x &&& 9223372036854775807 = x % 9223372036854775808 := Nat.and_two_pow_sub_one_eq_mod x 63
  rw [e]; omega
theorem or_top {b : Int} (h0 : 0 ≤ b) (h1 : b < 9223372036854775808) : bits .or .u64 b 9223372036854775808 = b + 9223372036854775808 := by
  rw [u64_or b 9223372036854775808 h0 (by omega) (by omega) (by omega)]
  obtain ⟨x, rfl⟩ := Int.eq_ofNat_of_zero_le h0
  show ((x ||| 9223372036854775808 : Nat) : Int) = _
  have e : 9223372036854775808 + x = 9223372036854775808 ||| x := Nat.two_pow_add_eq_or_of_lt (i := 63) (by omega) 1
  rw [Nat.or_comm, ← e]; omega
theorem turn_all {b : Int} (h : In64 b) : bits .xor .u64 IntKind.u64.max b = 18446744073709551615 - b := by
  obtain ⟨h0, h1⟩ := h
  rw [show IntKind.u64.max = 18446744073709551615 from rfl, u64_xor 18446744073709551615 b (by omega) (by omega) h0 h1]
  obtain ⟨x, rfl⟩ := Int.eq_ofNat_of_zero_le h0
  show ((18446744073709551615 ^^^ x : Nat) : Int) = _
  have e : 18446744073709551615 ^^^ x = 18446744073709551615 - x := by
    apply Nat.eq_of_testBit_eq
    intro i
    have e1 : 18446744073709551615 - x = 2 ^ 64 - (x + 1) := by omega
    have e2 : (18446744073709551615 : Nat) = 2 ^ 64 - 1 := by decide
    rw [e1, Nat.testBit_two_pow_sub_succ (by omega), Nat.testBit_xor, e2, Nat.testBit_two_pow_sub_one]
    by_cases hi : i < 64
    · simp [hi]
    · have hx : x.testBit i = false := Nat.testBit_lt_two_pow (Nat.lt_of_lt_of_le (show x < 2 ^ 64 by omega) (Nat.pow_le_pow_right (by omega) (by omega)))
      simp [hi, hx]
  rw [e]; omega
/-- Beyond infinity, whichever the sign. -/
theorem isN_over {b : Int} (h : In64 b) : decide (9218868437227405312 < b % 9223372036854775808) = isN b := by
  obtain ⟨h0, h1⟩ := h
  have := isN_iff b
  cases hb : isN b with
  | true => rw [hb] at this; have := this.1 rfl; simp; omega
  | false =>
    rw [hb] at this
    have h2 : ¬ (b / 4503599627370496 % 2048 = 2047 ∧ b % 4503599627370496 ≠ 0) := fun h => by simpa using this.2 h
    simp; omega
end Go.Proofs.Ytahpbenobhodnaa.D

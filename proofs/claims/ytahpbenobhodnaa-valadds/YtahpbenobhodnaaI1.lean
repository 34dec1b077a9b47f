/- The walk of the statement: a sum less one of both is the other one; it is refused just where two halves' sum is too great or too small. -/
import Derived.Test.YtahpbenobhodnaaZ5
import Derived.Test.YtahpbenobhodnaaRU
namespace Go.Proofs.Ytahpbenobhodnaa
set_option linter.unusedVariables false
open Go.RowKit

theorem i64_wrap_two (n : Int) : IntKind.i64.wrap n % 2 = n % 2 := by
  rw [i64_wrap]; split <;> omega
theorem ofInt_two (x : Int) : (((BitVec.ofInt 64 x).toNat : Nat) : Int) % 2 = x % 2 := by
  rw [BitVec.toNat_ofInt]
  show (((x % 18446744073709551616).toNat : Nat) : Int) % 2 = _
  omega
theorem and_two (a b : Int) : bits .and .i64 a b % 2 = (a % 2) * (b % 2) := by
  show IntKind.i64.wrap (((BitVec.ofInt 64 a &&& BitVec.ofInt 64 b).toNat : Nat) : Int) % 2 = _
  rw [i64_wrap_two, BitVec.toNat_and]
  have ha := ofInt_two a
  have hb := ofInt_two b
  generalize (BitVec.ofInt 64 a).toNat = x at *
  generalize (BitVec.ofInt 64 b).toNat = y at *
  have h := Nat.and_mod_two_pow (a := x) (b := y) (n := 1)
  rw [show 2 ^ 1 = 2 from rfl] at h
  have hx : x % 2 = 0 ∨ x % 2 = 1 := by omega
  have hy : y % 2 = 0 ∨ y % 2 = 1 := by omega
  rcases hx with hx | hx <;> rcases hy with hy | hy <;> rw [hx, hy] at h
  · have h' : (x &&& y) % 2 = 0 := h
    rw [show a % 2 = 0 by omega]; omega
  · have h' : (x &&& y) % 2 = 0 := h
    rw [show a % 2 = 0 by omega]; omega
  · have h' : (x &&& y) % 2 = 0 := h
    rw [show b % 2 = 0 by omega]; omega
  · have h' : (x &&& y) % 2 = 1 := h
    rw [show a % 2 = 1 by omega, show b % 2 = 1 by omega]; omega
theorem and_low (a b : Int) : ∃ y, bits .and .i64 (bits .and .i64 a b) 1 = y ∧ 0 ≤ y ∧ 2 * y ≤ a % 2 + b % 2 ∧ a % 2 + b % 2 ≤ 2 * y + 1 := by
  have h1 := and_two a b
  have h2 := and_two (bits .and .i64 a b) 1
  have h3 : 0 ≤ bits .and .i64 (bits .and .i64 a b) 1 ∧ bits .and .i64 (bits .and .i64 a b) 1 < 2 := by
    generalize bits .and .i64 a b = z
    show 0 ≤ IntKind.i64.wrap (((BitVec.ofInt 64 z &&& BitVec.ofInt 64 1).toNat : Nat) : Int) ∧ IntKind.i64.wrap (((BitVec.ofInt 64 z &&& BitVec.ofInt 64 1).toNat : Nat) : Int) < 2
    rw [BitVec.toNat_and, show (BitVec.ofInt 64 1).toNat = 1 from rfl, Nat.and_one_is_mod, i64_wrap]
    split <;> omega
  refine ⟨_, rfl, ?_⟩
  have ha : a % 2 = 0 ∨ a % 2 = 1 := by omega
  have hb : b % 2 = 0 ∨ b % 2 = 1 := by omega
  rcases ha with ha | ha <;> rcases hb with hb | hb <;> rw [ha, hb] at h1 ⊢ <;> rw [h1] at h2 <;> omega
set_option maxHeartbeats 1000000 in
theorem valAdds_walk (w : World) (a : Int) (wa : (Lit.int .i64 a).wf = true) (b : Int) (wb : (Lit.int .i64 b).wf = true) :
    Calls Try.prog 7 #[.int .i64 a, .int .i64 b] w fun e w' => e = .returned (.bool true) ∧ Below w.heap.size w w' := by
  have ha := wf_i64 wa
  have hb := wf_i64 wb
  obtain ⟨y, hl, y0, y1, y2⟩ := and_low a b
  clear wa wb
  obtain ⟨p, hp⟩ : ∃ p, a / 2 = p := ⟨_, rfl⟩
  obtain ⟨q, hq⟩ : ∃ p, b / 2 = p := ⟨_, rfl⟩
  have k1 : 2 * (p + q + y) ≤ a + b := by omega
  have k2 : a + b ≤ 2 * (p + q + y) + 1 := by omega
  have k3 : -4611686018427387904 ≤ p := by omega
  have k4 : -4611686018427387904 ≤ q := by omega
  have k5 : p < 4611686018427387904 := by omega
  have k6 : q < 4611686018427387904 := by omega
  have k7 : y ≤ 1 := by omega
  clear y1 y2
  by_cases hin : -9223372036854775808 ≤ a + b ∧ a + b < 9223372036854775808
  · have A := fun w => vadd_in a b w ha hb hin
    have B := fun w => vadd_in b a w hb ha (by omega)
    rw [show b + a = a + b by omega] at B
    have HA := hide A
    have HB := hide B
    clear A B
    go_enter Try.func7, Try.ntmps7
    go_wp2_with fail
    refine (pshown_any _).mono ?_
    rintro e w1 ⟨rfl, hb1⟩
    replace hb1 := hide hb1
    go_wp2_with fail
    refine (HA.out _).mono ?_
    rintro e w2 ⟨rfl, rfl⟩
    go_wp2_with fail
    refine (HB.out _).mono ?_
    rintro e w3 ⟨rfl, rfl⟩
    go_wp2
    go_ret
    exact ⟨rfl, hb1.out⟩
  · have A := fun w => vadd_out a b w ha hb hin
    have B := fun w => vadd_out b a w hb ha (by omega)
    have HA := hide A
    have HB := hide B
    clear A B
    by_cases h1 : -4611686018427387904 ≤ p + q + y
    · have h2 : decide (p + q + y ≤ 4611686018427387903) = false := by simp; omega
      go_enter Try.func7, Try.ntmps7
      go_wp2_with fail
      refine (pshown_any _).mono ?_
      rintro e w1 ⟨rfl, hb1⟩
      replace hb1 := hide hb1
      go_wp2_with fail
      refine (HA.out _).mono ?_
      rintro e w2 ⟨rfl, rfl⟩
      go_wp2_with fail
      refine (HB.out _).mono ?_
      rintro e w3 ⟨rfl, rfl⟩
      go_wp2
      go_ret
      exact ⟨rfl, hb1.out⟩
    · go_enter Try.func7, Try.ntmps7
      go_wp2_with fail
      refine (pshown_any _).mono ?_
      rintro e w1 ⟨rfl, hb1⟩
      replace hb1 := hide hb1
      go_wp2_with fail
      refine (HA.out _).mono ?_
      rintro e w2 ⟨rfl, rfl⟩
      go_wp2_with fail
      refine (HB.out _).mono ?_
      rintro e w3 ⟨rfl, rfl⟩
      go_wp2
      go_ret
      exact ⟨rfl, hb1.out⟩
end Go.Proofs.Ytahpbenobhodnaa

/- Two values held against each other; the contracts of val's May, Add. -/
import Derived.Test.YtahpbenobhodnaaZ3
import Derived.Deep.RegionWith
namespace Go.Proofs.Ytahpbenobhodnaa
set_option linter.unusedVariables false
open Go.RowKit

theorem fields_of {P : Program} {t : TypeId} {fs : Array Field} (h : P.underlying t = some (.struct fs)) : P.fieldsOf t = fs := by unfold Program.fieldsOf; rw [h]
/-- Are two values the same? -/
def Z.same (x y : Z.V) : Bool := (x.k == y.k) && ((x.i == y.i) && (x.s.toList == y.s.toList))
theorem Z.same_iff (x y : Z.V) : Z.same x y = true ↔ x = y := by
  obtain ⟨ak, ai, az⟩ := x
  obtain ⟨bk, bi, bz⟩ := y
  unfold Z.same
  simp only [Bool.and_eq_true, beq_iff_eq, ByteArray.toList_eq]
  constructor
  · rintro ⟨rfl, rfl, h⟩
    rw [Z.ba_eq h]
  · intro h
    injection h with h1 h2 h3
    exact ⟨h1, h2, by rw [h3]⟩
theorem Z.same_self (x : Z.V) : Z.same x x = true := (Z.same_iff x x).2 rfl
theorem veq_in (ak ai : Int) (az : ByteArray) (bk bi : Int) (bz : ByteArray) (w : World) :
    (Op.equalIn 10000 23 (.agg #[.int .i64 ak, .int .i64 ai, .string az]) (.agg #[.int .i64 bk, .int .i64 bi, .string bz])).run Try.prog w = .ok (Z.same ⟨ak, ai, az⟩ ⟨bk, bi, bz⟩) w := by
  have h2 : Try.prog.stoodInHeld 23 = false := by kernel_rfl
  have hf := fields_of Try.underlying23
  rw [run_equalIn_struct w 9999 23 _ _ (by rw [hf]; exact Try.underlying23) h2, hf]
  unfold Z.same
  cases h1 : (ak == bk) <;> cases h2 : (ai == bi) <;> cases h3 : (az.toList == bz.toList) <;> simp [go_sem, Op.eqFields, Try.underlying3, Try.underlying2, Try.underlying9, h1, h2, h3]
  all_goals simpa using h3
theorem veq_run (ak ai : Int) (az : ByteArray) (bk bi : Int) (bz : ByteArray) (w : World) :
    (binOp .eql 23 (.agg #[.int .i64 ak, .int .i64 ai, .string az]) (.agg #[.int .i64 bk, .int .i64 bi, .string bz])).run Try.prog w = .ok (.bool (Z.same ⟨ak, ai, az⟩ ⟨bk, bi, bz⟩)) w := by
  rw [run_eql_struct, veq_in]; rfl
theorem vne_run (ak ai : Int) (az : ByteArray) (bk bi : Int) (bz : ByteArray) (w : World) :
    (binOp .neq 23 (.agg #[.int .i64 ak, .int .i64 ai, .string az]) (.agg #[.int .i64 bk, .int .i64 bi, .string bz])).run Try.prog w = .ok (.bool (!Z.same ⟨ak, ai, az⟩ ⟨bk, bi, bz⟩)) w := by
  rw [run_neq_struct, veq_in]; rfl

theorem vadd_in (a b : Int) (w : World) (ha : Z.I64 a) (hb : Z.I64 b) (h : -9223372036854775808 ≤ a + b ∧ a + b < 9223372036854775808) :
    Calls Try.prog 17 #[.int .i64 a, .int .i64 b] w fun e w' => e = .returned (.tuple #[.int .i64 (a + b), .int .i64 0]) ∧ w' = w := by
  unfold Z.I64 at ha hb
  by_cases hn : b < 0
  · have h1 : decide (a + b < a) = true := by simp; omega
    have h2 : decide (b < 0) = true := by simp; omega
    go_enter Try.func17, Try.ntmps17
    go_wp2
    go_ret2
    exact ⟨rfl, rfl⟩
  · have h1 : decide (a + b < a) = false := by simp; omega
    have h2 : decide (b < 0) = false := by simp; omega
    go_enter Try.func17, Try.ntmps17
    go_wp2
    go_ret2
    exact ⟨rfl, rfl⟩
theorem vadd_out (a b : Int) (w : World) (ha : Z.I64 a) (hb : Z.I64 b) (h : ¬ (-9223372036854775808 ≤ a + b ∧ a + b < 9223372036854775808)) :
    Calls Try.prog 17 #[.int .i64 a, .int .i64 b] w fun e w' => e = .returned (.tuple #[.int .i64 0, .int .i64 8]) ∧ w' = w := by
  unfold Z.I64 at ha hb
  obtain ⟨c, hc⟩ : ∃ c, wrap64 (a + b) = c := ⟨_, rfl⟩
  have hc2 := hc
  unfold wrap64 at hc2
  by_cases hn : b < 0
  · have h1 : decide (c < a) = false := by simp; omega
    have h2 : decide (b < 0) = true := by simp; omega
    clear hc2
    go_enter Try.func17, Try.ntmps17
    go_wp2
    go_ret2
    exact ⟨rfl, rfl⟩
  · have h1 : decide (c < a) = true := by simp; omega
    have h2 : decide (b < 0) = false := by simp; omega
    clear hc2
    go_enter Try.func17, Try.ntmps17
    go_wp2
    go_ret2
    exact ⟨rfl, rfl⟩
end Go.Proofs.Ytahpbenobhodnaa

/- The contract of val's keyBytes: a number's eight bytes, the highest first. -/
import Derived.Test.YtahpbenobhodnaaZ5
import Derived.Test.YtahpbenobhodnaaE10
import Derived.Handy
namespace Go.Proofs.Ytahpbenobhodnaa
set_option linter.unusedVariables false
open Go.RowKit

/-- Eight bytes, the highest first; and back. -/
def Z.k8 (n : Nat) : List Nat := [n / 72057594037927936, n / 281474976710656 % 256, n / 1099511627776 % 256, n / 4294967296 % 256, n / 16777216 % 256, n / 65536 % 256, n / 256 % 256, n % 256]
def Z.o8 (l : List Nat) : Nat := (((((((l.getD 0 0 * 256 + l.getD 1 0) * 256 + l.getD 2 0) * 256 + l.getD 3 0) * 256 + l.getD 4 0) * 256 + l.getD 5 0) * 256 + l.getD 6 0) * 256 + l.getD 7 0)
theorem Z.k8_length (n : Nat) : (Z.k8 n).length = 8 := rfl
theorem Z.k8_lt {n : Nat} (h : n < 18446744073709551616) : ∀ x ∈ Z.k8 n, x < 256 := by
  intro x hx
  simp [Z.k8] at hx
  omega
theorem Z.o8_k8 (n : Nat) (more : List Nat) : Z.o8 (Z.k8 n ++ more) = n := by
  simp only [Z.o8, Z.k8, List.cons_append, List.getD_cons_zero, List.getD_cons_succ]; omega
theorem Z.o8_lt {l : List Nat} (h : ∀ x ∈ l, x < 256) : Z.o8 l < 18446744073709551616 := by
  have h0 := E.getD_lt h 0; have h1 := E.getD_lt h 1; have h2 := E.getD_lt h 2; have h3 := E.getD_lt h 3
  have h4 := E.getD_lt h 4; have h5 := E.getD_lt h 5; have h6 := E.getD_lt h 6; have h7 := E.getD_lt h 7
  unfold Z.o8; omega
theorem Z.k8_o8 {l : List Nat} (h : ∀ x ∈ l, x < 256) (h8 : 8 ≤ l.length) : Z.k8 (Z.o8 l) ++ l.drop 8 = l := by
  have h0 := E.getD_lt h 0; have h1 := E.getD_lt h 1; have h2 := E.getD_lt h 2; have h3 := E.getD_lt h 3
  have h4 := E.getD_lt h 4; have h5 := E.getD_lt h 5; have h6 := E.getD_lt h 6; have h7 := E.getD_lt h 7
  match l, h8 with
  | a :: b :: c :: d :: e :: f :: g :: i :: r, _ =>
    simp only [List.getD_cons_zero, List.getD_cons_succ] at h0 h1 h2 h3 h4 h5 h6 h7
    have ev : Z.o8 (a :: b :: c :: d :: e :: f :: g :: i :: r) = (((((((a * 256 + b) * 256 + c) * 256 + d) * 256 + e) * 256 + f) * 256 + g) * 256 + i) := by
      simp only [Z.o8, List.getD_cons_zero, List.getD_cons_succ]
    rw [ev]
    simp only [Z.k8, List.cons_append, List.nil_append, List.drop_succ_cons, List.drop_zero, List.cons.injEq, and_true]
    omega
theorem made_eight : madeCells (Value.int .u8 0).cells 8 = #[.int .u8 0, .int .u8 0, .int .u8 0, .int .u8 0, .int .u8 0, .int .u8 0, .int .u8 0, .int .u8 0] := by
  apply Array.ext'
  simp [madeCells, Value.cells, List.range_succ]
theorem make_eight (w : World) : (Instr.makeSlice 24 (.int .i64 8) (.int .i64 8)).run Try.prog w = .ok (.slice (some ⟨w.heap.size, 0, none⟩) 8 8) (w.alloc (.cells #[.int .u8 0, .int .u8 0, .int .u8 0, .int .u8 0, .int .u8 0, .int .u8 0, .int .u8 0, .int .u8 0] 5)) := by
  obtain ⟨i0, hi, hz0, hz1, hz2⟩ := info_parts Try.infoU8
  have h := run_make (P := Try.prog) w 24 5 i0 (.int .u8 0) Try.underlying24 hi hz0 .i64 .i64 8 8 (by omega) (Int.le_refl _) (by rw [hz2]; omega) (by omega)
  rw [hz1, Nat.mul_one] at h
  rw [h]
  show Result.ok _ (w.alloc (.cells (madeCells (Value.int .u8 0).cells 8) 5)) = _
  rw [made_eight]; rfl
/-- Eight bytes that were made. -/
theorem Sl.eight (w : World) (t : TypeId) (b0 b1 b2 b3 b4 b5 b6 b7 : Int) : Sl (w.alloc (.cells #[.int .u8 b0, .int .u8 b1, .int .u8 b2, .int .u8 b3, .int .u8 b4, .int .u8 b5, .int .u8 b6, .int .u8 b7] t)) .u8 (some ⟨w.heap.size, 0, none⟩) 8 8 [b0, b1, b2, b3, b4, b5, b6, b7] := by
  refine ⟨rfl, Nat.le_refl _, by decide, by simp, .inr ⟨_, _, rfl, by simp, ?_⟩⟩
  intro i hi
  match i, hi with
  | 0, _ => simp
  | 1, _ => simp
  | 2, _ => simp
  | 3, _ => simp
  | 4, _ => simp
  | 5, _ => simp
  | 6, _ => simp
  | 7, _ => simp
set_option maxHeartbeats 1000000 in
theorem keybytes_any (n : Int) (w : World) (h0 : 0 ≤ n) (h1 : n < 18446744073709551616) :
    Calls Try.prog 21 #[.int .u64 n] w fun e w' => e = .returned (.slice (some ⟨w.heap.size, 0, none⟩) 8 8) ∧ Sl w' .u8 (some ⟨w.heap.size, 0, none⟩) 8 8 (ints (Z.k8 n.toNat)) ∧ Below w.heap.size w w' := by
  have hmk := make_eight
  go_enter Try.func21, Try.ntmps21
  go_wp2_with fail
  go_rounds 9
  go_ret
  refine ⟨rfl, ?_, below_one _ _⟩
  have h := Sl.eight w 5 (n / 72057594037927936) (n / 281474976710656 % 256) (n / 1099511627776 % 256) (n / 4294967296 % 256) (n / 16777216 % 256) (n / 65536 % 256) (n / 256 % 256) (n % 256)
  have e : ints (Z.k8 n.toNat) = [n / 72057594037927936, n / 281474976710656 % 256, n / 1099511627776 % 256, n / 4294967296 % 256, n / 16777216 % 256, n / 65536 % 256, n / 256 % 256, n % 256] := by
    simp only [ints, Z.k8, List.map_cons, List.map_nil, List.cons.injEq, and_true]
    omega
  rw [e]; exact h
end Go.Proofs.Ytahpbenobhodnaa

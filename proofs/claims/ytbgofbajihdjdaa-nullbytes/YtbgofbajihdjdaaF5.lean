/- The contract of the document's answer for bits: Unpack. -/
import Derived.Test.YtbgofbajihdjdaaF4
namespace Go.Proofs.Ytbgofbajihdjdaa
set_option linter.unusedVariables false
open Go.RowKit

theorem tail_false (l : List Nat) (n : Nat) (hl : l.length = (n + 7) / 8) (hj : jb l n = 0) (i : Nat) (h1 : n ≤ i) (h2 : i < 8 * l.length) : (A.bitsB l).getD i false = false := by
  have hz := (jb_zero hj).2 (by omega)
  have h3 := A.bitsB_getD l i h2
  have e1 : i / 8 = (n + 7) / 8 - 1 := by omega
  have e2 : i % 8 = n % 8 + (i - n) := by omega
  rw [e1, e2] at h3
  have h4 : l.getD ((n + 7) / 8 - 1) 0 < 2 ^ (n % 8) := by
    rcases Nat.lt_or_ge (l.getD ((n + 7) / 8 - 1) 0) (2 ^ (n % 8)) with h | h
    · exact h
    · have := Nat.div_pos h (Nat.two_pow_pos (n % 8)); omega
  have h5 : l.getD ((n + 7) / 8 - 1) 0 / 2 ^ (n % 8 + (i - n)) = 0 := Nat.div_eq_of_lt (Nat.lt_of_lt_of_le h4 (Nat.pow_le_pow_right (by omega) (by omega)))
  rw [h3, h5]; rfl

theorem tail_zero (l : List Nat) (n : Nat) (hl : l.length = (n + 7) / 8) (h256 : ∀ x ∈ l, x < 256) (h : ∀ i, n ≤ i → i < 8 * l.length → (A.bitsB l).getD i false = false) : jb l n = 0 := by
  unfold jb
  rw [if_neg (by omega), if_neg (by omega), if_neg]
  rintro ⟨h8, hy⟩
  have hlast : (n + 7) / 8 - 1 < l.length := by omega
  have hy256 : l.getD ((n + 7) / 8 - 1) 0 < 256 := by
    have : l.getD ((n + 7) / 8 - 1) 0 = l[(n + 7) / 8 - 1] := by simp [List.getD, hlast]
    rw [this]; exact h256 _ (List.getElem_mem _)
  generalize hY : l.getD ((n + 7) / 8 - 1) 0 = y at hy hy256
  have hge : 2 ^ (n % 8) ≤ y := by
    rcases Nat.lt_or_ge y (2 ^ (n % 8)) with h' | h'
    · exact absurd (Nat.div_eq_of_lt h') hy
    · exact h'
  have hy0 : y ≠ 0 := by have := Nat.two_pow_pos (n % 8); omega
  have hlog : y.log2 < 8 := (Nat.log2_lt hy0).2 (by omega)
  have hlg : n % 8 ≤ y.log2 := (Nat.le_log2 hy0).2 hge
  have hb := h (n - n % 8 + y.log2) (by omega) (by omega)
  rw [A.bitsB_getD l _ (by omega)] at hb
  have e1 : (n - n % 8 + y.log2) / 8 = (n + 7) / 8 - 1 := by omega
  have e2 : (n - n % 8 + y.log2) % 8 = y.log2 := by omega
  rw [e1, e2, hY] at hb
  have hs := Nat.log2_self_le hy0
  have ht : y < 2 ^ (y.log2 + 1) := Nat.lt_log2_self
  have hd : y / 2 ^ y.log2 = 1 := by
    rw [Nat.pow_succ] at ht
    have hp := Nat.two_pow_pos y.log2
    have h1 : 1 ≤ y / 2 ^ y.log2 := (Nat.le_div_iff_mul_le hp).2 (by omega)
    have h2 : y / 2 ^ y.log2 < 2 := (Nat.div_lt_iff_lt_mul hp).2 (by omega)
    omega
  rw [hd] at hb
  simp at hb

theorem jb_four (l : List Nat) (n : Nat) (hl : l.length = (n + 7) / 8) (h : jb l n ≠ 0) : jb l n = 4 := by
  unfold jb at h ⊢
  rw [if_neg (by omega), if_neg (by omega)] at h ⊢
  split at h
  · rename_i hh; rw [if_pos hh]
  · exact absurd rfl h

set_option maxHeartbeats 400000 in
theorem runpack_arg (ao : Option Addr) (len cap : Nat) (n k : Int) (w : World) (h : k < 0 ∨ 64 < k ∨ n < 0 ∨ 1048576 < n) :
    Calls Try.prog 26 #[.slice ao len cap, .int .i64 n, .int .i64 k] w fun e w' => e = .returned (.tuple #[.slice none 0 0, .int .i64 1]) ∧ w' = w := by
  rcases (show n < 0 ∨ (0 ≤ n ∧ 1048576 < n) ∨ (0 ≤ n ∧ n ≤ 1048576 ∧ k < 0) ∨ (0 ≤ n ∧ n ≤ 1048576 ∧ 0 ≤ k ∧ 64 < k) by omega) with h1 | ⟨h1, h2⟩ | ⟨h1, h2, h3⟩ | ⟨h1, h2, h3, h4⟩
  all_goals
    clear h
    go_enter Try.func26, Try.ntmps26
    go_wp2
    go_ret2
    exact ⟨rfl, rfl⟩

set_option maxHeartbeats 400000 in
theorem runpack_len (ao : Option Addr) (len cap : Nat) (l : List Nat) (n k : Nat) (w : World) (hl : l.length = len) (hm : len ≤ 1099511627776) (hn : n ≤ 1048576) (hk : k ≤ 64) (h : len ≠ (n * k + 7) / 8) :
    Calls Try.prog 26 #[.slice ao len cap, .int .i64 n, .int .i64 k] w fun e w' => e = .returned (.tuple #[.slice none 0 0, .int .i64 ((jb l (n * k) : Nat) : Int)]) ∧ w' = w := by
  have hnk : n * k ≤ 1048576 * 64 := Nat.mul_le_mul hn hk
  have hi : (n : Int) * (k : Int) = ((n * k : Nat) : Int) := (Int.natCast_mul n k).symm
  generalize n * k = N at *
  rcases (show len < (N + 7) / 8 ∨ (N + 7) / 8 < len by omega) with h1 | h1
  · have hj : jb l N = 3 := by unfold jb; rw [hl, if_pos h1]
    rw [hj]
    clear h hl hj
    go_enter Try.func26, Try.ntmps26
    go_wp2
    go_ret2
    exact ⟨rfl, rfl⟩
  · have hj : jb l N = 4 := by unfold jb; rw [hl, if_neg (by omega), if_pos h1]
    rw [hj]
    clear h hl hj
    go_enter Try.func26, Try.ntmps26
    go_wp2
    go_ret2
    exact ⟨rfl, rfl⟩
end Go.Proofs.Ytbgofbajihdjdaa

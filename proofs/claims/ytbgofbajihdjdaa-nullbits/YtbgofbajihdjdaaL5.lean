/- The walk of the statement: what is unpacked is packed as the very bytes. -/
import Derived.Test.YtbgofbajihdjdaaL4
namespace Go.Proofs.Ytbgofbajihdjdaa
set_option linter.unusedVariables false
open Go.RowKit

/-- Unpack, where the bytes aren't just so many bits. -/
theorem unpack_bad (ao : Option Addr) (len cap : Nat) (l : List Nat) (n k : Int) (w : World) (h : Sl w .u8 ao len cap (ints l)) (hm : len ≤ 140737488355328) (hn0 : 0 ≤ n) (hn : n ≤ 1048576) (hk0 : 0 ≤ k) (hk : k ≤ 64) (c : Int) (hj : ((jb l (n.toNat * k.toNat) : Nat) : Int) = c) (hc : c ≠ 0) :
    Calls Try.prog 25 #[.slice ao len cap, .int .i64 n, .int .i64 k] w fun e w' => e = .returned (.tuple #[.slice none 0 0, .int .i64 c]) ∧ w' = w := by
  obtain ⟨i, rfl⟩ := Int.eq_ofNat_of_zero_le hn0
  obtain ⟨j, rfl⟩ := Int.eq_ofNat_of_zero_le hk0
  rw [Int.toNat_natCast, Int.toNat_natCast] at hj
  rw [← hj]
  exact unpack_no ao len cap l i j w h hm (by omega) (by omega) (by omega)

/-- Unpack, where they are. -/
theorem unpack_good (ao : Option Addr) (len cap : Nat) (l : List Nat) (n k : Int) (w : World) (h : Sl w .u8 ao len cap (ints l)) (h256 : ∀ x ∈ l, x < 256) (hm : len ≤ 140737488355328) (hn0 : 0 ≤ n) (hn : n ≤ 1048576) (hk0 : 0 ≤ k) (hk : k ≤ 64) (hj : jb l (n.toNat * k.toNat) = 0) :
    Calls Try.prog 25 #[.slice ao len cap, .int .i64 n, .int .i64 k] w fun e w' => ∃ v', e = .returned (.tuple #[v', .int .i64 0]) ∧ w'.ownsRow w.heap.size 56 1 v' n.toNat ((nums l n.toNat k.toNat).map (Value.int .u64)) ∧ Below w.heap.size w w' := by
  obtain ⟨i, rfl⟩ := Int.eq_ofNat_of_zero_le hn0
  obtain ⟨j, rfl⟩ := Int.eq_ofNat_of_zero_le hk0
  rw [Int.toNat_natCast, Int.toNat_natCast] at hj
  rw [Int.toNat_natCast, Int.toNat_natCast]
  exact unpack_yes ao len cap l i j w h h256 hm (by omega) (by omega) hj

theorem jb_more (l : List Nat) (n : Nat) (h : jb l n = 0) : jb (l ++ [0]) n = 4 := by
  have := (jb_zero h).1
  unfold jb
  rw [if_neg (by simp; omega), if_pos (by simp; omega)]

end Go.Proofs.Ytbgofbajihdjdaa

/- The walk of the statement: what was packed is unpacked. -/
import Derived.Test.YtbgofbajihdjdaaL3
namespace Go.Proofs.Ytbgofbajihdjdaa
set_option linter.unusedVariables false
open Go.RowKit

/-- Pack, with a width that may be, as a whole number. -/
theorem pack_i (ao : Option Addr) (len cap : Nat) (l : List Int) (k : Int) (w : World) (h : Sl w .u64 ao len cap l) (hm : len * 64 + 64 < 1099511627776) (hin : In64 l) (hk0 : 0 ≤ k) (hk : k ≤ 64) :
    Calls Try.prog 27 #[.slice ao len cap, .int .i64 k] w fun e w' =>
      (Fit l k.toNat ∧ ∃ v', e = .returned (.tuple #[v', .int .i64 0]) ∧ w'.ownsRow w.heap.size 5 1 v' (A.bytesOf (bitsAll l k.toNat)).length (B8 (A.bytesOf (bitsAll l k.toNat))) ∧ Below w.heap.size w w') ∨
      (¬ Fit l k.toNat ∧ e = .returned (.tuple #[.slice none 0 0, .int .i64 1]) ∧ Below w.heap.size w w') := by
  obtain ⟨j, rfl⟩ := Int.eq_ofNat_of_zero_le hk0
  rw [Int.toNat_natCast]
  exact pack_any ao len cap l j w h hm hin (by omega)

/-- Unpack of what was packed. -/
theorem unpack_pack (ao : Option Addr) (len cap : Nat) (l : List Int) (n k : Int) (w : World) (h : Sl w .u8 ao len cap (ints (A.bytesOf (bitsAll l k.toNat)))) (hl : n = (l.length : Int)) (hm : l.length ≤ 1048576) (hin : In64 l) (hk0 : 0 ≤ k) (hk : k ≤ 64) (hf : Fit l k.toNat) :
    Calls Try.prog 25 #[.slice ao len cap, .int .i64 n, .int .i64 k] w fun e w' => ∃ v', e = .returned (.tuple #[v', .int .i64 0]) ∧ w'.ownsRow w.heap.size 56 1 v' l.length (l.map (Value.int .u64)) ∧ Below w.heap.size w w' := by
  subst hl
  obtain ⟨j, rfl⟩ := Int.eq_ofNat_of_zero_le hk0
  rw [Int.toNat_natCast] at h hf
  have hbl := bitsAll_length l j
  have hj : jb (A.bytesOf (bitsAll l j)) (l.length * j) = 0 := by rw [← hbl]; exact jb_bytes _
  have hlen : len = (A.bytesOf (bitsAll l j)).length := by rw [← h.1, ints_length]
  rw [A.bytesOf_length, hbl] at hlen
  have hmul : l.length * j ≤ 1048576 * 64 := Nat.mul_le_mul hm (by omega)
  have := unpack_yes ao len cap (A.bytesOf (bitsAll l j)) l.length j w h (A.bytesOf_lt _) (by omega) hm (by omega) hj
  rw [nums_pack l j hin hf] at this
  exact this

/-- Pack, with a bit less than the numbers need. -/
theorem pack_less (ao : Option Addr) (len cap : Nat) (l : List Int) (w : World) (h : Sl w .u64 ao len cap l) (hm : len * 64 + 64 < 1099511627776) (hin : In64 l) :
    Calls Try.prog 27 #[.slice ao len cap, .int .i64 ((wid l : Int) - 1)] w fun e w' => e = .returned (.tuple #[.slice none 0 0, .int .i64 1]) ∧ Below w.heap.size w w' := by
  have hw := wid_le l hin
  by_cases h0 : wid l = 0
  · refine (pack_arg ao len cap _ w (.inl (by omega))).mono ?_
    rintro e w' ⟨rfl, rfl⟩
    exact ⟨rfl, Below.refl _ _⟩
  · refine (pack_i ao len cap l _ w h hm hin (by omega) (by omega)).mono ?_
    rintro e w' (⟨hf, _⟩ | ⟨_, rfl, hb⟩)
    · have := (fit_wid l _ hin).1 hf
      omega
    · exact ⟨rfl, hb⟩

end Go.Proofs.Ytbgofbajihdjdaa

/- Pack and Unpack, the program's and the document's, each under one name; the walk of the statement that they are the same. -/
import Derived.Test.YtbgofbajihdjdaaF6
import Derived.Test.YtbgofbajihdjdaaL5
namespace Go.Proofs.Ytbgofbajihdjdaa
set_option linter.unusedVariables false
open Go.RowKit

def packOk (l : List Int) (k : Int) : Bool := decide (0 ≤ k) && decide (k ≤ 64) && allFit l k.toNat l.length
def packB (l : List Int) (k : Int) : List Nat := if packOk l k then A.bytesOf (bitsAll l k.toNat) else []
def packC (l : List Int) (k : Int) : Int := if packOk l k then 0 else 1
theorem packOk_yes {l : List Int} {k : Int} (h0 : 0 ≤ k) (h1 : k ≤ 64) (hf : Fit l k.toNat) : packOk l k = true := by
  unfold packOk; rw [(allFit_all l k.toNat).2 hf]; simp [h0, h1]
theorem packOk_no {l : List Int} {k : Int} (h : k < 0 ∨ 64 < k ∨ ¬ Fit l k.toNat) : packOk l k = false := by
  unfold packOk
  rcases h with h | h | h
  · rw [decide_eq_false (show ¬ 0 ≤ k by omega)]; rfl
  · rw [decide_eq_false (show ¬ k ≤ 64 by omega)]; simp
  · rw [show allFit l k.toNat l.length = false by rw [← Bool.not_eq_true]; exact fun h' => h ((allFit_all l k.toNat).1 h')]; simp

theorem packB_le (l : List Int) (k : Int) : (packB l k).length ≤ l.length * 8 + 1 := by
  unfold packB
  split
  · rename_i h
    have hk : k.toNat ≤ 64 := by simp [packOk] at h; omega
    rw [A.bytesOf_length, bitsAll_length]
    have : l.length * k.toNat ≤ l.length * 64 := Nat.mul_le_mul_left _ hk
    omega
  · simp

theorem pack_u (ao : Option Addr) (len cap : Nat) (l : List Int) (k : Int) (w : World) (h : Sl w .u64 ao len cap l) (hm : len * 64 + 64 < 1099511627776) (hin : In64 l) :
    Calls Try.prog 27 #[.slice ao len cap, .int .i64 k] w fun e w' => ∃ v, e = .returned (.tuple #[v, .int .i64 (packC l k)]) ∧ w'.ownsRow w.heap.size 5 1 v (packB l k).length (B8 (packB l k)) ∧ Below w.heap.size w w' := by
  by_cases hk : 0 ≤ k ∧ k ≤ 64
  · refine (pack_i ao len cap l k w h hm hin hk.1 hk.2).mono ?_
    rintro e w' (⟨hf, v, rfl, ho, hb⟩ | ⟨hf, rfl, hb⟩)
    · rw [packC, packB, packOk_yes hk.1 hk.2 hf, if_pos rfl, if_pos rfl]
      exact ⟨v, rfl, ho, hb⟩
    · rw [packC, packB, packOk_no (.inr (.inr hf)), if_neg (by simp), if_neg (by simp)]
      exact ⟨_, rfl, World.ownsRow_nil _ _ _ _, hb⟩
  · refine (pack_arg ao len cap k w (by omega)).mono ?_
    rintro e w' ⟨rfl, rfl⟩
    rw [packC, packB, packOk_no (by omega), if_neg (by simp), if_neg (by simp)]
    exact ⟨_, rfl, World.ownsRow_nil _ _ _ _, Below.refl _ _⟩

def unpArg (n k : Int) : Bool := decide (0 ≤ k) && decide (k ≤ 64) && decide (0 ≤ n) && decide (n ≤ 1048576)
def unpC (l : List Nat) (n k : Int) : Int := if unpArg n k then ((jb l (n.toNat * k.toNat) : Nat) : Int) else 1
def unpL (l : List Nat) (n k : Int) : List Int := if unpArg n k && jb l (n.toNat * k.toNat) == 0 then nums l n.toNat k.toNat else []
theorem unpArg_iff (n k : Int) : unpArg n k = true ↔ 0 ≤ k ∧ k ≤ 64 ∧ 0 ≤ n ∧ n ≤ 1048576 := by simp [unpArg, and_assoc]
theorem unpL_le (l : List Nat) (n k : Int) : (unpL l n k).length ≤ 1048576 := by
  unfold unpL
  split
  · rename_i h
    rw [Bool.and_eq_true, unpArg_iff] at h
    rw [nums_length]; omega
  · simp

theorem unpack_u (ao : Option Addr) (len cap : Nat) (l : List Nat) (n k : Int) (w : World) (h : Sl w .u8 ao len cap (ints l)) (h256 : ∀ x ∈ l, x < 256) (hm : len ≤ 1099511627776) :
    Calls Try.prog 25 #[.slice ao len cap, .int .i64 n, .int .i64 k] w fun e w' => ∃ v, e = .returned (.tuple #[v, .int .i64 (unpC l n k)]) ∧ w'.ownsRow w.heap.size 56 1 v (unpL l n k).length ((unpL l n k).map (Value.int .u64)) ∧ Below w.heap.size w w' := by
  by_cases ha : unpArg n k = true
  · obtain ⟨h0, h1, h2, h3⟩ := (unpArg_iff n k).1 ha
    by_cases hj : jb l (n.toNat * k.toNat) = 0
    · refine (unpack_good ao len cap l n k w h h256 (by omega) h2 h3 h0 h1 hj).mono ?_
      rintro e w' ⟨v, rfl, ho, hb⟩
      rw [unpC, unpL, ha, hj, if_pos rfl, if_pos (by simp), nums_length]
      exact ⟨v, rfl, ho, hb⟩
    · refine (unpack_bad ao len cap l n k w h (by omega) h2 h3 h0 h1 _ rfl (by omega)).mono ?_
      rintro e w' ⟨rfl, rfl⟩
      rw [unpC, unpL, ha, if_pos rfl, if_neg (by simp [hj])]
      exact ⟨_, rfl, World.ownsRow_nil _ _ _ _, Below.refl _ _⟩
  · have hn : ¬ (0 ≤ k ∧ k ≤ 64 ∧ 0 ≤ n ∧ n ≤ 1048576) := fun h => ha ((unpArg_iff n k).2 h)
    refine (unpack_arg ao len cap n k w (by omega)).mono ?_
    rintro e w' ⟨rfl, rfl⟩
    rw [unpC, unpL, if_neg ha, if_neg (by simp [ha])]
    exact ⟨_, rfl, World.ownsRow_nil _ _ _ _, Below.refl _ _⟩

theorem runpack_u (ao : Option Addr) (len cap : Nat) (l : List Nat) (n k : Int) (w : World) (h : Sl w .u8 ao len cap (ints l)) (h256 : ∀ x ∈ l, x < 256) (hm : len ≤ 1099511627776) :
    Calls Try.prog 26 #[.slice ao len cap, .int .i64 n, .int .i64 k] w fun e w' => ∃ v, e = .returned (.tuple #[v, .int .i64 (unpC l n k)]) ∧ w'.ownsRow w.heap.size 56 1 v (unpL l n k).length ((unpL l n k).map (Value.int .u64)) ∧ Below w.heap.size w w' := by
  by_cases ha : unpArg n k = true
  · obtain ⟨h0, h1, h2, h3⟩ := (unpArg_iff n k).1 ha
    obtain ⟨i, rfl⟩ := Int.eq_ofNat_of_zero_le h2
    obtain ⟨j, rfl⟩ := Int.eq_ofNat_of_zero_le h0
    refine (runpack_any ao len cap l i j w h h256 hm (by omega) (by omega)).mono ?_
    rintro e w' (⟨hj, v, rfl, ho, hb⟩ | ⟨hj, rfl, hb⟩)
    · rw [unpC, unpL, ha, Int.toNat_natCast, Int.toNat_natCast, hj, if_pos rfl, if_pos (by simp), nums_length]
      exact ⟨v, rfl, ho, hb⟩
    · rw [unpC, unpL, ha, Int.toNat_natCast, Int.toNat_natCast, if_pos rfl, if_neg (by simp [hj])]
      exact ⟨_, rfl, World.ownsRow_nil _ _ _ _, hb⟩
  · have hn : ¬ (0 ≤ k ∧ k ≤ 64 ∧ 0 ≤ n ∧ n ≤ 1048576) := fun h => ha ((unpArg_iff n k).2 h)
    refine (runpack_arg ao len cap n k w (by omega)).mono ?_
    rintro e w' ⟨rfl, rfl⟩
    rw [unpC, unpL, if_neg ha, if_neg (by simp [ha])]
    exact ⟨_, rfl, World.ownsRow_nil _ _ _ _, Below.refl _ _⟩

end Go.Proofs.Ytbgofbajihdjdaa

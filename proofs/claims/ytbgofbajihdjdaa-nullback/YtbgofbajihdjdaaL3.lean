/- Plain facts: what was packed is unpacked, what is unpacked is packed as the very bytes; the walks of the two statements that say so. -/
import Derived.Test.YtbgofbajihdjdaaC6
import Derived.Test.YtbgofbajihdjdaaRU
namespace Go.Proofs.Ytbgofbajihdjdaa
set_option linter.unusedVariables false
open Go.RowKit

theorem bitsAll_cons (x : Int) (l : List Int) (k : Nat) : bitsAll (x :: l) k = A.bitsOf x.toNat k ++ bitsAll l k := by simp [bitsAll]

theorem bitsAll_cut (l : List Int) (k i : Nat) (h : i < l.length) : ((bitsAll l k).drop (i * k)).take k = A.bitsOf (l.getD i 0).toNat k := by
  induction l generalizing i with
  | nil => simp at h
  | cons x r ih =>
    rw [bitsAll_cons]
    cases i with
    | zero =>
      rw [Nat.zero_mul, List.drop_zero, List.take_append_of_le_length (by simp [A.bitsOf_length]), List.take_of_length_le (by simp [A.bitsOf_length])]
      rfl
    | succ i =>
      have hlen := A.bitsOf_length x.toNat k
      have e : (i + 1) * k = (A.bitsOf x.toNat k).length + i * k := by rw [hlen, Nat.add_mul]; omega
      rw [e, List.drop_append, List.drop_of_length_le (by omega), List.nil_append, Nat.add_sub_cancel_left, ih i (by simpa using h)]
      rfl

theorem getV_pack (l : List Int) (k i : Nat) (h : i < l.length) (hin : In64 l) (hf : Fit l k) : ((getV (A.bytesOf (bitsAll l k)) (i * k) k : Nat) : Int) = l.getD i 0 := by
  unfold getV
  have hle : i * k + k ≤ (bitsAll l k).length := by
    rw [bitsAll_length]
    have : (i + 1) * k ≤ l.length * k := Nat.mul_le_mul_right k h
    rw [Nat.add_mul] at this
    omega
  rw [A.bitsB_bytesOf, A.padded, List.drop_append_of_le_length (by omega), List.take_append_of_le_length (by simp; omega), bitsAll_cut l k i h, A.valOf_bitsOf]
  have hm : l.getD i 0 ∈ l := by
    have : l.getD i 0 = l[i] := by simp [List.getD, h]
    rw [this]; exact List.getElem_mem _
  have h1 := hf _ hm
  have h2 := hin _ hm
  generalize l.getD i 0 = x at h1 h2
  rw [← pow_int] at h1
  rw [Nat.mod_eq_of_lt (by omega)]
  omega

theorem nums_pack (l : List Int) (k : Nat) (hin : In64 l) (hf : Fit l k) : nums (A.bytesOf (bitsAll l k)) l.length k = l := by
  apply List.ext_getElem
  · simp [nums]
  · intro i h1 h2
    have := getV_pack l k i h2 hin hf
    simp only [nums, List.getElem_map, List.getElem_range]
    rw [this]; simp [List.getD, h2]

theorem jb_bytes (bs : List Bool) : jb (A.bytesOf bs) bs.length = 0 := by
  unfold jb
  rw [A.bytesOf_length, if_neg (by omega), if_neg (by omega), if_neg]
  rintro ⟨h1, h2⟩
  exact h2 (Nat.div_eq_of_lt (A.last_lt bs h1))

theorem bits_nums (l : List Nat) (n k : Nat) (h : n * k ≤ 8 * l.length) : bitsAll (nums l n k) k = (A.bitsB l).take (n * k) := by
  induction n with
  | zero => simp [nums, bitsAll]
  | succ n ih =>
    have hle : n * k + k ≤ 8 * l.length := by rw [Nat.add_mul] at h; omega
    rw [nums_succ, bitsAll_snoc, ih (by omega), Int.toNat_natCast, Nat.add_mul, Nat.one_mul, List.take_add]
    congr 1
    unfold getV
    have hl : (((A.bitsB l).drop (n * k)).take k).length = k := by simp [A.bitsB_length]; omega
    have := A.bitsOf_valOf (((A.bitsB l).drop (n * k)).take k)
    rw [hl] at this
    exact this

theorem bytes_cut (l : List Nat) (n : Nat) (h256 : ∀ x ∈ l, x < 256) (hj : jb l n = 0) : A.bytesOf ((A.bitsB l).take n) = l := by
  obtain ⟨h1, h2⟩ := jb_zero hj
  have hlen : ((A.bitsB l).take n).length = n := by simp [A.bitsB_length]; omega
  have hb : A.bitsB (A.bytesOf ((A.bitsB l).take n)) = A.bitsB l := by
    rw [A.bitsB_bytesOf, A.padded, hlen]
    conv => rhs; rw [← List.take_append_drop n (A.bitsB l)]
    congr 1
    have hdl : ((A.bitsB l).drop n).length = 8 * ((n + 7) / 8) - n := by simp [A.bitsB_length]; omega
    symm
    rw [← hdl]
    apply List.eq_replicate_iff.2
    refine ⟨rfl, ?_⟩
    intro b hb
    obtain ⟨i, hi, rfl⟩ := List.getElem_of_mem hb
    rw [hdl] at hi
    have hni : n + i < 8 * l.length := by omega
    have h3 := A.bitsB_getD l (n + i) hni
    have h8 : n % 8 ≠ 0 := by omega
    have hz := h2 h8
    have e1 : (n + i) / 8 = (n + 7) / 8 - 1 := by omega
    have e2 : (n + i) % 8 = n % 8 + i := by omega
    rw [e1, e2] at h3
    have h4 : l.getD ((n + 7) / 8 - 1) 0 < 2 ^ (n % 8) := by
      rcases Nat.lt_or_ge (l.getD ((n + 7) / 8 - 1) 0) (2 ^ (n % 8)) with h | h
      · exact h
      · have := Nat.div_pos h (Nat.two_pow_pos (n % 8)); omega
    have h5 : l.getD ((n + 7) / 8 - 1) 0 / 2 ^ (n % 8 + i) = 0 := Nat.div_eq_of_lt (Nat.lt_of_lt_of_le h4 (Nat.pow_le_pow_right (by omega) (by omega)))
    rw [h5] at h3
    simp only [List.getElem_drop]
    have h6 : (A.bitsB l).getD (n + i) false = (A.bitsB l)[n + i]'(by rw [A.bitsB_length]; omega) := by simp [List.getD, A.bitsB_length, hni]
    rw [← h6, h3]; rfl
  have h7 := congrArg A.bytesOf hb
  rwa [A.bytesOf_bitsB _ (A.bytesOf_lt _), A.bytesOf_bitsB _ h256] at h7

theorem bytes_nums (l : List Nat) (n k : Nat) (h256 : ∀ x ∈ l, x < 256) (hj : jb l (n * k) = 0) : A.bytesOf (bitsAll (nums l n k) k) = l := by
  have h1 := (jb_zero hj).1
  rw [bits_nums l n k (by omega)]
  exact bytes_cut l (n * k) h256 hj

theorem In64_nums (l : List Nat) (n k : Nat) (hk : k ≤ 64) : In64 (nums l n k) ∧ Fit (nums l n k) k := by
  constructor
  all_goals
    intro x hx
    simp only [nums, List.mem_map] at hx
    obtain ⟨i, _, rfl⟩ := hx
    have h1 := getV_lt l (i * k) k
  · have h2 : 2 ^ k ≤ 2 ^ 64 := Nat.pow_le_pow_right (by omega) hk
    omega
  · rw [← pow_int]; omega

end Go.Proofs.Ytbgofbajihdjdaa

/- Plain facts on numbers of so many bits: packed, unpacked, and the width that they need. Nothing of the program. -/
import Derived.Test.YtkcpfgjkplailaaBdA
import Derived.Laws.MathBits
import Derived.Test.YtkcpfgjkplailaaRows
import Derived.WalkKit
import Derived.WalkSpells
import Derived.WalkLawsBesides
import Derived.ArgAppend
import Derived.Laws.AppendOwnNone
namespace Go.Proofs.Ytkcpfgjkplailaa
set_option linter.unusedVariables false
open Go.RowKit

/-- The bit at a place of bytes, as a number; the number of so many bits from a place on. -/
def bitAt (l : List Nat) (pos : Nat) : Nat := ((A.bitsB l).getD pos false).toNat
def getV (l : List Nat) (pos k : Nat) : Nat := A.valOf (((A.bitsB l).drop pos).take k)
theorem bitAt_le (l : List Nat) (pos : Nat) : bitAt l pos ≤ 1 := by unfold bitAt; cases (A.bitsB l).getD pos false <;> simp
theorem take_drop_succ (l : List Bool) (pos j : Nat) (h : pos + j < l.length) : (l.drop pos).take (j + 1) = (l.drop pos).take j ++ [l.getD (pos + j) false] := by
  rw [List.take_succ_eq_append_getElem (by simp; omega)]
  simp [List.getD, h]
theorem getV_succ (l : List Nat) (pos j : Nat) (h : pos + j < 8 * l.length) : getV l pos (j + 1) = getV l pos j + 2 ^ j * bitAt l (pos + j) := by
  unfold getV bitAt
  have hl : (((A.bitsB l).drop pos).take j).length = j := by simp [A.bitsB_length]; omega
  rw [take_drop_succ _ _ _ (by rw [A.bitsB_length]; omega), A.valOf_append, hl]
  simp [A.valOf]
theorem getV_lt (l : List Nat) (pos j : Nat) : getV l pos j < 2 ^ j := by
  unfold getV
  have h1 := A.valOf_lt (((A.bitsB l).drop pos).take j)
  have h2 : (((A.bitsB l).drop pos).take j).length ≤ j := List.length_take_le _ _
  exact Nat.lt_of_lt_of_le h1 (Nat.pow_le_pow_right (by omega) h2)
/-- All numbers' bits joined. -/
def orAll (l : List Int) : Nat := l.foldl (fun a x => a ||| x.toNat) 0
theorem orAll_snoc (l : List Int) (x : Int) : orAll (l ++ [x]) = orAll l ||| x.toNat := by simp [orAll]
theorem orAll_lt (l : List Int) (h : ∀ x ∈ l, x < 18446744073709551616) : orAll l < 18446744073709551616 := by
  have gen : ∀ (l : List Int) (a : Nat), a < 2 ^ 64 → (∀ x ∈ l, x < 18446744073709551616) → l.foldl (fun a x => a ||| x.toNat) a < 2 ^ 64 := by
    intro l
    induction l with
    | nil => intro a ha _; exact ha
    | cons y r ih =>
      intro a ha hh
      have hy := hh y (by simp)
      exact ih _ (Nat.or_lt_two_pow ha (by omega)) (fun x hx => hh x (by simp [hx]))
  have := gen l 0 (by omega) h
  unfold orAll; omega
theorem take_snocD (l : List Int) (k : Nat) (h : k < l.length) : l.take (k + 1) = l.take k ++ [l.getD k 0] := by
  rw [List.take_succ_eq_append_getElem h]; simp [List.getD, h]
/-- What each number of a kind is. -/
def In64 (l : List Int) : Prop := ∀ x ∈ l, 0 ≤ x ∧ x < 18446744073709551616
theorem In64.getD {l : List Int} (h : In64 l) (k : Nat) : 0 ≤ l.getD k 0 ∧ l.getD k 0 < 18446744073709551616 := by
  by_cases hk : k < l.length
  · have : l.getD k 0 = l[k] := by simp [List.getD, hk]
    rw [this]; exact h _ (List.getElem_mem hk)
  · have : l.getD k 0 = 0 := by simp [List.getD, Nat.le_of_not_lt hk]
    rw [this]; decide
/-- All numbers' bits, one behind the other. -/
def bitsAll (l : List Int) (k : Nat) : List Bool := l.flatMap fun x => A.bitsOf x.toNat k
theorem bitsAll_snoc (l : List Int) (x : Int) (k : Nat) : bitsAll (l ++ [x]) k = bitsAll l k ++ A.bitsOf x.toNat k := by simp [bitsAll]
theorem bitsAll_length (l : List Int) (k : Nat) : (bitsAll l k).length = l.length * k := by
  induction l with
  | nil => simp [bitsAll]
  | cons x r ih => simp only [bitsAll, List.flatMap_cons, List.length_append, A.bitsOf_length, List.length_cons] at ih ⊢; rw [ih, Nat.succ_mul]; omega
theorem bitsAll_le (l : List Int) (k j : Nat) (hk : k ≤ 64) : (bitsAll (l.take j) k).length ≤ l.length * 64 := by
  rw [bitsAll_length]
  exact Nat.mul_le_mul (List.length_take_le' _ _) hk
/-- Each number is below 2 to the width. -/
def Fit (l : List Int) (k : Nat) : Prop := ∀ x ∈ l, x < (2 : Int) ^ k
theorem Fit.snoc {l : List Int} {k : Nat} {j : Nat} (h : Fit (l.take j) k) (hj : j < l.length) (hx : l.getD j 0 < (2 : Int) ^ k) : Fit (l.take (j + 1)) k := by
  rw [take_snocD l j hj]
  intro x hx'
  rcases List.mem_append.1 hx' with h1 | h1
  · exact h x h1
  · simp only [List.mem_singleton] at h1; subst h1; exact hx
theorem bitLen_or (a b : Nat) : bitLen (a ||| b) = max (bitLen a) (bitLen b) := by
  have key : ∀ a b : Nat, bitLen a ≤ bitLen b → bitLen (a ||| b) = bitLen b := by
    intro a b h
    by_cases hb : b = 0
    · subst hb
      have ha : a = 0 := by
        by_cases h0 : a = 0
        · exact h0
        · simp [bitLen, h0] at h
      subst ha; rfl
    · have h1 := (bitLen_spec a).1
      have h2 := bitLen_spec b
      have h3 : a < 2 ^ bitLen b := Nat.lt_of_lt_of_le h1 (Nat.pow_le_pow_right (by omega) h)
      have h4 : a ||| b < 2 ^ bitLen b := Nat.or_lt_two_pow h3 h2.1
      have h5 : b ≤ a ||| b := Nat.right_le_or
      have hne : a ||| b ≠ 0 := by omega
      have hp : 0 < bitLen b := by unfold bitLen; rw [if_neg hb]; omega
      have h6 := h2.2 hb
      have e : (a ||| b).log2 = bitLen b - 1 := (Nat.log2_eq_iff hne).2 ⟨by omega, by rw [show bitLen b - 1 + 1 = bitLen b by omega]; exact h4⟩
      unfold bitLen at e hp ⊢
      rw [if_neg hne, e]
      omega
  rcases Nat.le_total (bitLen a) (bitLen b) with h | h
  · rw [key a b h]; omega
  · rw [Nat.or_comm, key b a h]; omega
theorem bitLen_half (a : Nat) : bitLen (a / 2) = bitLen a - 1 := by
  by_cases h : a / 2 = 0
  · have : a = 0 ∨ a = 1 := by omega
    rcases this with rfl | rfl <;> simp [bitLen]
    decide
  · have := bitLen_shift a 1 (by simpa using h)
    simp at this
    omega
theorem or_half (a b : Nat) : (a ||| b) / 2 = a / 2 ||| b / 2 := by
  have := Nat.shiftRight_or_distrib (a := a) (b := b) (i := 1)
  simpa [Nat.shiftRight_eq_div_pow] using this
theorem foldl_or (l : List Int) (a : Nat) : l.foldl (fun a x => a ||| x.toNat) a = a ||| orAll l := by
  induction l generalizing a with
  | nil => simp [orAll]
  | cons x r ih =>
    simp only [List.foldl_cons, orAll]
    rw [ih, ih, Nat.zero_or, Nat.or_assoc]
theorem orAll_cons (x : Int) (l : List Int) : orAll (x :: l) = x.toNat ||| orAll l := by
  simp only [orAll, List.foldl_cons, Nat.zero_or]
  rw [foldl_or]; rfl
theorem orAll_half (l : List Int) (h : In64 l) : orAll (l.map (· / 2)) = orAll l / 2 := by
  induction l with
  | nil => rfl
  | cons x r ih =>
    have hx := h x (by simp)
    rw [List.map_cons, orAll_cons, orAll_cons, or_half, ih (fun y hy => h y (by simp [hy]))]
    have : (x / 2).toNat = x.toNat / 2 := by omega
    rw [this]
theorem In64.half {l : List Int} (h : In64 l) : In64 (l.map (· / 2)) := by
  intro x hx
  obtain ⟨y, hy, rfl⟩ := List.mem_map.1 hx
  have := h y hy
  show 0 ≤ y / 2 ∧ y / 2 < _
  omega
theorem In64.snoc {l : List Int} (h : In64 l) {x : Int} (h0 : 0 ≤ x) (h1 : x < 18446744073709551616) : In64 (l ++ [x]) := by
  intro y hy
  rcases List.mem_append.1 hy with h' | h'
  · exact h y h'
  · simp only [List.mem_singleton] at h'; subst h'; exact ⟨h0, h1⟩
/-- The width that a list's numbers need, as one number. -/
def wid (l : List Int) : Nat := bitLen (orAll l)
theorem wid_snoc (l : List Int) (x : Int) : wid (l ++ [x]) = max (wid l) (wid [x]) := by
  unfold wid
  rw [orAll_snoc, bitLen_or]
  simp [orAll]
theorem wid_half (l : List Int) (h : In64 l) : wid (l.map (· / 2)) = wid l - 1 := by
  unfold wid
  rw [orAll_half l h, bitLen_half]
theorem bitLen_le (a : Nat) (h : a < 18446744073709551616) : bitLen a ≤ 64 := by
  unfold bitLen
  split
  · omega
  · rename_i h0
    have := (Nat.log2_lt h0).2 (show a < 2 ^ 64 from h)
    omega
theorem wid_le (l : List Int) (h : In64 l) : wid l ≤ 64 := bitLen_le _ (orAll_lt l fun x hx => (h x hx).2)
theorem bitLen_le_iff (a k : Nat) : bitLen a ≤ k ↔ a < 2 ^ k := by
  have h := bitLen_spec a
  constructor
  · intro hk; exact Nat.lt_of_lt_of_le h.1 (Nat.pow_le_pow_right (by omega) hk)
  · intro hk
    by_cases h0 : a = 0
    · subst h0; simp [bitLen]
    · have h2 := h.2 h0
      rcases Nat.lt_or_ge k (bitLen a) with hlt | hge
      · have : 2 ^ k ≤ 2 ^ (bitLen a - 1) := Nat.pow_le_pow_right (by omega) (by omega)
        omega
      · exact hge
theorem fit_wid (l : List Int) (k : Nat) (hin : In64 l) : Fit l k ↔ wid l ≤ k := by
  induction l with
  | nil => simp [Fit, wid, orAll, bitLen]
  | cons x r ih =>
    have hx := hin x (by simp)
    have ih' := ih (fun y hy => hin y (by simp [hy]))
    unfold wid at ih' ⊢
    rw [orAll_cons, bitLen_or]
    have h1 : Fit (x :: r) k ↔ x < (2 : Int) ^ k ∧ Fit r k := by simp [Fit]
    have h2 := bitLen_le_iff x.toNat k
    rw [h1, ih', ← pow_int]
    omega
/-- What is wrong with bytes as so many bits: 3: too few; 4: too many, or a bit behind them is set. -/
def jb (l : List Nat) (n : Nat) : Nat :=
  if l.length < (n + 7) / 8 then 3 else if (n + 7) / 8 < l.length then 4 else if n % 8 ≠ 0 ∧ l.getD ((n + 7) / 8 - 1) 0 / 2 ^ (n % 8) ≠ 0 then 4 else 0
theorem jb_zero {l : List Nat} {n : Nat} (h : jb l n = 0) : l.length = (n + 7) / 8 ∧ (n % 8 ≠ 0 → l.getD ((n + 7) / 8 - 1) 0 / 2 ^ (n % 8) = 0) := by
  unfold jb at h
  split at h
  · omega
  · split at h
    · omega
    · split at h
      · omega
      · rename_i h1 h2 h3
        refine ⟨by omega, fun h4 => ?_⟩
        rcases Nat.eq_zero_or_pos (l.getD ((n + 7) / 8 - 1) 0 / 2 ^ (n % 8)) with h5 | h5
        · exact h5
        · exact absurd ⟨h4, by omega⟩ h3
/-- The numbers that bytes are, of so many bits each; so many of them as cells, and zeros behind them. -/
def nums (l : List Nat) (n k : Nat) : List Int := (List.range n).map fun i => ((getV l (i * k) k : Nat) : Int)
theorem nums_length (l : List Nat) (n k : Nat) : (nums l n k).length = n := by simp [nums]
theorem nums_succ (l : List Nat) (n k : Nat) : nums l (n + 1) k = nums l n k ++ [((getV l (n * k) k : Nat) : Int)] := by simp [nums, List.range_succ]
theorem bitsAll_cons (x : Int) (l : List Int) (k : Nat) : bitsAll (x :: l) k = A.bitsOf x.toNat k ++ bitsAll l k := by simp [bitsAll]
theorem bitsAll_cut (l : List Int) (k i : Nat) (h : i < l.length) : ((bitsAll l k).drop (i * k)).take k = A.bitsOf (l.getD i 0).toNat k := by
  induction l generalizing i with
  | nil => simp at h
  | cons x r ih =>
    rw [bitsAll_cons]
    cases i with
    | zero =>
      rw [Nat.zero_mul, List.drop_zero, List.take_append_of_le_length (by simp [A.bitsOf_length]), List.take_of_length_le (by simp [A.bitsOf_length])]
      rfl
    | succ i =>
      have hlen := A.bitsOf_length x.toNat k
      have e : (i + 1) * k = (A.bitsOf x.toNat k).length + i * k := by rw [hlen, Nat.add_mul]; omega
      rw [e, List.drop_append, List.drop_of_length_le (by omega), List.nil_append, Nat.add_sub_cancel_left, ih i (by simpa using h)]
      rfl
theorem getV_pack (l : List Int) (k i : Nat) (h : i < l.length) (hin : In64 l) (hf : Fit l k) : ((getV (A.bytesOf (bitsAll l k)) (i * k) k : Nat) : Int) = l.getD i 0 := by
  unfold getV
  have hle : i * k + k ≤ (bitsAll l k).length := by
    rw [bitsAll_length]
    have : (i + 1) * k ≤ l.length * k := Nat.mul_le_mul_right k h
    rw [Nat.add_mul] at this
    omega
  rw [A.bitsB_bytesOf, A.padded, List.drop_append_of_le_length (by omega), List.take_append_of_le_length (by simp; omega), bitsAll_cut l k i h, A.valOf_bitsOf]
  have hm : l.getD i 0 ∈ l := by
    have : l.getD i 0 = l[i] := by simp [List.getD, h]
    rw [this]; exact List.getElem_mem _
  have h1 := hf _ hm
  have h2 := hin _ hm
  generalize l.getD i 0 = x at h1 h2
  rw [← pow_int] at h1
  rw [Nat.mod_eq_of_lt (by omega)]
  omega
theorem nums_pack (l : List Int) (k : Nat) (hin : In64 l) (hf : Fit l k) : nums (A.bytesOf (bitsAll l k)) l.length k = l := by
  apply List.ext_getElem
  · simp [nums]
  · intro i h1 h2
    have := getV_pack l k i h2 hin hf
    simp only [nums, List.getElem_map, List.getElem_range]
    rw [this]; simp [List.getD, h2]
theorem jb_bytes (bs : List Bool) : jb (A.bytesOf bs) bs.length = 0 := by
  unfold jb
  rw [A.bytesOf_length, if_neg (by omega), if_neg (by omega), if_neg]
  rintro ⟨h1, h2⟩
  exact h2 (Nat.div_eq_of_lt (A.last_lt bs h1))
theorem bits_nums (l : List Nat) (n k : Nat) (h : n * k ≤ 8 * l.length) : bitsAll (nums l n k) k = (A.bitsB l).take (n * k) := by
  induction n with
  | zero => simp [nums, bitsAll]
  | succ n ih =>
    have hle : n * k + k ≤ 8 * l.length := by rw [Nat.add_mul] at h; omega
    rw [nums_succ, bitsAll_snoc, ih (by omega), Int.toNat_natCast, Nat.add_mul, Nat.one_mul, List.take_add]
    congr 1
    unfold getV
    have hl : (((A.bitsB l).drop (n * k)).take k).length = k := by simp [A.bitsB_length]; omega
    have := A.bitsOf_valOf (((A.bitsB l).drop (n * k)).take k)
    rw [hl] at this
    exact this
theorem bytes_cut (l : List Nat) (n : Nat) (h256 : ∀ x ∈ l, x < 256) (hj : jb l n = 0) : A.bytesOf ((A.bitsB l).take n) = l := by
  obtain ⟨h1, h2⟩ := jb_zero hj
  have hlen : ((A.bitsB l).take n).length = n := by simp [A.bitsB_length]; omega
  have hb : A.bitsB (A.bytesOf ((A.bitsB l).take n)) = A.bitsB l := by
    rw [A.bitsB_bytesOf, A.padded, hlen]
    conv => rhs; rw [← List.take_append_drop n (A.bitsB l)]
    congr 1
    have hdl : ((A.bitsB l).drop n).length = 8 * ((n + 7) / 8) - n := by simp [A.bitsB_length]; omega
    symm
    rw [← hdl]
    apply List.eq_replicate_iff.2
    refine ⟨rfl, ?_⟩
    intro b hb
    obtain ⟨i, hi, rfl⟩ := List.getElem_of_mem hb
    rw [hdl] at hi
    have hni : n + i < 8 * l.length := by omega
    have h3 := A.bitsB_getD l (n + i) hni
    have h8 : n % 8 ≠ 0 := by omega
    have hz := h2 h8
    have e1 : (n + i) / 8 = (n + 7) / 8 - 1 := by omega
    have e2 : (n + i) % 8 = n % 8 + i := by omega
    rw [e1, e2] at h3
    have h4 : l.getD ((n + 7) / 8 - 1) 0 < 2 ^ (n % 8) := by
      rcases Nat.lt_or_ge (l.getD ((n + 7) / 8 - 1) 0) (2 ^ (n % 8)) with h | h
      · exact h
      · have := Nat.div_pos h (Nat.two_pow_pos (n % 8)); omega
    have h5 : l.getD ((n + 7) / 8 - 1) 0 / 2 ^ (n % 8 + i) = 0 := Nat.div_eq_of_lt (Nat.lt_of_lt_of_le h4 (Nat.pow_le_pow_right (by omega) (by omega)))
    rw [h5] at h3
    simp only [List.getElem_drop]
    have h6 : (A.bitsB l).getD (n + i) false = (A.bitsB l)[n + i]'(by rw [A.bitsB_length]; omega) := by simp [List.getD, A.bitsB_length, hni]
    rw [← h6, h3]; rfl
  have h7 := congrArg A.bytesOf hb
  rwa [A.bytesOf_bitsB _ (A.bytesOf_lt _), A.bytesOf_bitsB _ h256] at h7
theorem bytes_nums (l : List Nat) (n k : Nat) (h256 : ∀ x ∈ l, x < 256) (hj : jb l (n * k) = 0) : A.bytesOf (bitsAll (nums l n k) k) = l := by
  have h1 := (jb_zero hj).1
  rw [bits_nums l n k (by omega)]
  exact bytes_cut l (n * k) h256 hj
theorem In64_nums (l : List Nat) (n k : Nat) (hk : k ≤ 64) : In64 (nums l n k) ∧ Fit (nums l n k) k := by
  constructor
  all_goals
    intro x hx
    simp only [nums, List.mem_map] at hx
    obtain ⟨i, _, rfl⟩ := hx
    have h1 := getV_lt l (i * k) k
  · have h2 : 2 ^ k ≤ 2 ^ 64 := Nat.pow_le_pow_right (by omega) hk
    omega
  · rw [← pow_int]; omega
/-- Whether all of the first numbers are below a power. -/
def allFit (l : List Int) (k j : Nat) : Bool := (l.take j).all fun x => decide (x < (2 : Int) ^ k)
theorem allFit_succ (l : List Int) (k j : Nat) (h : j < l.length) : allFit l k (j + 1) = (allFit l k j && decide (l.getD j 0 < (2 : Int) ^ k)) := by
  unfold allFit; rw [take_snocD l j h]; simp
theorem allFit_all (l : List Int) (k : Nat) : allFit l k l.length = true ↔ Fit l k := by
  unfold allFit Fit; simp
theorem jb_four (l : List Nat) (n : Nat) (hl : l.length = (n + 7) / 8) (h : jb l n ≠ 0) : jb l n = 4 := by
  unfold jb at h ⊢
  rw [if_neg (by omega), if_neg (by omega)] at h ⊢
  split at h
  · rename_i hh; rw [if_pos hh]
  · exact absurd rfl h
theorem jb_more (l : List Nat) (n : Nat) (h : jb l n = 0) : jb (l ++ [0]) n = 4 := by
  have := (jb_zero h).1
  unfold jb
  rw [if_neg (by simp; omega), if_pos (by simp; omega)]
def packOk (l : List Int) (k : Int) : Bool := decide (0 ≤ k) && decide (k ≤ 64) && allFit l k.toNat l.length
def packB (l : List Int) (k : Int) : List Nat := if packOk l k then A.bytesOf (bitsAll l k.toNat) else []
def packC (l : List Int) (k : Int) : Int := if packOk l k then 0 else 1
theorem packOk_yes {l : List Int} {k : Int} (h0 : 0 ≤ k) (h1 : k ≤ 64) (hf : Fit l k.toNat) : packOk l k = true := by
  unfold packOk; rw [(allFit_all l k.toNat).2 hf]; simp [h0, h1]
theorem packOk_no {l : List Int} {k : Int} (h : k < 0 ∨ 64 < k ∨ ¬ Fit l k.toNat) : packOk l k = false := by
  unfold packOk
  rcases h with h | h | h
  · rw [decide_eq_false (show ¬ 0 ≤ k by omega)]; rfl
  · rw [decide_eq_false (show ¬ k ≤ 64 by omega)]; simp
  · rw [show allFit l k.toNat l.length = false by rw [← Bool.not_eq_true]; exact fun h' => h ((allFit_all l k.toNat).1 h')]; simp
theorem packB_le (l : List Int) (k : Int) : (packB l k).length ≤ l.length * 8 + 1 := by
  unfold packB
  split
  · rename_i h
    have hk : k.toNat ≤ 64 := by simp [packOk] at h; omega
    rw [A.bytesOf_length, bitsAll_length]
    have : l.length * k.toNat ≤ l.length * 64 := Nat.mul_le_mul_left _ hk
    omega
  · simp
def unpArg (n k : Int) : Bool := decide (0 ≤ k) && decide (k ≤ 64) && decide (0 ≤ n) && decide (n ≤ 1048576)
def unpC (l : List Nat) (n k : Int) : Int := if unpArg n k then ((jb l (n.toNat * k.toNat) : Nat) : Int) else 1
def unpL (l : List Nat) (n k : Int) : List Int := if unpArg n k && jb l (n.toNat * k.toNat) == 0 then nums l n.toNat k.toNat else []
theorem unpArg_iff (n k : Int) : unpArg n k = true ↔ 0 ≤ k ∧ k ≤ 64 ∧ 0 ≤ n ∧ n ≤ 1048576 := by simp [unpArg, and_assoc]
theorem unpL_le (l : List Nat) (n k : Int) : (unpL l n k).length ≤ 1048576 := by
  unfold unpL
  split
  · rename_i h
    rw [Bool.and_eq_true, unpArg_iff] at h
    rw [nums_length]; omega
  · simp
end Go.Proofs.Ytkcpfgjkplailaa
/- What a call leaves of the blocks that were there, and what a Writer and a Reader look like in memory. -/
namespace Go.Proofs.Ytkcpfgjkplailaa
set_option linter.unusedVariables false
open Go.RowKit

/-- A Writer at block p, which holds the bits bs; v is its bytes' slice. -/
def Wr (w : World) (p : Nat) (v : Value) (bs : List Bool) : Prop :=
  w.heap[p]? = some (.cells #[v, .int .i64 (bs.length : Int)] 76 (0, 0)) ∧ w.ownsRow (p + 1) 5 1 v (A.bytesOf bs).length (B8 (A.bytesOf bs))

/-- What a step of a Writer leaves. -/
def WS (p : Nat) (w : World) (v : Value) (w' : World) (v' : Value) : Prop :=
  Kept (fun k => k = p ∨ v.ownBlock = some k) w w' ∧ (v'.ownBlock = v.ownBlock ∨ ∀ k, v'.ownBlock = some k → w.heap.size ≤ k)

theorem WS.refl (p : Nat) (w : World) (v : Value) : WS p w v w v := ⟨Kept.refl _ _, .inl rfl⟩
theorem WS.trans {p : Nat} {a b c : World} {u v x : Value} (h : WS p a u b v) (k : WS p b v c x) : WS p a u c x := by
  have hs := h.1.size
  refine ⟨h.1.trans' k.1 ?_, ?_⟩
  · rintro y (rfl | hy)
    · exact .inl (.inl rfl)
    · rcases h.2 with h2 | h2
      · exact .inl (.inr (h2 ▸ hy))
      · exact .inr (h2 y hy)
  · rcases k.2 with k2 | k2
    · rw [k2]; exact h.2
    · exact .inr fun y hy => by have := k2 y hy; omega
theorem WS.drew {p : Nat} {a b : World} {u v : Value} (h : WS p a u b v) : WS p a u b.drew v := ⟨h.1.drew, h.2⟩

theorem Wr.lt {w : World} {p : Nat} {v : Value} {bs : List Bool} (h : Wr w p v bs) : p < w.heap.size := lt_of_block h.1
theorem Wr.cells {w : World} {p : Nat} {v : Value} {bs : List Bool} (h : Wr w p v bs) :
    w.cell? ⟨p, 0, none⟩ = some v ∧ w.cell? ⟨p, 1, none⟩ = some (.int .i64 (bs.length : Int)) ∧ w.frozen? ⟨p, 0, none⟩ = false ∧ w.frozen? ⟨p, 1, none⟩ = false := by
  refine ⟨?_, ?_, ?_, ?_⟩ <;> simp [World.cell?, World.frozen?, h.1]
theorem Wr.kept {F : Nat → Prop} {w w' : World} {p : Nat} {v : Value} {bs : List Bool} (h : Wr w p v bs) (k : Kept F w w') (h1 : ¬ F p) (h2 : ∀ g, v.ownBlock = some g → ¬ F g) : Wr w' p v bs :=
  ⟨by rw [k.block p h.lt h1]; exact h.1, owns_of_block h.2 fun g hg => k.block g (owns_lt h.2 hg).2 (h2 g hg)⟩

/-- A Reader at block p over the bytes l, at bit 'pos'; v is its slice. -/
def Rd (w : World) (p : Nat) (v : Value) (l : List Nat) (pos : Nat) : Prop :=
  w.heap[p]? = some (.cells #[v, .int .i64 (pos : Int)] 110 (0, 0)) ∧ w.ownsRow 0 5 1 v l.length (B8 l) ∧ v.ownBlock ≠ some p

theorem Rd.lt {w : World} {p : Nat} {v : Value} {l : List Nat} {pos : Nat} (h : Rd w p v l pos) : p < w.heap.size := lt_of_block h.1
theorem Rd.cells {w : World} {p : Nat} {v : Value} {l : List Nat} {pos : Nat} (h : Rd w p v l pos) :
    w.cell? ⟨p, 0, none⟩ = some v ∧ w.cell? ⟨p, 1, none⟩ = some (.int .i64 (pos : Int)) ∧ w.frozen? ⟨p, 1, none⟩ = false := by
  refine ⟨?_, ?_, ?_⟩ <;> simp [World.cell?, World.frozen?, h.1]
theorem Rd.kept {F : Nat → Prop} {w w' : World} {p : Nat} {v : Value} {l : List Nat} {pos : Nat} (h : Rd w p v l pos) (k : Kept F w w') (h1 : ¬ F p) (h2 : ∀ g, v.ownBlock = some g → ¬ F g) : Rd w' p v l pos :=
  ⟨by rw [k.block p h.lt h1]; exact h.1, owns_of_block h.2.1 fun g hg => k.block g (owns_lt h.2.1 hg).2 (h2 g hg), h.2.2⟩

theorem heap_setCell_two {w : World} {p : Nat} {a b : Value} {t : TypeId} (h : w.heap[p]? = some (.cells #[a, b] t (0, 0))) (u : Value) :
    (w.setCell ⟨p, 0, none⟩ u).heap[p]? = some (.cells #[u, b] t (0, 0)) ∧ (w.setCell ⟨p, 1, none⟩ u).heap[p]? = some (.cells #[a, u] t (0, 0)) := by
  constructor <;> simp only [World.setCell, Array.getElem?_modify, h] <;> simp

end Go.Proofs.Ytkcpfgjkplailaa

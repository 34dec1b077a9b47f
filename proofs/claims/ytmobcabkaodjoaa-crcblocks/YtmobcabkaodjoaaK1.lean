/- Plain facts on check sums, bit by bit; nothing of the program. -/
import Derived.WalkKit
namespace Go.Proofs.Ytmobcabkaodjoaa.K
set_option linter.unusedVariables false

/-- What is joined where the bits are unlike. -/
def pol : Nat := 3988292384
/-- The register, a bit more. -/
def st (w b : Nat) : Nat := if w % 2 = b then w / 2 else (w / 2) ^^^ pol

theorem xor_mod2 (a b : Nat) : (a ^^^ b) % 2 = (a % 2 + b % 2) % 2 := by
  have h := Nat.testBit_xor a b 0
  simp only [Nat.testBit_zero] at h
  rcases Nat.mod_two_eq_zero_or_one a with h1 | h1 <;> rcases Nat.mod_two_eq_zero_or_one b with h2 | h2 <;> rcases Nat.mod_two_eq_zero_or_one (a ^^^ b) with h3 | h3 <;> simp [h1, h2, h3] at h ⊢
theorem xor_div2 (a b : Nat) : (a ^^^ b) / 2 = a / 2 ^^^ b / 2 := by
  have := Nat.shiftRight_xor_distrib (a := a) (b := b) (i := 1)
  simpa [Nat.shiftRight_eq_div_pow] using this
theorem xor_lt32 {a b : Nat} (ha : a < 4294967296) (hb : b < 4294967296) : a ^^^ b < 4294967296 := Nat.xor_lt_two_pow (n := 32) ha hb
theorem pol_lt : pol < 4294967296 := by decide
theorem xor4 (a b c d : Nat) : (a ^^^ b) ^^^ (c ^^^ d) = (a ^^^ c) ^^^ (b ^^^ d) := by
  rw [Nat.xor_assoc, Nat.xor_assoc, ← Nat.xor_assoc b, Nat.xor_comm b c, Nat.xor_assoc c]

theorem st_lt (w b : Nat) (h : w < 4294967296) : st w b < 4294967296 := by
  unfold st; split
  · omega
  · exact xor_lt32 (by omega) pol_lt

/-- Steps are joined as registers and bits are. -/
theorem st_xor (a b x y : Nat) (hx : x < 2) (hy : y < 2) : st (a ^^^ b) ((x + y) % 2) = st a x ^^^ st b y := by
  have h1 := xor_mod2 a b
  have h2 := xor_div2 a b
  unfold st
  rw [h1, h2]
  by_cases ha : a % 2 = x <;> by_cases hb : b % 2 = y
  · rw [if_pos ha, if_pos hb, if_pos (by omega)]
  · rw [if_pos ha, if_neg hb, if_neg (by omega), Nat.xor_assoc]
  · rw [if_neg ha, if_pos hb, if_neg (by omega), Nat.xor_assoc, Nat.xor_comm (b / 2), ← Nat.xor_assoc]
  · rw [if_neg ha, if_neg hb, if_pos (by omega), xor4, Nat.xor_self, Nat.xor_zero]

/-- Many bits. -/
def sts (w : Nat) (l : List Nat) : Nat := l.foldl st w
theorem sts_append (w : Nat) (a b : List Nat) : sts w (a ++ b) = sts (sts w a) b := by simp [sts]
theorem sts_lt (l : List Nat) (w : Nat) (h : w < 4294967296) : sts w l < 4294967296 := by
  induction l generalizing w with
  | nil => exact h
  | cons b r ih => exact ih _ (st_lt w b h)
def bin (l : List Nat) : Prop := ∀ x ∈ l, x < 2
def joinB : List Nat → List Nat → List Nat
  | x :: r, y :: q => (x + y) % 2 :: joinB r q
  | _, _ => []
theorem sts_xor : ∀ (l m : List Nat) (a b : Nat), bin l → bin m → l.length = m.length → sts (a ^^^ b) (joinB l m) = sts a l ^^^ sts b m
  | [], [], a, b, _, _, _ => rfl
  | x :: r, y :: q, a, b, hl, hm, he => by
    have := sts_xor r q (st a x) (st b y) (fun z hz => hl z (by simp [hz])) (fun z hz => hm z (by simp [hz])) (by simpa using he)
    rw [← st_xor a b x y (hl x (by simp)) (hm y (by simp))] at this
    exact this
  | [], _ :: _, _, _, _, _, he => by simp at he
  | _ :: _, [], _, _, _, _, he => by simp at he

/-- The register is not 0, and how high its highest bit is at least. -/
theorem xor_top {a p : Nat} (ha : a < 2147483648) : 2147483648 ≤ a ^^^ pol := by
  have h1 : (a ^^^ pol).testBit 31 = true := by
    rw [Nat.testBit_xor]
    have : a.testBit 31 = false := Nat.testBit_lt_two_pow (by omega)
    rw [this]; decide
  exact Nat.ge_two_pow_of_testBit h1
/-- Of a register with a bit that high a step keeps one that is one lower at most; of a step that joins it is the highest. -/
theorem st_top (w b k : Nat) (hw : w < 4294967296) (h : 2 ^ (k + 1) ≤ w) (hk : k ≤ 31) : 2 ^ k ≤ st w b := by
  unfold st
  have e : 2 ^ (k + 1) = 2 * 2 ^ k := by rw [Nat.pow_succ]; omega
  split
  · omega
  · have h1 := xor_top (p := 0) (a := w / 2) (by omega)
    have h2 : 2 ^ k ≤ 2 ^ 31 := Nat.pow_le_pow_right (by omega) hk
    omega
theorem st_first (b : Nat) (hb : b < 2) (h : b = 1) : 2 ^ 31 ≤ st 0 b := by
  subst h; decide
theorem sts_top : ∀ (l : List Nat) (w k : Nat), w < 4294967296 → 2 ^ k ≤ w → l.length ≤ k → k ≤ 31 → 2 ^ (k - l.length) ≤ sts w l
  | [], w, k, _, h, _, _ => by simpa [sts] using h
  | b :: r, w, k, hw, h, hl, hk => by
    simp only [List.length_cons] at hl ⊢
    obtain ⟨j, rfl⟩ : ∃ j, k = j + 1 := ⟨k - 1, by omega⟩
    have := sts_top r (st w b) j (st_lt w b hw) (st_top w b j hw h (by omega)) (by omega) (by omega)
    rw [show j + 1 - (r.length + 1) = j - r.length by omega]
    exact this

/-- Bits of which the first is 1, at most 32 of them, from nothing: a bit as high as so many places from the highest. -/
theorem burst_top (l : List Nat) (h : l.length ≤ 31) : 2 ^ (31 - l.length) ≤ sts 0 (1 :: l) := by
  have h1 : sts 0 (1 :: l) = sts (st 0 1) l := rfl
  rw [h1]
  exact sts_top l (st 0 1) 31 (st_lt 0 1 (by omega)) (st_first 1 (by omega) rfl) h (by omega)

theorem st_zero : st 0 0 = 0 := by decide
theorem sts_zeros (n : Nat) : sts 0 (List.replicate n 0) = 0 := by
  induction n with
  | zero => rfl
  | succ n ih =>
    have h : sts 0 (List.replicate (n + 1) 0) = sts (st 0 0) (List.replicate n 0) := by rw [List.replicate_succ]; rfl
    rw [h, st_zero, ih]
/-- A step with no bit turns nothing but nothing into nothing. -/
theorem st_nz (w : Nat) (h : w ≠ 0) (hw : w < 4294967296) : st w 0 ≠ 0 := by
  unfold st
  split
  · omega
  · have := xor_top (p := 0) (a := w / 2) (by omega)
    omega
theorem sts_nz (n w : Nat) (h : w ≠ 0) (hw : w < 4294967296) : sts w (List.replicate n 0) ≠ 0 := by
  induction n generalizing w with
  | zero => exact h
  | succ n ih => rw [List.replicate_succ]; exact ih _ (st_nz w h hw) (st_lt w 0 hw)

/-- A byte's bits, the lowest first. -/
def bits8 (c : Nat) : List Nat := [c % 2, c / 2 % 2, c / 4 % 2, c / 8 % 2, c / 16 % 2, c / 32 % 2, c / 64 % 2, c / 128 % 2]
theorem bits8_bin (c : Nat) : bin (bits8 c) := by
  intro x hx; simp [bits8] at hx; omega
/-- All bytes' bits. -/
def bitsB (l : List Nat) : List Nat := l.flatMap bits8
theorem bitsB_bin (l : List Nat) : bin (bitsB l) := by
  intro x hx
  obtain ⟨c, _, h⟩ := List.mem_flatMap.1 hx
  exact bits8_bin c x h
theorem bitsB_length (l : List Nat) : (bitsB l).length = 8 * l.length := by
  induction l with
  | nil => rfl
  | cons c r ih => simp only [bitsB, List.flatMap_cons, List.length_append, List.length_cons] at ih ⊢; rw [ih]; simp [bits8]; omega
/-- The sum. -/
def reg (w : Nat) (l : List Nat) : Nat := sts w (bitsB l)
def crc (l : List Nat) : Nat := 4294967295 - reg 4294967295 l
theorem reg_lt (w : Nat) (l : List Nat) (h : w < 4294967296) : reg w l < 4294967296 := sts_lt _ _ h
theorem crc_lt (l : List Nat) : crc l < 4294967296 := by unfold crc; omega
theorem reg_cons (w c : Nat) (l : List Nat) : reg w (c :: l) = reg (sts w (bits8 c)) l := by
  unfold reg bitsB; rw [List.flatMap_cons, sts_append]
theorem reg_snoc (w c : Nat) (l : List Nat) : reg w (l ++ [c]) = sts (reg w l) (bits8 c) := by
  unfold reg bitsB; rw [List.flatMap_append, sts_append]; simp
/-- The table's row. -/
def row (i : Nat) : Nat := sts i (List.replicate 8 0)
theorem not_xor (w : Nat) (h : w < 4294967296) : 4294967295 - w = w ^^^ 4294967295 := by
  have h1 : (BitVec.ofNat 32 w ^^^ BitVec.allOnes 32).toNat = w ^^^ 4294967295 := by
    rw [BitVec.toNat_xor, BitVec.toNat_ofNat, BitVec.toNat_allOnes]
    congr 1
    omega
  rw [BitVec.xor_allOnes, BitVec.toNat_not, BitVec.toNat_ofNat] at h1
  rw [← h1]
  omega

/-- A number's first bits. -/
def bitsK (c : Nat) : Nat → List Nat
  | 0 => []
  | k + 1 => c % 2 :: bitsK (c / 2) k
theorem bits8_K (c : Nat) : bits8 c = bitsK c 8 := by
  simp [bits8, bitsK, Nat.div_div_eq_div_mul]
/-- A number's bits may as well be joined with the register first. -/
theorem sts_first (k : Nat) : ∀ (w c : Nat), c < 2 ^ k → sts w (bitsK c k) = sts (w ^^^ c) (List.replicate k 0) := by
  induction k with
  | zero =>
    intro w c h
    have : c = 0 := by simpa using h
    subst this; simp [bitsK, sts]
  | succ k ih =>
    intro w c h
    have h1 : sts w (bitsK c (k + 1)) = sts (st w (c % 2)) (bitsK (c / 2) k) := rfl
    have h2 : sts (w ^^^ c) (List.replicate (k + 1) 0) = sts (st (w ^^^ c) 0) (List.replicate k 0) := by rw [List.replicate_succ]; rfl
    have h3 : st (w ^^^ c) 0 = st w (c % 2) ^^^ (c / 2) := by
      unfold st
      rw [xor_mod2, xor_div2]
      by_cases h : w % 2 = c % 2
      · rw [if_pos (by omega), if_pos h]
      · rw [if_neg (by omega), if_neg h, Nat.xor_assoc, Nat.xor_comm (c / 2), ← Nat.xor_assoc]
    rw [h1, h2, h3, ih _ _ (by rw [Nat.pow_succ] at h; omega)]
theorem joinB_zeros (k : Nat) : joinB (List.replicate k 0) (List.replicate k 0) = List.replicate k 0 := by
  induction k with
  | zero => rfl
  | succ k ih => rw [List.replicate_succ]; simp [joinB, ih]
theorem sts_zeros_xor (k a b : Nat) : sts (a ^^^ b) (List.replicate k 0) = sts a (List.replicate k 0) ^^^ sts b (List.replicate k 0) := by
  have hz : bin (List.replicate k 0) := by intro x hx; have := List.eq_of_mem_replicate hx; omega
  have := sts_xor (List.replicate k 0) (List.replicate k 0) a b hz hz rfl
  rwa [joinB_zeros] at this
theorem sts_high (k h : Nat) : sts (2 ^ k * h) (List.replicate k 0) = h := by
  induction k with
  | zero => simp [sts]
  | succ k ih =>
    have h2 : sts (2 ^ (k + 1) * h) (List.replicate (k + 1) 0) = sts (st (2 ^ (k + 1) * h) 0) (List.replicate k 0) := by rw [List.replicate_succ]; rfl
    have e : 2 ^ (k + 1) * h = 2 * (2 ^ k * h) := by rw [Nat.pow_succ, Nat.mul_comm (2 ^ k) 2, Nat.mul_assoc]
    have h3 : st (2 ^ (k + 1) * h) 0 = 2 ^ k * h := by unfold st; rw [e, if_pos (by omega)]; omega
    rw [h2, h3, ih]
theorem xor_low_high (v k : Nat) : v = (v % 2 ^ k) ^^^ (2 ^ k * (v / 2 ^ k)) := by
  apply Nat.eq_of_testBit_eq
  intro i
  rw [Nat.testBit_xor, Nat.testBit_mod_two_pow, Nat.testBit_two_pow_mul, Nat.testBit_div_two_pow]
  by_cases hi : i < k
  · simp [hi, show ¬ k ≤ i by omega]
  · simp [hi, show k ≤ i by omega]
theorem row_lt (i : Nat) (h : i < 4294967296) : row i < 4294967296 := sts_lt _ _ h
/-- A byte by the table. -/
theorem by8 (w c : Nat) (hc : c < 256) : sts w (bits8 c) = (w / 256) ^^^ row ((w % 256) ^^^ c) := by
  rw [bits8_K, sts_first 8 w c (by omega)]
  have h1 := xor_low_high (w ^^^ c) 8
  have h2 : (w ^^^ c) % 2 ^ 8 = (w % 256) ^^^ c := by
    rw [Nat.xor_mod_two_pow]
    congr 1
    omega
  have h3 : (w ^^^ c) / 2 ^ 8 = w / 256 := by
    have := Nat.shiftRight_xor_distrib (a := w) (b := c) (i := 8)
    simp only [Nat.shiftRight_eq_div_pow] at this
    rw [this, show c / 2 ^ 8 = 0 by omega, Nat.xor_zero]
  rw [h2, h3] at h1
  rw [h1, sts_zeros_xor, sts_high, Nat.xor_comm]
  rfl
theorem row_xor (a b : Nat) : row (a ^^^ b) = row a ^^^ row b := sts_zeros_xor 8 a b
theorem row_zero : row 0 = 0 := sts_zeros 8
theorem row_inj (a b : Nat) (ha : a < 4294967296) (hb : b < 4294967296) (h : row a = row b) : a = b := by
  have h1 := row_xor a b
  rw [h, Nat.xor_self] at h1
  have h2 : a ^^^ b = 0 := by
    by_cases hz : a ^^^ b = 0
    · exact hz
    · exact absurd h1 (sts_nz 8 _ hz (xor_lt32 ha hb))
  have h3 := congrArg (fun x => x ^^^ b) h2
  simpa [Nat.xor_assoc] using h3

/-- Bytes joined. -/
def joinL : List Nat → List Nat → List Nat
  | x :: r, y :: q => (x ^^^ y) :: joinL r q
  | _, _ => []
theorem bitsK_xor (k : Nat) : ∀ a b, bitsK (a ^^^ b) k = joinB (bitsK a k) (bitsK b k) := by
  induction k with
  | zero => intro a b; rfl
  | succ k ih => intro a b; simp only [bitsK, joinB, xor_mod2, xor_div2, ih]
theorem joinB_append : ∀ (a b c d : List Nat), a.length = c.length → joinB (a ++ b) (c ++ d) = joinB a c ++ joinB b d
  | [], b, [], d, _ => rfl
  | x :: r, b, y :: q, d, h => by simp only [List.cons_append, joinB]; rw [joinB_append r b q d (by simpa using h)]
  | [], _, _ :: _, _, h => by simp at h
  | _ :: _, _, [], _, h => by simp at h
theorem bitsB_join : ∀ (l m : List Nat), l.length = m.length → bitsB (joinL l m) = joinB (bitsB l) (bitsB m)
  | [], [], _ => rfl
  | x :: r, y :: q, h => by
    have ih := bitsB_join r q (by simpa using h)
    unfold bitsB at ih ⊢
    simp only [joinL, List.flatMap_cons]
    rw [joinB_append _ _ _ _ (by simp [bits8]), ih, bits8_K, bits8_K, bits8_K, bitsK_xor]
  | [], _ :: _, h => by simp at h
  | _ :: _, [], h => by simp at h
theorem reg_xor (a b : Nat) (l m : List Nat) (h : l.length = m.length) : reg (a ^^^ b) (joinL l m) = reg a l ^^^ reg b m := by
  unfold reg
  rw [bitsB_join l m h]
  exact sts_xor _ _ a b (bitsB_bin l) (bitsB_bin m) (by rw [bitsB_length, bitsB_length, h])

/-- The number that bits are, the lowest first. -/
def val2 : List Nat → Nat
  | [] => 0
  | b :: r => b + 2 * val2 r
theorem val2_lt (l : List Nat) (h : bin l) : val2 l < 2 ^ l.length := by
  induction l with
  | nil => simp [val2]
  | cons b r ih =>
    have h1 := ih fun x hx => h x (by simp [hx])
    have h2 := h b (by simp)
    simp only [val2, List.length_cons, Nat.pow_succ]; omega
theorem val2_append (a b : List Nat) : val2 (a ++ b) = val2 a + 2 ^ a.length * val2 b := by
  induction a with
  | nil => simp [val2]
  | cons x r ih =>
    simp only [List.cons_append, val2, ih, List.length_cons, Nat.pow_succ]
    rw [Nat.mul_add, ← Nat.mul_assoc, Nat.mul_comm 2 (2 ^ r.length)]
    omega
theorem val2_zeros (n : Nat) : val2 (List.replicate n 0) = 0 := by
  induction n with
  | zero => rfl
  | succ n ih => rw [List.replicate_succ]; simp [val2, ih]
theorem val2_zero_iff (l : List Nat) (h : val2 l = 0) : ∀ x ∈ l, x = 0 := by
  induction l with
  | nil => intro x hx; simp at hx
  | cons b r ih =>
    simp only [val2] at h
    intro x hx
    rcases List.mem_cons.1 hx with rfl | hx
    · omega
    · exact ih (by omega) x hx

theorem burst_tail (l : List Nat) (n : Nat) (h : l.length ≤ 31) : sts 0 (1 :: (l ++ List.replicate n 0)) ≠ 0 := by
  rw [← List.cons_append, sts_append]
  have ht := burst_top l h
  have hp : 0 < 2 ^ (31 - l.length) := Nat.pow_pos (by omega)
  exact sts_nz _ _ (by omega) (sts_lt _ _ (by omega))
theorem map_zero (e : Nat → Nat) (lo n : Nat) (h : ∀ k, lo ≤ k → k < lo + n → e k = 0) : (List.range n).map (fun k => e (lo + k)) = List.replicate n 0 := by
  apply List.ext_getElem
  · simp
  · intro i h1 h2
    simp at h1 ⊢
    exact h (lo + i) (by omega) (by omega)
theorem range_split (e : Nat → Nat) (a b : Nat) : (List.range (a + b)).map e = (List.range a).map e ++ (List.range b).map fun k => e (a + k) := by
  rw [List.range_add, List.map_append, List.map_map]; rfl

theorem tail_zero (e : Nat → Nat) (b n q : Nat) (h : ∀ k, b + n ≤ k → e k = 0) : (List.range (n + q)).map (fun k => e (b + k)) = (List.range n).map (fun k => e (b + k)) ++ List.replicate q 0 := by
  rw [range_split (fun k => e (b + k)) n q]
  congr 1
  have := map_zero e (b + n) q (fun k h1 _ => h k h1)
  simpa [Nat.add_assoc] using this

/-- Bits turned within 32 one behind the other, at least one of them: what the sum turns by is another thing than what was turned of it. -/
theorem burst (e : Nat → Nat) (hb : ∀ k, e k < 2) (N lo : Nat) (hw : ∀ k, e k = 1 → lo ≤ k ∧ k < lo + 32) (hz : ∃ k, k < N + 32 ∧ e k = 1) :
    sts 0 ((List.range N).map e) ≠ val2 ((List.range 32).map fun j => e (N + j)) := by
  -- the first bit that is turned
  obtain ⟨p, hp, hp1, hmin⟩ : ∃ p, p < N + 32 ∧ e p = 1 ∧ ∀ k, k < p → e k = 0 := by
    obtain ⟨k, hk, hk1⟩ := hz
    induction k using Nat.strongRecOn with
    | _ k ih =>
      by_cases hex : ∃ j, j < k ∧ e j = 1
      · obtain ⟨j, hj, hj1⟩ := hex
        exact ih j hj (by omega) hj1
      · exact ⟨k, hk, hk1, fun j hj => by
          have := hb j
          have h2 : e j ≠ 1 := fun h => hex ⟨j, hj, h⟩
          omega⟩
  have hlo := hw p hp1
  have hafter : ∀ k, p + 32 ≤ k → e k = 0 := fun k hk => by
    have h1 := hb k
    have h2 : e k ≠ 1 := fun h => by have := hw k h; omega
    omega
  have hz0 : ∀ n, (∀ k, k < n → e k = 0) → (List.range n).map e = List.replicate n 0 := fun n h => by
    have := map_zero e 0 n (fun k _ hk => h k (by omega))
    simpa using this
  by_cases hpN : p < N
  · obtain ⟨r, hr⟩ : ∃ r, N = p + (1 + r) := ⟨N - p - 1, by omega⟩
    have hsplit : (List.range N).map e = List.replicate p 0 ++ 1 :: (List.range r).map fun k => e (p + 1 + k) := by
      rw [hr, range_split e p (1 + r), hz0 p hmin]
      congr 1
      have := range_split (fun k => e (p + k)) 1 r
      rw [this]
      simp only [List.range_one, List.map_cons, List.map_nil, Nat.add_zero, hp1, List.cons_append, List.nil_append, Nat.add_assoc]
    have hs : sts 0 ((List.range N).map e) = sts 0 (1 :: (List.range r).map fun k => e (p + 1 + k)) := by
      rw [hsplit, sts_append, sts_zeros]
    rw [hs]
    by_cases hr31 : r ≤ 31
    · have ht := burst_top ((List.range r).map fun k => e (p + 1 + k)) (by simpa using hr31)
      simp only [List.length_map, List.length_range] at ht
      have hv : val2 ((List.range 32).map fun j => e (N + j)) < 2 ^ (31 - r) := by
        have h1 := tail_zero e N (31 - r) (r + 1) (fun k hk => hafter k (by omega))
        rw [show 31 - r + (r + 1) = 32 by omega] at h1
        rw [h1, val2_append, val2_zeros, Nat.mul_zero, Nat.add_zero]
        have := val2_lt ((List.range (31 - r)).map fun j => e (N + j)) (by
          intro x hx
          obtain ⟨k, _, rfl⟩ := List.mem_map.1 hx
          exact hb _)
        simpa using this
      omega
    · have hv : val2 ((List.range 32).map fun j => e (N + j)) = 0 := by
        rw [map_zero e N 32 (fun k h1 _ => hafter k (by omega)), val2_zeros]
      have h1 := tail_zero e (p + 1) 31 (r - 31) (fun k hk => hafter k (by omega))
      rw [show 31 + (r - 31) = r by omega] at h1
      rw [hv, h1]
      exact burst_tail _ _ (by rw [List.length_map, List.length_range]; omega)
  · rw [hz0 N (fun k hk => hmin k (by omega)), sts_zeros]
    intro h0
    have := val2_zero_iff _ h0.symm (e p) (List.mem_map.2 ⟨p - N, by simp; omega, by rw [show N + (p - N) = p by omega]⟩)
    omega
end Go.Proofs.Ytmobcabkaodjoaa.K

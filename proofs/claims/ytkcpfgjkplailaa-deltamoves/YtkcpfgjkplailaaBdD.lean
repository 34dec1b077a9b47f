/- Plain facts on numbers' bytes, seven bits a byte, the lowest first; nothing of the program. -/
import Derived.WalkKit
import Derived.Test.YtkcpfgjkplailaaBdA
import Derived.Test.YtkcpfgjkplailaaBdC
namespace Go.Proofs.Ytkcpfgjkplailaa.E
set_option linter.unusedVariables false

/-- A number's bytes, so many at most; a number's bytes. -/
def lebF : Nat → Nat → List Nat
  | 0, n => [n]
  | f + 1, n => if n < 128 then [n] else (n % 128 + 128) :: lebF f (n / 128)
def leb (n : Nat) : List Nat := lebF n n
theorem lebF_any (n : Nat) : ∀ f g, n ≤ f → n ≤ g → lebF f n = lebF g n := by
  induction n using Nat.strongRecOn with
  | _ n ih =>
    intro f g hf hg
    by_cases h : n < 128
    · cases f <;> cases g <;> simp [lebF, h]
    · match f, g, hf, hg with
      | f + 1, g + 1, hf, hg =>
        simp only [lebF, if_neg h]
        rw [ih (n / 128) (by omega) f g (by omega) (by omega)]
      | 0, _, hf, _ => omega
      | _, 0, _, hg => omega
theorem leb_small (n : Nat) (h : n < 128) : leb n = [n] := by
  unfold leb; cases n <;> simp [lebF]; omega
theorem leb_big (n : Nat) (h : 128 ≤ n) : leb n = (n % 128 + 128) :: leb (n / 128) := by
  unfold leb
  rw [lebF_any n n ((n / 128) + 1 + n) (Nat.le_refl _) (by omega), show n / 128 + 1 + n = (n / 128 + n) + 1 by omega]
  simp only [lebF, if_neg (show ¬ n < 128 by omega)]
  rw [lebF_any (n / 128) (n / 128 + n) (n / 128) (by omega) (Nat.le_refl _)]

/-- The number that bytes are. -/
def val : List Nat → Nat
  | [] => 0
  | c :: r => c % 128 + 128 * val r

theorem val_append (a b : List Nat) : val (a ++ b) = val a + 128 ^ a.length * val b := by
  induction a with
  | nil => simp [val]
  | cons x r ih =>
    simp only [List.cons_append, val, ih, List.length_cons, Nat.pow_succ]
    rw [Nat.mul_add, ← Nat.mul_assoc, Nat.mul_comm 128 (128 ^ r.length)]
    omega
theorem val_lt (l : List Nat) : val l < 128 ^ l.length := by
  induction l with
  | nil => simp [val]
  | cons c r ih => simp only [val, List.length_cons, Nat.pow_succ]; omega

theorem val_leb (n : Nat) : val (leb n) = n := by
  induction n using Nat.strongRecOn with
  | _ n ih =>
    by_cases h : n < 128
    · rw [leb_small n h]; simp [val]; omega
    · rw [leb_big n (by omega)]; simp only [val, ih (n / 128) (by omega)]; omega

/-- Bytes that a number is put as: all but the last have 128 more; the last is not 0, but if it is the only one. -/
def Can (l : List Nat) (k : Nat) : Prop := l.length = k + 1 ∧ (∀ j, j < k → 128 ≤ l.getD j 0 ∧ l.getD j 0 < 256) ∧ l.getD k 0 < 128 ∧ (0 < k → l.getD k 0 ≠ 0)

theorem can_cons {c : Nat} {r : List Nat} {k : Nat} (h : Can (c :: r) (k + 1)) : 128 ≤ c ∧ c < 256 ∧ Can r k ∧ (k = 0 → r.getD 0 0 ≠ 0) := by
  obtain ⟨h1, h2, h3, h4⟩ := h
  have h0 := h2 0 (by omega)
  refine ⟨h0.1, h0.2, ⟨by simpa using h1, fun j hj => ?_, by simpa using h3, fun hk => by simpa using h4 (by omega)⟩, fun hk => ?_⟩
  · have := h2 (j + 1) (by omega)
    simpa using this
  · subst hk; simpa using h4 (by omega)

theorem val_pos {l : List Nat} {k : Nat} (h : Can l k) (hl : k = 0 → l.getD 0 0 ≠ 0) : 0 < val l := by
  induction k generalizing l with
  | zero =>
    obtain ⟨h1, h2, h3, h4⟩ := h
    match l, h1 with
    | [c], _ =>
      have := hl rfl
      simp [val] at this h3 ⊢
      omega
  | succ k ih =>
    match l, h.1 with
    | c :: r, _ =>
      obtain ⟨h1, h2, h3, h4⟩ := can_cons h
      have := ih h3 h4
      simp only [val]; omega

theorem leb_val {l : List Nat} {k : Nat} (h : Can l k) : leb (val l) = l := by
  induction k generalizing l with
  | zero =>
    obtain ⟨h1, h2, h3, h4⟩ := h
    match l, h1 with
    | [c], _ =>
      simp [val] at h3 ⊢
      rw [leb_small _ (by omega)]
      simp; omega
  | succ k ih =>
    match l, h.1 with
    | c :: r, _ =>
      obtain ⟨h1, h2, h3, h4⟩ := can_cons h
      have hp := val_pos h3 h4
      simp only [val]
      rw [leb_big _ (by omega), show (c % 128 + 128 * val r) / 128 = val r by omega, ih h3]
      congr 1; omega

theorem leb_can (n : Nat) : ∃ k, Can (leb n) k := by
  induction n using Nat.strongRecOn with
  | _ n ih =>
    by_cases h : n < 128
    · exact ⟨0, by rw [leb_small n h]; exact ⟨rfl, fun j hj => by omega, by simpa using h, by omega⟩⟩
    · obtain ⟨k, hk⟩ := ih (n / 128) (by omega)
      refine ⟨k + 1, ?_⟩
      have hv := val_leb (n / 128)
      rw [leb_big n (by omega)]
      obtain ⟨h1, h2, h3, h4⟩ := hk
      refine ⟨by simp [h1], fun j hj => ?_, by simpa using h3, fun _ => ?_⟩
      · match j with
        | 0 => simp; omega
        | j + 1 => simpa using h2 j (by omega)
      · simp only [List.getD_cons_succ]
        rcases Nat.eq_zero_or_pos k with h0 | h0
        · subst h0
          intro he
          match hl : leb (n / 128), h1 with
          | [c], _ => rw [hl] at he hv; simp [val] at he hv; omega
        · exact h4 h0

theorem leb_length_le (n k : Nat) (hk : 0 < k) (h : n < 128 ^ k) : (leb n).length ≤ k := by
  induction k generalizing n with
  | zero => omega
  | succ k ih =>
    by_cases hn : n < 128
    · rw [leb_small n hn]; simp
    · rw [leb_big n (by omega)]
      rcases Nat.eq_zero_or_pos k with h0 | h0
      · subst h0; simp at h; omega
      · have := ih (n / 128) h0 (by rw [Nat.pow_succ] at h; omega)
        simp; omega
theorem leb_pos (n : Nat) : 0 < (leb n).length := by obtain ⟨k, hk⟩ := leb_can n; rw [hk.1]; omega
theorem leb_ten (n : Nat) (h : n < 18446744073709551616) : (leb n).length ≤ 10 := leb_length_le n 10 (by omega) (by omega)
theorem leb_lt (n : Nat) : ∀ x ∈ leb n, x < 256 := by
  induction n using Nat.strongRecOn with
  | _ n ih =>
    by_cases h : n < 128
    · rw [leb_small n h]; intro x hx; simp at hx; omega
    · rw [leb_big n (by omega)]
      intro x hx
      rcases List.mem_cons.1 hx with rfl | hx
      · omega
      · exact ih (n / 128) (by omega) x hx
theorem leb_mono (a b : Nat) (h : a ≤ b) : (leb a).length ≤ (leb b).length := by
  induction b using Nat.strongRecOn generalizing a with
  | _ b ih =>
    by_cases ha : a < 128
    · rw [leb_small a ha]; exact leb_pos b
    · rw [leb_big a (by omega), leb_big b (by omega)]
      have := ih (b / 128) (by omega) (a / 128) (by omega)
      simp; omega

/-- How many bytes, of the first f, have 128 more. -/
def lead : Nat → List Nat → Nat
  | 0, _ => 0
  | _ + 1, [] => 0
  | f + 1, c :: r => if 128 ≤ c then lead f r + 1 else 0

def IsLead (f : Nat) (l : List Nat) (k : Nat) : Prop := k ≤ f ∧ k ≤ l.length ∧ (∀ j, j < k → 128 ≤ l.getD j 0) ∧ (k = f ∨ k = l.length ∨ l.getD k 0 < 128)
theorem lead_is (f : Nat) (l : List Nat) : IsLead f l (lead f l) := by
  induction f generalizing l with
  | zero => exact ⟨Nat.le_refl _, Nat.zero_le _, fun j hj => absurd hj (by simp [lead]), .inl rfl⟩
  | succ f ih =>
    cases l with
    | nil => exact ⟨by simp [lead], by simp [lead], fun j hj => absurd hj (by simp [lead]), .inr (.inl rfl)⟩
    | cons c r =>
      by_cases hc : 128 ≤ c
      · obtain ⟨h1, h2, h3, h4⟩ := ih r
        simp only [lead, if_pos hc]
        refine ⟨by omega, by simpa using h2, fun j hj => ?_, ?_⟩
        · match j with
          | 0 => simpa using hc
          | j + 1 => simpa using h3 j (by omega)
        · rcases h4 with h | h | h
          · exact .inl (by omega)
          · exact .inr (.inl (by simpa using h))
          · exact .inr (.inr (by simpa using h))
      · simp only [lead, if_neg hc]
        exact ⟨by omega, by omega, fun j hj => by omega, .inr (.inr (by simp; omega))⟩
theorem lead_uniq {f : Nat} {l : List Nat} {a b : Nat} (ha : IsLead f l a) (hb : IsLead f l b) : a = b := by
  obtain ⟨a1, a2, a3, a4⟩ := ha
  obtain ⟨b1, b2, b3, b4⟩ := hb
  rcases Nat.lt_trichotomy a b with h | h | h
  · have := b3 a h
    omega
  · exact h
  · have := a3 b h
    omega
theorem lead_eq {f : Nat} {l : List Nat} {k : Nat} (h : IsLead f l k) : lead f l = k := lead_uniq (lead_is f l) h

/-- Get: the error; how many bytes; the number. -/
def gE (l : List Nat) : Nat := if lead 9 l = l.length then 3 else if (lead 9 l = 9 ∧ 1 < l.getD 9 0) ∨ (0 < lead 9 l ∧ l.getD (lead 9 l) 0 = 0) then 4 else 0
def gK (l : List Nat) : Nat := if gE l = 0 then lead 9 l + 1 else 0
def gN (l : List Nat) : Nat := if gE l = 0 then val (l.take (lead 9 l + 1)) else 0

theorem gE_short {l : List Nat} {k : Nat} (h : IsLead 9 l k) (hk : k = l.length) : gE l = 3 := by
  unfold gE; rw [lead_eq h, if_pos hk]
theorem gE_form {l : List Nat} {k : Nat} (h : IsLead 9 l k) (hk : k < l.length) (hf : (k = 9 ∧ 1 < l.getD k 0) ∨ (0 < k ∧ l.getD k 0 = 0)) : gE l = 4 := by
  unfold gE; rw [lead_eq h, if_neg (by omega), if_pos]
  rcases hf with ⟨rfl, hf⟩ | hf
  · exact .inl ⟨rfl, hf⟩
  · exact .inr hf
theorem gE_ok {l : List Nat} {k : Nat} (h : IsLead 9 l k) (hk : k < l.length) (h9 : k = 9 → l.getD k 0 ≤ 1) (h0 : 0 < k → l.getD k 0 ≠ 0) : gE l = 0 ∧ gK l = k + 1 ∧ gN l = val (l.take (k + 1)) := by
  have e : gE l = 0 := by
    unfold gE; rw [lead_eq h, if_neg (by omega), if_neg]
    rintro (⟨rfl, hf⟩ | ⟨a, b⟩)
    · have := h9 rfl; omega
    · exact h0 a b
  refine ⟨e, ?_, ?_⟩
  · unfold gK; rw [if_pos e, lead_eq h]
  · unfold gN; rw [if_pos e, lead_eq h]

theorem getD_lt {l : List Nat} (h : ∀ x ∈ l, x < 256) (j : Nat) : l.getD j 0 < 256 := by
  by_cases hj : j < l.length
  · have : l.getD j 0 = l[j] := by simp [List.getD, hj]
    rw [this]; exact h _ (List.getElem_mem hj)
  · simp [List.getD, hj]
theorem getD_take (l : List Nat) (j k : Nat) (h : j < k) : (l.take k).getD j 0 = l.getD j 0 := by
  simp [List.getD, h]

/-- Where Get has no error. -/
theorem gE_zero {l : List Nat} (h : gE l = 0) (h256 : ∀ x ∈ l, x < 256) : gK l ≤ l.length ∧ 0 < gK l ∧ Can (l.take (gK l)) (gK l - 1) ∧ gN l = val (l.take (gK l)) ∧ (gK l = 10 → l.getD 9 0 ≤ 1) ∧ gK l ≤ 10 := by
  have hl := lead_is 9 l
  obtain ⟨h1, h2, h3, h4⟩ := hl
  have hk : gK l = lead 9 l + 1 := by unfold gK; rw [if_pos h]
  have hn : gN l = val (l.take (lead 9 l + 1)) := by unfold gN; rw [if_pos h]
  rw [hk, hn]
  unfold gE at h
  by_cases hs : lead 9 l = l.length
  · rw [if_pos hs] at h; omega
  · rw [if_neg hs] at h
    by_cases hf : (lead 9 l = 9 ∧ 1 < l.getD 9 0) ∨ (0 < lead 9 l ∧ l.getD (lead 9 l) 0 = 0)
    · rw [if_pos hf] at h; omega
    · generalize lead 9 l = k at *
      have h9 : k = 9 → l.getD 9 0 ≤ 1 := fun e => by
        rcases Nat.lt_or_ge 1 (l.getD 9 0) with h | h
        · exact absurd (.inl ⟨e, h⟩) hf
        · exact h
      refine ⟨by omega, by omega, ⟨by simp; omega, fun j hj => ?_, ?_, fun hk0 => ?_⟩, rfl, fun e => h9 (by omega), by omega⟩
      · rw [getD_take _ _ _ (by omega)]
        exact ⟨h3 j (by omega), getD_lt h256 j⟩
      · rw [Nat.add_sub_cancel, getD_take _ _ _ (by omega)]
        rcases h4 with h4 | h4 | h4
        · subst h4; have := h9 rfl; omega
        · omega
        · exact h4
      · rw [Nat.add_sub_cancel, getD_take _ _ _ (by omega)]
        intro he
        exact hf (.inr ⟨by omega, he⟩)

theorem val_ten (l : List Nat) (h : l.length ≤ 10) (h9 : l.getD 9 0 ≤ 1) : val l < 18446744073709551616 := by
  rcases Nat.lt_or_ge l.length 10 with hl | hl
  · have h1 := val_lt l
    have h2 : 128 ^ l.length ≤ 128 ^ 9 := Nat.pow_le_pow_right (by omega) (by omega)
    omega
  · have e : l = l.take 9 ++ [l.getD 9 0] := by
      have h1 : l.take (9 + 1) = l.take 9 ++ [l[9]] := List.take_succ_eq_append_getElem (by omega)
      have h2 : l.getD 9 0 = l[9] := by simp [List.getD, show 9 < l.length by omega]
      rw [h2, ← h1, List.take_of_length_le (by omega)]
    rw [e, val_append]
    have h1 := val_lt (l.take 9)
    have h2 : (l.take 9).length = 9 := by simp; omega
    rw [h2] at h1 ⊢
    simp only [val]
    omega

/-- Bytes that are got are put as the very bytes. -/
theorem g_ones {l : List Nat} (h : gE l = 0) (h256 : ∀ x ∈ l, x < 256) : leb (gN l) = l.take (gK l) := by
  obtain ⟨_, _, h3, h4, _⟩ := gE_zero h h256
  rw [h4]; exact leb_val h3
theorem gN_lt {l : List Nat} (h256 : ∀ x ∈ l, x < 256) : gN l < 18446744073709551616 := by
  by_cases h : gE l = 0
  · obtain ⟨h1, h2, h3, h4, h5, h6⟩ := gE_zero h h256
    rw [h4]
    refine val_ten _ (by simp; omega) ?_
    rcases Nat.lt_or_ge (gK l) 10 with hk | hk
    · simp [List.getD, List.getElem?_take, show ¬ 9 < gK l by omega]
    · rw [getD_take _ _ _ (by omega)]; exact h5 (by omega)
  · unfold gN; rw [if_neg h]; omega

theorem lead_leb (n : Nat) (hn : n < 18446744073709551616) (more : List Nat) : ∃ k, (leb n).length = k + 1 ∧ IsLead 9 (leb n ++ more) k ∧ (k = 9 → (leb n ++ more).getD k 0 ≤ 1) ∧ (0 < k → (leb n ++ more).getD k 0 ≠ 0) ∧ ∀ j, j < k → 128 ≤ (leb n).getD j 0 := by
  obtain ⟨k, h1, h2, h3, h4⟩ := leb_can n
  have h10 := leb_ten n hn
  have hg : ∀ j, j ≤ k → (leb n ++ more).getD j 0 = (leb n).getD j 0 := fun j hj => by simp [List.getD, List.getElem?_append_left (show j < (leb n).length by omega)]
  refine ⟨k, h1, ⟨by omega, by simp; omega, fun j hj => by rw [hg j (by omega)]; exact (h2 j hj).1, .inr (.inr (by rw [hg k (by omega)]; exact h3))⟩, fun e => ?_, fun hk => by rw [hg k (by omega)]; exact h4 hk, fun j hj => (h2 j hj).1⟩
  rw [hg k (by omega)]
  subst e
  have e : leb n = (leb n).take 9 ++ [(leb n).getD 9 0] := by
    have h1 : (leb n).take (9 + 1) = (leb n).take 9 ++ [(leb n)[9]] := List.take_succ_eq_append_getElem (by omega)
    have h2 : (leb n).getD 9 0 = (leb n)[9] := by simp [List.getD, show 9 < (leb n).length by omega]
    rw [h2, ← h1, List.take_of_length_le (by omega)]
  have hv := val_leb n
  rw [e, val_append] at hv
  have h2 : ((leb n).take 9).length = 9 := by simp; omega
  rw [h2] at hv
  simp only [val] at hv
  have : (leb n).getD 9 0 % 128 = (leb n).getD 9 0 := by omega
  omega

/-- What was put is got. -/
theorem g_put (n : Nat) (hn : n < 18446744073709551616) (more : List Nat) : gE (leb n ++ more) = 0 ∧ gK (leb n ++ more) = (leb n).length ∧ gN (leb n ++ more) = n := by
  obtain ⟨k, h1, h2, h3, h4, _⟩ := lead_leb n hn more
  obtain ⟨e1, e2, e3⟩ := gE_ok h2 (by simp; omega) h3 h4
  refine ⟨e1, by omega, ?_⟩
  rw [e3, ← h1, List.take_left, val_leb]
/-- No beginning of it is got. -/
theorem g_cut (n : Nat) (hn : n < 18446744073709551616) (k : Nat) (hk : k < (leb n).length) : gE ((leb n).take k) = 3 := by
  obtain ⟨j, h1, _, _, _, h5⟩ := lead_leb n hn []
  have h10 := leb_ten n hn
  refine gE_short (k := k) ⟨by omega, by simp; omega, fun i hi => ?_, .inr (.inl (by simp; omega))⟩ (by simp; omega)
  rw [getD_take _ _ _ hi]; exact h5 i (by omega)
theorem g_zero {l : List Nat} (h : gE l ≠ 0) : gK l = 0 ∧ gN l = 0 := by
  unfold gK gN; rw [if_neg h, if_neg h]; exact ⟨rfl, rfl⟩
theorem gE_le (l : List Nat) : gE l = 0 ∨ gE l = 3 ∨ gE l = 4 := by
  unfold gE; split
  · exact .inr (.inl rfl)
  · split
    · exact .inr (.inr rfl)
    · exact .inl rfl

/-- Numbers of either sign as numbers. -/
def zig (n : Int) : Nat := if n < 0 then (-2 * n - 1).toNat else (2 * n).toNat
def zag (n : Nat) : Int := if n % 2 = 1 then -((n / 2 : Nat) : Int) - 1 else ((n / 2 : Nat) : Int)
theorem zag_zig (n : Int) : zag (zig n) = n := by
  unfold zig zag; split <;> split <;> omega
theorem zig_zag (n : Nat) : zig (zag n) = n := by
  unfold zig zag; split <;> split <;> omega
theorem zig_lt (n : Int) (h0 : -9223372036854775808 ≤ n) (h1 : n < 9223372036854775808) : zig n < 18446744073709551616 := by
  unfold zig; split <;> omega
theorem zag_lt (n : Nat) (h : n < 18446744073709551616) : -9223372036854775808 ≤ zag n ∧ zag n < 9223372036854775808 := by
  unfold zag; split <;> omega
theorem zig_half (n : Int) : zig (n.tdiv 2) ≤ zig n := by
  unfold zig
  rcases Int.le_total 0 n with h | h
  · rw [Int.tdiv_eq_ediv_of_nonneg h]
    split <;> split <;> omega
  · obtain ⟨m, rfl⟩ : ∃ m : Int, n = -m := ⟨-n, by omega⟩
    rw [Int.neg_tdiv, Int.tdiv_eq_ediv_of_nonneg (by omega)]
    split <;> split <;> omega

def lebs (l : List Int) : List Nat := l.flatMap fun x => leb (zig x)
theorem lebs_snoc (l : List Int) (x : Int) : lebs (l ++ [x]) = lebs l ++ leb (zig x) := by simp [lebs]
theorem lebs_cons (l : List Int) (x : Int) : lebs (x :: l) = leb (zig x) ++ lebs l := by simp [lebs]
def In (l : List Int) : Prop := ∀ x ∈ l, -9223372036854775808 ≤ x ∧ x < 9223372036854775808
theorem lebs_le (l : List Int) (h : In l) : (lebs l).length ≤ 10 * l.length := by
  induction l with
  | nil => simp [lebs]
  | cons x r ih =>
    have h1 := ih fun y hy => h y (by simp [hy])
    have h2 := h x (by simp)
    have h3 := leb_ten (zig x) (zig_lt x h2.1 h2.2)
    rw [lebs_cons]; simp; omega
theorem lebs_lt (l : List Int) : ∀ x ∈ lebs l, x < 256 := by
  intro x hx
  obtain ⟨y, _, hy⟩ := List.mem_flatMap.1 hx
  exact leb_lt _ x hy

/-- ToInts: the error, the numbers, what is left. -/
def tE : Nat → List Nat → Nat
  | 0, _ => 0
  | n + 1, b => if gE b = 0 then tE n (b.drop (gK b)) else gE b
def tL : Nat → List Nat → List Int
  | 0, _ => []
  | n + 1, b => zag (gN b) :: tL n (b.drop (gK b))
def tR : Nat → List Nat → List Nat
  | 0, b => b
  | n + 1, b => tR n (b.drop (gK b))
theorem tR_succ (n : Nat) (b : List Nat) : tR (n + 1) b = (tR n b).drop (gK (tR n b)) := by
  induction n generalizing b with
  | zero => rfl
  | succ n ih => rw [tR, ih, ← tR]
theorem tL_succ (n : Nat) (b : List Nat) : tL (n + 1) b = tL n b ++ [zag (gN (tR n b))] := by
  induction n generalizing b with
  | zero => rfl
  | succ n ih => rw [tL, ih, tL, tR, List.cons_append]
theorem tL_length (n : Nat) (b : List Nat) : (tL n b).length = n := by
  induction n generalizing b with
  | zero => rfl
  | succ n ih => simp [tL, ih]
theorem tE_succ (n : Nat) (b : List Nat) (h : tE n b = 0) : tE (n + 1) b = gE (tR n b) := by
  induction n generalizing b with
  | zero => simp only [tE, tR]; split <;> simp_all
  | succ n ih =>
    rw [tE] at h ⊢
    by_cases hg : gE b = 0
    · rw [if_pos hg] at h ⊢; rw [ih _ h, tR]
    · rw [if_neg hg] at h; exact absurd h hg
theorem tE_more (n m : Nat) (b : List Nat) (h : tE n b ≠ 0) : tE (n + m) b = tE n b := by
  induction n generalizing b with
  | zero => exact absurd rfl h
  | succ n ih =>
    rw [show n + 1 + m = (n + m) + 1 by omega]
    rw [tE] at h ⊢
    rw [tE]
    by_cases hg : gE b = 0
    · rw [if_pos hg] at h ⊢; rw [if_pos hg, ih _ h]
    · rw [if_neg hg, if_neg hg]
theorem tE_stop {j n : Nat} {b : List Nat} (h : tE j b = 0) (hj : j < n) (hg : gE (tR j b) ≠ 0) : tE n b = gE (tR j b) := by
  obtain ⟨m, rfl⟩ := Nat.le.dest (show j + 1 ≤ n from hj)
  have h1 := tE_succ j b h
  rw [tE_more (j + 1) m b (by rw [h1]; exact hg), h1]
theorem mem_drop {l : List Nat} {k : Nat} (h : ∀ x ∈ l, x < 256) : ∀ x ∈ l.drop k, x < 256 := fun x hx => h x (List.mem_of_mem_drop hx)
theorem tR_length (n : Nat) (b : List Nat) (h256 : ∀ x ∈ b, x < 256) (h : tE n b = 0) : (tR n b).length + n ≤ b.length := by
  induction n generalizing b with
  | zero => simp [tR]
  | succ n ih =>
    rw [tE] at h
    by_cases hg : gE b = 0
    · rw [if_pos hg] at h
      have h1 := ih (b.drop (gK b)) (mem_drop h256) h
      obtain ⟨h2, h3, _⟩ := gE_zero hg h256
      rw [tR]; simp at h1; omega
    · rw [if_neg hg] at h; exact absurd h hg
theorem tR_lt (n : Nat) (b : List Nat) (h256 : ∀ x ∈ b, x < 256) : ∀ x ∈ tR n b, x < 256 := by
  induction n generalizing b with
  | zero => exact h256
  | succ n ih => rw [tR]; exact ih _ (mem_drop h256)
theorem tE_le (n : Nat) (b : List Nat) : tE n b = 0 ∨ tE n b = 3 ∨ tE n b = 4 := by
  induction n generalizing b with
  | zero => exact .inl rfl
  | succ n ih =>
    rw [tE]; split
    · exact ih _
    · exact gE_le b
/-- Numbers that were put are got. -/
theorem t_put (l : List Int) (h : In l) (more : List Nat) : tE l.length (lebs l ++ more) = 0 ∧ tL l.length (lebs l ++ more) = l ∧ tR l.length (lebs l ++ more) = more := by
  induction l with
  | nil => exact ⟨rfl, rfl, rfl⟩
  | cons x r ih =>
    obtain ⟨i1, i2, i3⟩ := ih fun y hy => h y (by simp [hy])
    have hx := h x (by simp)
    obtain ⟨g1, g2, g3⟩ := g_put (zig x) (zig_lt x hx.1 hx.2) (lebs r ++ more)
    rw [lebs_cons, List.append_assoc, List.length_cons]
    rw [tE, tL, tR, if_pos g1, g2, g3, List.drop_left, i1, i2, i3, zag_zig]
    exact ⟨rfl, rfl, rfl⟩
theorem t_more (l : List Int) (h : In l) : tE (l.length + 1) (lebs l) = 3 := by
  obtain ⟨h1, h2, h3⟩ := t_put l h []
  rw [List.append_nil] at h1 h3
  rw [tE_succ _ _ h1, h3]; rfl

def iE (n : Int) (l : List Nat) : Nat := if n < 0 then 1 else tE n.toNat l
theorem iE_neg {n : Int} {l : List Nat} (h : n < 0) : iE n l = 1 := by unfold iE; rw [if_pos h]
theorem iE_pos {n : Int} {l : List Nat} (h : 0 ≤ n) : iE n l = tE n.toNat l := by unfold iE; rw [if_neg (by omega)]
/-- What ToInts, ToText tell beside an error: nothing. -/
def iL (n : Int) (l : List Nat) : List Int := if iE n l = 0 then tL n.toNat l else []
def iR (n : Int) (l : List Nat) : List Nat := if iE n l = 0 then tR n.toNat l else []

/-- ToText: the error, the text's bytes, what is left. -/
def xE (most : Int) (l : List Nat) : Nat := if gE l ≠ 0 then gE l else if most < 0 ∨ most < ((gN l : Nat) : Int) then 2 else if l.length - gK l < gN l then 3 else 0
def xS (l : List Nat) : List Nat := (l.drop (gK l)).take (gN l)
def xR (l : List Nat) : List Nat := (l.drop (gK l)).drop (gN l)
theorem xE_bad {most : Int} {l : List Nat} (h : gE l ≠ 0) : xE most l = gE l := by unfold xE; rw [if_pos h]
theorem xE_range {most : Int} {l : List Nat} (h : gE l = 0) (h1 : most < 0 ∨ most < ((gN l : Nat) : Int)) : xE most l = 2 := by unfold xE; rw [if_neg (by simpa using h), if_pos h1]
theorem xE_short {most : Int} {l : List Nat} (h : gE l = 0) (h1 : 0 ≤ most) (h2 : ((gN l : Nat) : Int) ≤ most) (h3 : l.length - gK l < gN l) : xE most l = 3 := by unfold xE; rw [if_neg (by simpa using h), if_neg (by omega), if_pos h3]
theorem xE_ok {most : Int} {l : List Nat} (h : gE l = 0) (h1 : 0 ≤ most) (h2 : ((gN l : Nat) : Int) ≤ most) (h3 : gN l ≤ l.length - gK l) : xE most l = 0 := by unfold xE; rw [if_neg (by simpa using h), if_neg (by omega), if_neg (by omega)]
theorem xE_cases (most : Int) (l : List Nat) : xE most l = 0 ∨ xE most l = 2 ∨ xE most l = 3 ∨ xE most l = 4 := by
  unfold xE; split
  · have := gE_le l; omega
  · split
    · omega
    · split <;> omega
def yS (most : Int) (l : List Nat) : List Nat := if xE most l = 0 then xS l else []
def yR (most : Int) (l : List Nat) : List Nat := if xE most l = 0 then xR l else []
end Go.Proofs.Ytkcpfgjkplailaa.E
/- The contracts of leb's put, Put, Zig, Zag. -/
namespace Go.Proofs.Ytkcpfgjkplailaa
set_option linter.unusedVariables false
open Go.RowKit

theorem ret_int {k : IntKind} {a b : Int} (h : a = b) : Ending.returned (.int k a) = .returned (.int k b) := by rw [h]
theorem u64_wrap (n : Int) : IntKind.u64.wrap n = n % 18446744073709551616 := by simp [IntKind.wrap, IntKind.bits, IntKind.signed]
theorem zig_neg (n : Int) (h0 : -9223372036854775808 ≤ n) (h : n < 0) : IntKind.u64.wrap (IntKind.u64.wrap (-IntKind.u64.wrap (IntKind.u64.wrap n * 2)) - 1) = ((E.zig n : Nat) : Int) := by
  simp only [u64_wrap, E.zig, if_pos h]; omega
theorem zig_pos (n : Int) (h : 0 ≤ n) : n * 2 = ((E.zig n : Nat) : Int) := by
  unfold E.zig; rw [if_neg (by omega)]; omega
theorem zag_odd (n : Int) (h0 : 0 ≤ n) (h : n % 2 = 1) : -(n / 2) - 1 = E.zag n.toNat := by
  unfold E.zag; rw [if_pos (by omega)]; omega
theorem zag_even (n : Int) (h0 : 0 ≤ n) (h : n % 2 ≠ 1) : n / 2 = E.zag n.toNat := by
  unfold E.zag; rw [if_neg (by omega)]; omega
set_option maxRecDepth 100000 in
theorem or_128 : ∀ x < 256, x ||| 128 = x % 128 + 128 := by decide
theorem or128 (m : Int) (h0 : 0 ≤ m) : bits .or .u8 (m % 256) 128 = (((m.toNat % 128 + 128 : Nat)) : Int) := by
  obtain ⟨n, rfl⟩ := Int.eq_ofNat_of_zero_le h0
  have hj := u8_or_nat (n % 256) 128 (by omega) (by omega)
  have h1 : n % 256 < 256 := by omega
  rw [or_128 _ h1] at hj
  rw [Int.toNat_natCast, show n % 128 + 128 = n % 256 % 128 + 128 by omega, ← hj]
  rfl

set_option maxHeartbeats 400000 in
theorem put_in (base : Nat) (v : Value) (l : List Nat) (n : Int) (w : World) (ho : w.ownsRow base 5 1 v l.length (B8 l)) (hl : l.length + 10 ≤ 140737488355328) (hb : base ≤ w.heap.size) (hn0 : 0 ≤ n) (hn1 : n < 18446744073709551616) :
    Calls Try.prog 51 #[v, .int .u64 n] w fun e w' => ∃ v', e = .returned v' ∧ w'.ownsRow base 5 1 v' (l ++ E.leb n.toNat).length (B8 (l ++ E.leb n.toNat)) ∧ AS w v w' v' := by
  obtain ⟨i0, hi, hz0, hz1, hz2⟩ := info_parts Try.infoU8
  have h10 := E.leb_ten n.toNat (by omega)
  go_enter Try.func51, Try.ntmps51
  go_wp2_with fail
  go_loopw [0, 1] (fun b m wr => ∃ (pre : List Nat) (k : Int), m = .int .u64 k ∧ 0 ≤ k ∧ k < 18446744073709551616 ∧ pre ++ E.leb k.toNat = l ++ E.leb n.toNat ∧ wr.ownsRow base 5 1 b pre.length (B8 pre) ∧ AS w v wr b) (fun _ m _ => (intOf m).toNat)
  case atStart => exact ⟨l, n, rfl, hn0, hn1, rfl, ho, AS.refl _ _⟩
  case round =>
    obtain ⟨pre, k, rfl, hk0, hk1, hpre, hown, has⟩ := hrel
    have hlen : pre.length + (E.leb k.toNat).length = l.length + (E.leb n.toNat).length := by
      have := congrArg List.length hpre
      simpa using this
    have hlp := E.leb_pos k.toNat
    have hsz := has.1.size
    have HP := hide hpre
    have HL := hide hlen
    have hpl : pre.length + 1 ≤ 140737488355328 := by omega
    by_cases hk : 128 ≤ k
    · have HO := hide (or128 k hk0)
      have HB := hide (E.leb_big k.toNat (by omega))
      clear hpre hlen h10 hlp
      go_wp2_with (at_builtin; refine wpList_append_to rfl _ _ 23 rfl base 5 i0 (.int .u8 0) 1 1 Try.underlying23 hi hz0 hz1 hz2 rfl (by decide) _ _ _ rfl (hown.alloc _) (some ⟨wr.heap.size, 0, none⟩) 1 1 [.int .u8 (bits .or .u8 (k % 256) 128)] rfl (by simp) rfl (Sl.news1 _ _) (one_oneCell _ _) (by unfold maxLen; omega) (by omega) (by simp; omega) ?_)
      intro v' w1 ho1 has1
      go_wp2
      go_roundw
      case rel =>
        refine ⟨pre ++ [k.toNat % 128 + 128], k / 128, rfl, by omega, by omega, ?_, ?_, has.trans (AS.pre ((Kept.refl _ wr).alloc _) has1)⟩
        · rw [← HP.out, HB.out, List.append_assoc, show (k / 128).toNat = k.toNat / 128 by omega]; rfl
        · rw [HO.out] at ho1
          rw [B8_append, List.length_append]; exact ho1
      case measure => simp [intOf]; omega
    · have HB := hide (E.leb_small k.toNat (by omega))
      clear hpre hlen h10 hlp
      go_wp2_with (at_builtin; refine wpList_append_to rfl _ _ 23 rfl base 5 i0 (.int .u8 0) 1 1 Try.underlying23 hi hz0 hz1 hz2 rfl (by decide) _ _ _ rfl (hown.alloc _) (some ⟨wr.heap.size, 0, none⟩) 1 1 [.int .u8 k] rfl (by simp) rfl (Sl.news1 _ _) (one_oneCell _ _) (by unfold maxLen; omega) (by omega) (by simp; omega) ?_)
      intro v' w1 ho1 has1
      go_wp2
      go_ret
      refine ⟨v', rfl, ?_, has.trans (AS.pre ((Kept.refl _ wr).alloc _) has1)⟩
      rw [← HP.out, HB.out, B8_append, List.length_append, show B8 [k.toNat] = [Value.int .u8 k] by simp [B8]; omega]
      exact ho1

/-- Put. -/
theorem put_any (n : Int) (w : World) (hn0 : 0 ≤ n) (hn1 : n < 18446744073709551616) :
    Calls Try.prog 24 #[.int .u64 n] w fun e w' => ∃ v', e = .returned v' ∧ w'.ownsRow w.heap.size 5 1 v' (E.leb n.toNat).length (B8 (E.leb n.toNat)) ∧ Below w.heap.size w w' := by
  go_enter Try.func24, Try.ntmps24
  go_wp2_with fail
  refine (put_in w.heap.size _ [] n w (World.ownsRow_nil _ _ _ _) (by simp) (Nat.le_refl _) hn0 hn1).mono ?_
  rintro e w' ⟨v', rfl, ho, has⟩
  go_wp2
  go_ret
  exact ⟨v', rfl, by simpa using ho, has.below (Nat.le_refl _) (by simp [Value.ownBlock])⟩

set_option maxHeartbeats 400000 in
theorem zig_any (n : Int) (w : World) (h0 : -9223372036854775808 ≤ n) (h1 : n < 9223372036854775808) :
    Calls Try.prog 25 #[.int .i64 n] w fun e w' => e = .returned (.int .u64 ((E.zig n : Nat) : Int)) ∧ w' = w := by
  by_cases hn : n < 0
  · go_enter Try.func25, Try.ntmps25
    go_wp2
    go_ret
    exact ⟨ret_int (zig_neg n h0 hn), rfl⟩
  · go_enter Try.func25, Try.ntmps25
    go_wp2
    go_ret
    exact ⟨ret_int (zig_pos n (by omega)), rfl⟩

set_option maxHeartbeats 400000 in
theorem zag_any (n : Int) (w : World) (h0 : 0 ≤ n) (h1 : n < 18446744073709551616) :
    Calls Try.prog 35 #[.int .u64 n] w fun e w' => e = .returned (.int .i64 (E.zag n.toNat)) ∧ w' = w := by
  by_cases hn : n % 2 = 1
  · have hb : (n % 2 == 1) = true := by simpa using hn
    clear hn
    go_enter Try.func35, Try.ntmps35
    go_wp2
    go_ret
    exact ⟨ret_int (zag_odd n h0 (by simpa using hb)), rfl⟩
  · have hb : (n % 2 == 1) = false := by simpa using hn
    clear hn
    go_enter Try.func35, Try.ntmps35
    go_wp2
    go_ret
    exact ⟨ret_int (zag_even n h0 (by simpa using hb)), rfl⟩
end Go.Proofs.Ytkcpfgjkplailaa

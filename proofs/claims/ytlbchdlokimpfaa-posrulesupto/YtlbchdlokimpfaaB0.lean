/- Sets of positions, plain: spans that rise, words of bits, how many are below. Nothing of the program. -/
import Derived.Test.YtlbchdlokimpfaaHA
namespace Go.Proofs.Ytlbchdlokimpfaa
set_option linter.unusedVariables false
set_option maxRecDepth 10000
/-- Numbers laid as spans. -/
def Z.stp (r : List (Nat × Nat)) (x : Nat) : List (Nat × Nat) :=
  match r.reverse with
  | [] => [(x, x + 1)]
  | (a, b) :: q => if b = x then q.reverse ++ [(a, x + 1)] else r ++ [(x, x + 1)]
def Z.rg (ps : List Nat) : List (Nat × Nat) := ps.foldl Z.stp []
def Z.un (r : List (Nat × Nat)) : List Nat := r.flatMap fun s => List.range' s.1 (s.2 - s.1)
theorem rg_snoc (ps : List Nat) (x : Nat) : Z.rg (ps ++ [x]) = Z.stp (Z.rg ps) x := by unfold Z.rg; rw [List.foldl_append]; rfl
theorem stp_nil (x : Nat) : Z.stp [] x = [(x, x + 1)] := rfl
theorem stp_on (q : List (Nat × Nat)) (a x : Nat) : Z.stp (q ++ [(a, x)]) x = q ++ [(a, x + 1)] := by simp [Z.stp]
theorem stp_new (q : List (Nat × Nat)) (a b x : Nat) (h : b ≠ x) : Z.stp (q ++ [(a, b)]) x = q ++ [(a, b)] ++ [(x, x + 1)] := by simp [Z.stp, h]
theorem snoc_or {α : Type} (r : List α) : r = [] ∨ ∃ q s, r = q ++ [s] := by
  rcases List.eq_nil_or_concat r with h | ⟨q, s, h⟩
  · exact .inl h
  · exact .inr ⟨q, s, by rw [h]; simp⟩
theorem un_snoc (q : List (Nat × Nat)) (s : Nat × Nat) : Z.un (q ++ [s]) = Z.un q ++ List.range' s.1 (s.2 - s.1) := by simp [Z.un]
/-- Spans that rise: none is empty, no two touch. -/
def Z.Spans (r : List (Nat × Nat)) : Prop := (∀ s ∈ r, s.1 < s.2) ∧ r.Pairwise fun s t => s.2 < t.1
theorem spans_rg : ∀ (n : Nat) (ps : List Nat), ps.length = n → (ps.Pairwise fun a b => a < b) → Z.Spans (Z.rg ps) ∧ Z.un (Z.rg ps) = ps ∧ (∀ s ∈ Z.rg ps, s.2 ≤ ps.getLastD 0 + 1) ∧ (Z.rg ps).length ≤ n
  | 0, ps, hl, _ => by
    have : ps = [] := List.length_eq_zero_iff.1 hl
    subst this
    exact ⟨⟨fun s hs => by simp [Z.rg] at hs, List.Pairwise.nil⟩, rfl, fun s hs => by simp [Z.rg] at hs, by simp [Z.rg]⟩
  | n + 1, ps, hl, hr => by
    rcases snoc_or ps with rfl | ⟨q, x, rfl⟩
    · simp at hl
    · rw [List.pairwise_append] at hr
      obtain ⟨hq, _, hx⟩ := hr
      obtain ⟨⟨h1, h2⟩, h3, h4, h5⟩ := spans_rg n q (by simpa using hl) hq
      have hql : ∀ y ∈ q, y < x := fun y hy => hx y hy x (by simp)
      rw [rg_snoc]
      have hlast : (q ++ [x]).getLastD 0 = x := by simp
      rw [hlast]
      rcases snoc_or (Z.rg q) with he | ⟨r, ⟨a, b⟩, he⟩
      · rw [he, stp_nil]
        rw [he] at h3
        refine ⟨⟨fun s hs => ?_, List.pairwise_singleton _ _⟩, ?_, fun s hs => ?_, by simp⟩
        · simp at hs; subst hs; exact Nat.lt_succ_self x
        · rw [← h3]; simp [Z.un]
        · simp at hs; subst hs; exact Nat.le_refl _
      · rw [he] at h1 h2 h3 h4 h5
        have hab : a < b := h1 (a, b) (by simp)
        have hbx : b ≤ x := by
          have hm : b - 1 ∈ q := by
            rw [← h3, un_snoc]
            simp only [List.mem_append, List.mem_range'_1]
            right; omega
          have := hql _ hm
          omega
        rw [List.pairwise_append] at h2
        obtain ⟨g1, _, g2⟩ := h2
        by_cases hb : b = x
        · subst hb
          rw [he, stp_on]
          refine ⟨⟨fun s hs => ?_, ?_⟩, ?_, fun s hs => ?_, by simp at h5 ⊢; omega⟩
          · rw [List.mem_append] at hs
            rcases hs with hs | hs
            · exact h1 s (by rw [List.mem_append]; exact .inl hs)
            · simp at hs; subst hs; show a < b + 1; omega
          · rw [List.pairwise_append]
            refine ⟨g1, List.pairwise_singleton _ _, fun s hs t ht => ?_⟩
            simp at ht; subst ht
            exact g2 s hs (a, b) (by simp)
          · rw [un_snoc]
            rw [un_snoc] at h3
            rw [← h3]
            simp only
            rw [show b + 1 - a = (b - a) + 1 by omega, List.range'_concat, List.append_assoc]
            simp only [Nat.one_mul]
            rw [show a + (b - a) = b by omega]
          · rw [List.mem_append] at hs
            rcases hs with hs | hs
            · have := g2 s hs (a, b) (by simp)
              show s.2 ≤ b + 1
              simp at this; omega
            · simp at hs; subst hs; exact Nat.le_refl _
        · rw [he, stp_new _ _ _ _ hb]
          refine ⟨⟨fun s hs => ?_, ?_⟩, ?_, fun s hs => ?_, by simp at h5 ⊢; omega⟩
          · rw [List.mem_append] at hs
            rcases hs with hs | hs
            · exact h1 s hs
            · simp at hs; subst hs; exact Nat.lt_succ_self x
          · rw [List.pairwise_append]
            refine ⟨by rw [List.pairwise_append]; exact ⟨g1, List.pairwise_singleton _ _, g2⟩, List.pairwise_singleton _ _, fun s hs t ht => ?_⟩
            simp at ht; subst ht
            show s.2 < x
            rw [List.mem_append] at hs
            rcases hs with hs | hs
            · have := g2 s hs (a, b) (by simp)
              simp at this; omega
            · simp at hs; subst hs; show b < x; omega
          · rw [un_snoc, h3]; simp
          · rw [List.mem_append] at hs
            rcases hs with hs | hs
            · have hs2 : s.2 ≤ b := by
                rw [List.mem_append] at hs
                rcases hs with hs | hs
                · have := g2 s hs (a, b) (by simp)
                  simp at this; omega
                · simp at hs; subst hs; exact Nat.le_refl _
              omega
            · simp at hs; subst hs; exact Nat.le_refl _
theorem un_mem (r : List (Nat × Nat)) (x : Nat) : x ∈ Z.un r ↔ ∃ s ∈ r, s.1 ≤ x ∧ x < s.2 := by
  unfold Z.un
  simp only [List.mem_flatMap, List.mem_range'_1]
  constructor
  · rintro ⟨s, hs, h1, h2⟩; exact ⟨s, hs, h1, by omega⟩
  · rintro ⟨s, hs, h1, h2⟩; exact ⟨s, hs, h1, by omega⟩
/-- How many of some spans are below a number. -/
def Z.rb1 (at' : Nat) (s : Nat × Nat) : Nat := min at' s.2 - s.1
def Z.rbl (at' : Nat) (r : List (Nat × Nat)) : Nat := (r.map (Z.rb1 at')).sum
theorem rbl_snoc (at' : Nat) (q : List (Nat × Nat)) (s : Nat × Nat) : Z.rbl at' (q ++ [s]) = Z.rbl at' q + Z.rb1 at' s := by simp [Z.rbl]
theorem range_below : ∀ (n a m : Nat), ((List.range' a n).filter fun x => decide (x < m)).length = min m (a + n) - a
  | 0, a, m => by simp; omega
  | n + 1, a, m => by
    rw [List.range'_concat, List.filter_append, List.length_append, range_below n a m]
    simp only [List.filter_cons, List.filter_nil, Nat.one_mul]
    by_cases h : a + n < m
    · simp [h]; omega
    · simp [h]; omega
theorem rbl_un (m : Nat) (r : List (Nat × Nat)) (hr : ∀ s ∈ r, s.1 < s.2) : Z.rbl m r = ((Z.un r).filter fun x => decide (x < m)).length := by
  induction r with
  | nil => rfl
  | cons s r ih =>
    have e : Z.un (s :: r) = List.range' s.1 (s.2 - s.1) ++ Z.un r := by simp [Z.un]
    rw [e, List.filter_append, List.length_append, ← ih (fun t ht => hr t (by simp [ht])), range_below]
    have := hr s (by simp)
    simp only [Z.rbl, List.map_cons, List.sum_cons, Z.rb1]
    omega
theorem ps_below (bs : List Bool) : ∀ (k m : Nat), m ≤ k → ((Z.ps bs k).filter fun x => decide (x < m)) = Z.ps bs m
  | 0, m, h => by have : m = 0 := by omega
                  subst this; rfl
  | k + 1, m, h => by
    by_cases hm : m = k + 1
    · subst hm
      rw [List.filter_eq_self]
      intro x hx
      exact decide_eq_true (ps_lt hx)
    · have ih := ps_below bs k m (by omega)
      cases hb : bs.getD k false with
      | true =>
        rw [ps_yes hb, List.filter_append, ih]
        simp
        omega
      | false => rw [ps_no hb, ih]
/-- A word of a set: its bits below the k-th of the q-th 64. -/
def Z.wk (bs : List Bool) (q : Nat) : Nat → Nat
  | 0 => 0
  | k + 1 => if bs.getD (64 * q + k) false = true then Z.wk bs q k + 2 ^ k else Z.wk bs q k
def Z.bw (bs : List Bool) : List Nat := (List.range ((bs.length + 63) / 64)).map fun q => Z.wk bs q 64
theorem bw_length (bs : List Bool) : (Z.bw bs).length = (bs.length + 63) / 64 := by simp [Z.bw]
theorem bw_at (bs : List Bool) {q : Nat} (h : q < (bs.length + 63) / 64) : (Z.bw bs).getD q 0 = Z.wk bs q 64 := by simp [Z.bw, List.getD, h]
theorem wk_lt (bs : List Bool) (q : Nat) : ∀ k, Z.wk bs q k < 2 ^ k
  | 0 => by simp [Z.wk]
  | k + 1 => by
    have := wk_lt bs q k
    unfold Z.wk
    rw [Nat.pow_succ]
    split <;> omega
theorem wk_bit (bs : List Bool) (q : Nat) : ∀ k t, (Z.wk bs q k).testBit t = (decide (t < k) && bs.getD (64 * q + t) false)
  | 0, t => by simp [Z.wk]
  | k + 1, t => by
    have ih := wk_bit bs q k t
    have hlt := wk_lt bs q k
    unfold Z.wk
    by_cases ht : t = k
    · subst ht
      split
      · rename_i h
        rw [Nat.add_comm, Nat.testBit_two_pow_add_eq, ih, h]; simp
      · rename_i h
        rw [ih]; simp at h ⊢; rw [h]
    · split
      · rename_i h
        rw [Nat.add_comm]
        rcases Nat.lt_or_gt_of_ne ht with h1 | h1
        · rw [Nat.testBit_two_pow_add_gt h1, ih]; simp [h1]; intro; omega
        · have e : (2 ^ k + Z.wk bs q k).testBit t = false := Nat.testBit_lt_two_pow (Nat.lt_of_lt_of_le (by rw [Nat.pow_succ]; omega : 2 ^ k + Z.wk bs q k < 2 ^ (k + 1)) (Nat.pow_le_pow_right (by decide) h1))
          rw [e]; simp; intro; omega
      · rename_i h
        rw [ih]
        have : decide (t < k) = decide (t < k + 1) := by
          by_cases h1 : t < k
          · simp [h1]; omega
          · simp [h1]; omega
        rw [this]
/-- How many bits of a number are 1. -/
def Z.pc : Nat → Nat → Nat
  | 0, _ => 0
  | f + 1, x => x % 2 + Z.pc f (x / 2)
theorem pc_zero : ∀ f, Z.pc f 0 = 0
  | 0 => rfl
  | f + 1 => by rw [Z.pc, Nat.zero_div, pc_zero f]
theorem pc_add : ∀ (k f a : Nat), k < f → a < 2 ^ k → Z.pc f (a + 2 ^ k) = Z.pc f a + 1
  | 0, f + 1, a, _, ha => by
    have : a = 0 := by simp at ha; exact ha
    subst this
    simp [Z.pc, pc_zero]
  | k + 1, f + 1, a, hk, ha => by
    rw [Z.pc, Z.pc]
    have e : 2 ^ (k + 1) = 2 * 2 ^ k := by rw [Nat.pow_succ]; omega
    rw [e] at ha ⊢
    have e1 : (a + 2 * 2 ^ k) / 2 = a / 2 + 2 ^ k := by omega
    have e2 : (a + 2 * 2 ^ k) % 2 = a % 2 := by omega
    rw [e1, e2, pc_add k f (a / 2) (by omega) (by omega)]
    omega
theorem pc_wk (bs : List Bool) (q : Nat) : ∀ k, k ≤ 64 → Z.pc 64 (Z.wk bs q k) + (Z.ps bs (64 * q)).length = (Z.ps bs (64 * q + k)).length
  | 0, _ => by simp [Z.wk, pc_zero]
  | k + 1, h => by
    have ih := pc_wk bs q k (by omega)
    unfold Z.wk
    rw [← Nat.add_assoc]
    cases hb : bs.getD (64 * q + k) false with
    | true => rw [ps_yes hb, if_pos rfl, pc_add k 64 _ (by omega) (wk_lt bs q k), List.length_append]; simp; omega
    | false => rw [ps_no hb, if_neg (by simp)]; exact ih
theorem pc_clear : ∀ (f x : Nat), 0 < x → x < 2 ^ f → Z.pc f (x &&& (x - 1)) + 1 = Z.pc f x
  | 0, x, h0, h => by simp at h; omega
  | f + 1, x, h0, h => by
    rw [Z.pc, Z.pc]
    have hp : 2 ^ (f + 1) = 2 * 2 ^ f := by rw [Nat.pow_succ]; omega
    have hm : (x &&& (x - 1)) % 2 = 0 := by
      have h1 := Nat.testBit_and x (x - 1) 0
      rw [Nat.testBit_zero, Nat.testBit_zero, Nat.testBit_zero] at h1
      have h2 : ¬ ((x &&& (x - 1)) % 2 = 1) := by
        intro h3
        rw [decide_eq_true h3] at h1
        have h4 := Bool.and_eq_true_iff.1 h1.symm
        have h5 := of_decide_eq_true h4.1
        have h6 := of_decide_eq_true h4.2
        omega
      omega
    rw [Nat.and_div_two, hm]
    rcases Nat.mod_two_eq_zero_or_one x with he | ho
    · have e : (x - 1) / 2 = x / 2 - 1 := by omega
      rw [e, Nat.zero_add, pc_clear f (x / 2) (by omega) (by omega), he, Nat.zero_add]
    · have e : (x - 1) / 2 = x / 2 := by omega
      rw [e, Nat.and_self, ho]; omega
/-- The bits of a word told one by one, the least first: T is what is told of a word. -/
def Z.bn (T : Nat → Int) (base : Int) : Nat → Nat → List Int
  | 0, _ => []
  | f + 1, x => if x = 0 then [] else Go.RowKit.wrap64 (base + T x) :: Z.bn T base f (x &&& (x - 1))
theorem clear_lt {x : Nat} (h : 0 < x) : x &&& (x - 1) < x := Nat.lt_of_le_of_lt Nat.and_le_right (by omega)
theorem bn_len (T : Nat → Int) (base : Int) (G : Nat) : ∀ (f x : Nat), x < 2 ^ G → Z.pc G x ≤ f → (Z.bn T base f x).length = Z.pc G x
  | 0, x, hx, hf => by
    have h0 : Z.pc G x = 0 := Nat.le_zero.1 hf
    rw [h0]; rfl
  | f + 1, x, hx, hf => by
    unfold Z.bn
    by_cases h : x = 0
    · subst h; rw [if_pos rfl, pc_zero]; rfl
    · have h1 := pc_clear G x (Nat.pos_of_ne_zero h) hx
      rw [← h1] at hf ⊢
      rw [if_neg h, List.length_cons, bn_len T base G f _ (Nat.lt_trans (clear_lt (Nat.pos_of_ne_zero h)) hx) (Nat.le_of_succ_le_succ hf)]
theorem bn_length (T : Nat → Int) (base : Int) (f x : Nat) (hx : x < 2 ^ 64) (hf : Z.pc 64 x ≤ f) : (Z.bn T base f x).length = Z.pc 64 x := bn_len T base 64 f x hx hf
theorem bn_zero (T : Nat → Int) (base : Int) (f : Nat) : Z.bn T base f 0 = [] := by cases f <;> rfl
theorem bn_step (T : Nat → Int) (base : Int) {f x : Nat} (h : x ≠ 0) : Z.bn T base (f + 1) x = Go.RowKit.wrap64 (base + T x) :: Z.bn T base f (x &&& (x - 1)) := by
  conv => lhs; unfold Z.bn
  rw [if_neg h]
/-- What words tell, the k first ones. -/
def Z.bl (T : Nat → Int) (ws : List Nat) : Nat → List Int
  | 0 => []
  | k + 1 => Z.bl T ws k ++ Z.bn T ((k : Int) * 64) 64 (ws.getD k 0)
theorem pc_le : ∀ (f x : Nat), Z.pc f x ≤ f
  | 0, _ => Nat.le_refl _
  | f + 1, x => by rw [Z.pc]; have := pc_le f (x / 2); omega
theorem bl_length (T : Nat → Int) (bs : List Bool) : ∀ k, k ≤ (bs.length + 63) / 64 → (Z.bl T (Z.bw bs) k).length = (Z.ps bs (64 * k)).length
  | 0, _ => rfl
  | k + 1, h => by
    have ih := bl_length T bs k (by omega)
    have h1 := pc_wk bs k 64 (Nat.le_refl _)
    rw [Z.bl, List.length_append, ih, bw_at bs (by omega), bn_length T _ 64 _ (wk_lt bs k 64) (pc_le _ _), show 64 * (k + 1) = 64 * k + 64 by omega]
    omega
/-- The numbers that a set tells of itself, in its way. -/
def Z.nums (T : Nat → Int) (rep : Nat) (bs : List Bool) : List Int := if rep = 2 then Z.bl T (Z.bw bs) ((bs.length + 63) / 64) else (Z.ls bs).map fun (x : Nat) => (x : Int)
theorem nums_length (T : Nat → Int) (rep : Nat) (bs : List Bool) : (Z.nums T rep bs).length = (Z.ls bs).length := by
  unfold Z.nums
  split
  · rw [bl_length T bs _ (Nat.le_refl _), ps_out (by omega)]
  · simp
theorem bw_set (bs : List Bool) {x : Nat} (hx : x < bs.length) : Z.bw (bs.set x true) = (Z.bw bs).set (x / 64) ((Z.bw bs).getD (x / 64) 0 ||| 2 ^ (x % 64)) := by
  apply List.ext_getElem
  · simp [Z.bw]
  · intro i h1 h2
    have hi : i < (bs.length + 63) / 64 := by simpa [Z.bw] using h1
    rw [List.getElem_set]
    simp only [Z.bw, List.getElem_map, List.getElem_range]
    apply Nat.eq_of_testBit_eq
    intro t
    by_cases hq : x / 64 = i
    · rw [if_pos hq, List.getD_eq_getElem?_getD, List.getElem?_map, List.getElem?_range (by omega)]
      show _ = (Z.wk bs (x / 64) 64 ||| 2 ^ (x % 64)).testBit t
      rw [Nat.testBit_or, wk_bit, wk_bit, Nat.testBit_two_pow, hq]
      simp only [List.getD_eq_getElem?_getD, List.getElem?_set]
      by_cases ht : x % 64 = t
      · have e : x = 64 * i + t := by omega
        have h64 : t < 64 := by omega
        rw [if_pos e]
        simp [ht, h64, ← e, hx]
      · have e : x ≠ 64 * i + t ∨ 64 ≤ t := by omega
        rcases e with e | e
        · rw [if_neg e]; simp [ht]
        · have : ¬ t < 64 := by omega
          simp [this, ht]
    · rw [if_neg hq, wk_bit, wk_bit]
      by_cases ht : t < 64
      · have e : x ≠ 64 * i + t := by omega
        simp only [List.getD_eq_getElem?_getD, List.getElem?_set]
        rw [if_neg e]
      · simp [ht]
theorem bw_lt (bs : List Bool) (q : Nat) : (Z.bw bs).getD q 0 < 18446744073709551616 := by
  by_cases h : q < (bs.length + 63) / 64
  · rw [bw_at bs h]; exact wk_lt bs q 64
  · rw [List.getD_eq_getElem?_getD, List.getElem?_eq_none (by rw [bw_length]; omega)]; decide
theorem bw_none (n : Nat) : Z.bw (List.replicate n false) = List.replicate ((n + 63) / 64) 0 := by
  apply List.ext_getElem
  · simp [Z.bw]
  · intro i h1 h2
    simp only [Z.bw, List.getElem_map, List.getElem_range, List.getElem_replicate]
    apply Nat.eq_of_testBit_eq
    intro t
    rw [wk_bit, Nat.zero_testBit]
    simp only [List.getD_eq_getElem?_getD, List.getElem?_replicate]
    split <;> simp
/-- Of a set's own numbers the set is the set. -/
def Z.is (l : List Nat) : List Int := l.map fun (x : Nat) => (x : Int)
theorem fo_is (bs : List Bool) : Z.fo bs.length (Z.is (Z.ls bs)) = bs := by
  apply List.ext_getElem
  · rw [fo_length]
  · intro i h1 h2
    have e := fo_at (n := bs.length) (l := Z.is (Z.ls bs)) h2
    rw [List.getD_eq_getElem?_getD, List.getElem?_eq_getElem h1] at e
    simp only [Option.getD_some] at e
    rw [e, Bool.eq_iff_iff, List.any_eq_true]
    unfold Z.is Z.ls
    constructor
    · rintro ⟨x, hx, he⟩
      simp only [List.mem_map] at hx
      obtain ⟨y, hy, rfl⟩ := hx
      have : y = i := by simp at he; omega
      subst this
      have := ((ps_mem bs bs.length y).1 hy).2
      rwa [List.getD_eq_getElem?_getD, List.getElem?_eq_getElem h2] at this
    · intro hb
      refine ⟨(i : Int), ?_, by simp⟩
      simp only [List.mem_map]
      exact ⟨i, (ps_mem bs bs.length i).2 ⟨h2, by rw [List.getD_eq_getElem?_getD, List.getElem?_eq_getElem h2]; exact hb⟩, rfl⟩
end Go.Proofs.Ytlbchdlokimpfaa

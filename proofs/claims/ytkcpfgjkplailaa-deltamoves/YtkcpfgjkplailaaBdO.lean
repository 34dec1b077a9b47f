/- Plain facts on words: values that rise, each once. Nothing of the program. -/
import Derived.Test.YtkcpfgjkplailaaBdH
import Derived.Test.YtkcpfgjkplailaaBdF
import Derived.Test.YtkcpfgjkplailaaBdI
import Derived.Test.YtkcpfgjkplailaaBdN
namespace Go.Proofs.Ytkcpfgjkplailaa
set_option linter.unusedVariables false
open Go.RowKit

theorem cv_anti (a b : Z.V) : Z.cv b a = -Z.cv a b := (Z.cv_ord a b b).1
theorem cv_lt_lt {a b c : Z.V} (h1 : Z.cv a b < 0) (h2 : Z.cv b c < 0) : Z.cv a c < 0 := by
  have := (Z.cv_ord a b c).2.2
  omega
theorem cv_le_le {a b c : Z.V} (h1 : Z.cv a b ≤ 0) (h2 : Z.cv b c ≤ 0) : Z.cv a c ≤ 0 := by
  have := (Z.cv_ord a b c).2.1
  omega
theorem cv_le_lt {a b c : Z.V} (h1 : Z.cv a b ≤ 0) (h2 : Z.cv b c < 0) : Z.cv a c < 0 := by
  rcases Int.lt_or_le (Z.cv a c) 0 with h | h
  · exact h
  · have h3 : Z.cv c a ≤ 0 := by have := cv_anti a c; omega
    have h4 := cv_le_le h3 h1
    have := cv_anti b c
    omega
theorem cv_lt_le {a b c : Z.V} (h1 : Z.cv a b < 0) (h2 : Z.cv b c ≤ 0) : Z.cv a c < 0 := by
  rcases Int.lt_or_le (Z.cv a c) 0 with h | h
  · exact h
  · have h3 : Z.cv c a ≤ 0 := by have := cv_anti a c; omega
    have h4 := cv_le_le h2 h3
    have := cv_anti a b
    omega
theorem cv_eq_sym {a b : Z.V} (h : Z.cv a b = 0) : Z.cv b a = 0 := by rw [cv_anti, h]; rfl
theorem cv_eq_trans {a b c : Z.V} (h1 : Z.cv a b = 0) (h2 : Z.cv b c = 0) : Z.cv a c = 0 := by
  have h3 := cv_le_le (Int.le_of_eq h1) (Int.le_of_eq h2)
  have h4 := cv_le_le (Int.le_of_eq (cv_eq_sym h2)) (Int.le_of_eq (cv_eq_sym h1))
  have := cv_anti a c
  omega
/-- What is alike stands alike to all others. -/
theorem cv_left {a b : Z.V} (h : Z.cv a b = 0) (c : Z.V) : Z.cv a c = Z.cv b c := by
  rcases Z.cv_range b c with h1 | h1 | h1
  · have h2 : Z.cv a c < 0 := cv_le_lt (Int.le_of_eq h) (by omega)
    rcases Z.cv_range a c with h3 | h3 | h3 <;> omega
  · rw [cv_eq_trans h h1, h1]
  · have h2 : Z.cv c a < 0 := cv_lt_le (b := b) (by have := cv_anti b c; omega) (Int.le_of_eq (cv_eq_sym h))
    have h4 := cv_anti c a
    rcases Z.cv_range a c with h3 | h3 | h3 <;> omega
theorem cv_right {a b : Z.V} (h : Z.cv a b = 0) (c : Z.V) : Z.cv c a = Z.cv c b := by rw [cv_anti a c, cv_anti b c, cv_left h c]
/-- Values that rise. -/
def Z.Rise (ws : List Z.V) : Prop := ws.Pairwise fun a b => Z.cv a b < 0
/-- How many are below a value; is one alike? -/
def Z.blw (ws : List Z.V) (v : Z.V) : Nat := ws.countP fun x => decide (Z.cv x v < 0)
def Z.has (ws : List Z.V) (v : Z.V) : Bool := ws.any fun x => decide (Z.cv x v = 0)
theorem blw_le (ws : List Z.V) (v : Z.V) : Z.blw ws v ≤ ws.length := List.countP_le_length
theorem blw_snoc (ws : List Z.V) (x v : Z.V) : Z.blw (ws ++ [x]) v = Z.blw ws v + (if Z.cv x v < 0 then 1 else 0) := by
  unfold Z.blw
  rw [List.countP_append]
  by_cases h : Z.cv x v < 0 <;> simp [h]
theorem has_iff {ws : List Z.V} {v : Z.V} : Z.has ws v = true ↔ ∃ y ∈ ws, Z.cv y v = 0 := by
  unfold Z.has
  simp
/-- The values that rise are cut by any one: those below it, and the others. -/
theorem rise_cut : ∀ {ws : List Z.V}, Z.Rise ws → ∀ v, (∀ x ∈ ws.take (Z.blw ws v), Z.cv x v < 0) ∧ (∀ x ∈ ws.drop (Z.blw ws v), 0 ≤ Z.cv x v)
  | [], _, v => by simp
  | y :: ws, h, v => by
    obtain ⟨h1, h2⟩ := List.pairwise_cons.1 h
    obtain ⟨i1, i2⟩ := rise_cut h2 v
    by_cases hy : Z.cv y v < 0
    · have e : Z.blw (y :: ws) v = Z.blw ws v + 1 := by unfold Z.blw; rw [List.countP_cons]; simp [hy]
      rw [e, List.take_succ_cons, List.drop_succ_cons]
      refine ⟨fun x hx => ?_, i2⟩
      rcases List.mem_cons.1 hx with rfl | hx
      · exact hy
      · exact i1 x hx
    · have hz : Z.blw ws v = 0 := by
        unfold Z.blw
        rw [List.countP_eq_zero]
        intro x hx
        simp only [decide_eq_true_eq]
        intro hxv
        exact hy (cv_lt_lt (h1 x hx) hxv)
      have e : Z.blw (y :: ws) v = 0 := by
        have e0 : Z.blw (y :: ws) v = Z.blw ws v := by unfold Z.blw; rw [List.countP_cons]; simp [hy]
        rw [e0, hz]
      rw [e, List.take_zero, List.drop_zero]
      refine ⟨by simp, fun x hx => ?_⟩
      rcases List.mem_cons.1 hx with rfl | hx
      · omega
      · have h3 := i2
        rw [hz, List.drop_zero] at h3
        exact h3 x hx
/-- One is alike just if the first that is not below is. -/
theorem rise_has {ws : List Z.V} (h : Z.Rise ws) (v : Z.V) : Z.has ws v = true ↔ ∃ y, ws[Z.blw ws v]? = some y ∧ Z.cv y v = 0 := by
  obtain ⟨h1, h2⟩ := rise_cut h v
  rw [has_iff]
  constructor
  · rintro ⟨y, hy, hv⟩
    have hd : y ∈ ws.drop (Z.blw ws v) := by
      rw [← List.take_append_drop (Z.blw ws v) ws] at hy
      rcases List.mem_append.1 hy with hy | hy
      · have := h1 y hy; omega
      · exact hy
    have hr : Z.Rise (ws.drop (Z.blw ws v)) := List.Pairwise.sublist (List.drop_sublist _ _) h
    cases hw : ws.drop (Z.blw ws v) with
    | nil => rw [hw] at hd; simp at hd
    | cons z t =>
      have hz : ws[Z.blw ws v]? = some z := by
        have := congrArg (fun l => l[0]?) hw
        simpa [List.getElem?_drop] using this
      refine ⟨z, hz, ?_⟩
      rw [hw] at hd hr
      have hz2 : 0 ≤ Z.cv z v := h2 z (by rw [hw]; simp)
      rcases List.mem_cons.1 hd with rfl | hd
      · exact hv
      · have h3 := (List.pairwise_cons.1 hr).1 y hd
        have h4 := cv_lt_le h3 (Int.le_of_eq hv)
        omega
  · rintro ⟨y, hy, hv⟩
    exact ⟨y, List.mem_of_getElem? hy, hv⟩
/-- One value more among the words. -/
def Z.ins (ws : List Z.V) (x : Z.V) : List Z.V := if Z.has ws x = true then ws else ws.take (Z.blw ws x) ++ x :: ws.drop (Z.blw ws x)
theorem ins_has {ws : List Z.V} {x : Z.V} (h : Z.has ws x = true) : Z.ins ws x = ws := by unfold Z.ins; rw [if_pos h]
theorem ins_new {ws : List Z.V} {x : Z.V} (h : Z.has ws x = false) : Z.ins ws x = ws.take (Z.blw ws x) ++ x :: ws.drop (Z.blw ws x) := by
  unfold Z.ins; rw [if_neg (by rw [h]; decide)]
theorem rise_ins {ws : List Z.V} (h : Z.Rise ws) (x : Z.V) : Z.Rise (Z.ins ws x) := by
  cases hx : Z.has ws x with
  | true => rw [ins_has hx]; exact h
  | false =>
    rw [ins_new hx]
    obtain ⟨h1, h2⟩ := rise_cut h x
    have h0 : ∀ y ∈ ws, Z.cv y x ≠ 0 := fun y hy e => by
      rw [has_iff.2 ⟨y, hy, e⟩] at hx
      exact absurd hx (by decide)
    have hw := h
    unfold Z.Rise at hw ⊢
    rw [← List.take_append_drop (Z.blw ws x) ws, List.pairwise_append] at hw
    obtain ⟨a1, a2, a3⟩ := hw
    rw [List.pairwise_append, List.pairwise_cons]
    refine ⟨a1, ⟨fun y hy => ?_, a2⟩, fun y hy z hz => ?_⟩
    · have h3 := h2 y hy
      have h4 := h0 y (List.mem_of_mem_drop hy)
      have := cv_anti x y
      omega
    · rcases List.mem_cons.1 hz with rfl | hz
      · exact h1 y hy
      · exact a3 y hy z hz
theorem mem_ins {ws : List Z.V} {x y : Z.V} : y ∈ Z.ins ws x → y ∈ ws ∨ (y = x ∧ Z.has ws x = false) := by
  cases hx : Z.has ws x with
  | true => rw [ins_has hx]; exact .inl
  | false =>
    rw [ins_new hx]
    intro hy
    rcases List.mem_append.1 hy with hy | hy
    · exact .inl (List.mem_of_mem_take hy)
    · rcases List.mem_cons.1 hy with rfl | hy
      · exact .inr ⟨rfl, rfl⟩
      · exact .inl (List.mem_of_mem_drop hy)
theorem old_ins {ws : List Z.V} {x y : Z.V} (hy : y ∈ ws) : y ∈ Z.ins ws x := by
  cases hx : Z.has ws x with
  | true => rw [ins_has hx]; exact hy
  | false =>
    rw [ins_new hx]
    rw [← List.take_append_drop (Z.blw ws x) ws] at hy
    rcases List.mem_append.1 hy with hy | hy
    · exact List.mem_append.2 (.inl hy)
    · exact List.mem_append.2 (.inr (List.mem_cons_of_mem _ hy))
theorem has_ins (ws : List Z.V) (x : Z.V) : ∃ y ∈ Z.ins ws x, Z.cv y x = 0 := by
  cases hx : Z.has ws x with
  | true => rw [ins_has hx]; exact has_iff.1 hx
  | false =>
    rw [ins_new hx]
    exact ⟨x, List.mem_append.2 (.inr (by simp)), Z.cv_refl x⟩
/-- A column's words. -/
def Z.wds (l : List Z.V) : List Z.V := l.foldl Z.ins []
theorem wds_snoc (l : List Z.V) (x : Z.V) : Z.wds (l ++ [x]) = Z.ins (Z.wds l) x := by simp [Z.wds]
/-- What makes values a column's words: they rise, each value is alike with one, and each is the first one of the column that is alike with it. -/
structure Z.Words (l ws : List Z.V) : Prop where
  rise : Z.Rise ws
  all : ∀ x ∈ l, ∃ y ∈ ws, Z.cv y x = 0
  first : ∀ y ∈ ws, l.find? (fun x => decide (Z.cv x y = 0)) = some y
theorem words_nil : Z.Words [] [] := ⟨List.Pairwise.nil, by simp, by simp⟩
theorem words_snoc {l ws : List Z.V} (h : Z.Words l ws) (x : Z.V) : Z.Words (l ++ [x]) (Z.ins ws x) := by
  refine ⟨rise_ins h.rise x, fun y hy => ?_, fun y hy => ?_⟩
  · rcases List.mem_append.1 hy with hy | hy
    · obtain ⟨z, hz, hv⟩ := h.all y hy
      exact ⟨z, old_ins hz, hv⟩
    · obtain rfl : y = x := by simpa using hy
      exact has_ins ws y
  · rcases mem_ins hy with hy | ⟨rfl, hx⟩
    · rw [List.find?_append, h.first y hy]; rfl
    · have hn : l.find? (fun z => decide (Z.cv z y = 0)) = none := by
        rw [List.find?_eq_none]
        intro z hz
        simp only [decide_eq_true_eq]
        intro e
        obtain ⟨u, hu, hv⟩ := h.all z hz
        rw [has_iff.2 ⟨u, hu, cv_eq_trans hv e⟩] at hx
        exact absurd hx (by decide)
      rw [List.find?_append, hn]
      simp [Z.cv_refl]
theorem words_rev : ∀ l : List Z.V, Z.Words l.reverse (Z.wds l.reverse)
  | [] => words_nil
  | x :: l => by
    rw [List.reverse_cons, wds_snoc]
    exact words_snoc (words_rev l) x
theorem words_of (l : List Z.V) : Z.Words l (Z.wds l) := by
  have := words_rev l.reverse
  rwa [List.reverse_reverse] at this
theorem words_mem {l ws : List Z.V} (h : Z.Words l ws) {y : Z.V} (hy : y ∈ ws) : y ∈ l := List.mem_of_find?_eq_some (h.first y hy)
/-- Values that rise and have the same members are the same. -/
theorem rise_ext : ∀ {a b : List Z.V}, Z.Rise a → Z.Rise b → (∀ x, x ∈ a ↔ x ∈ b) → a = b
  | [], [], _, _, _ => rfl
  | [], y :: b, _, _, h => absurd ((h y).2 (by simp)) (by simp)
  | x :: a, [], _, _, h => absurd ((h x).1 (by simp)) (by simp)
  | x :: a, y :: b, ha, hb, h => by
    obtain ⟨a1, a2⟩ := List.pairwise_cons.1 ha
    obtain ⟨b1, b2⟩ := List.pairwise_cons.1 hb
    have hxy : x = y := by
      rcases List.mem_cons.1 ((h x).1 (by simp)) with e | hx
      · exact e
      · rcases List.mem_cons.1 ((h y).2 (by simp)) with e | hy
        · exact e.symm
        · have h1 := b1 x hx
          have h2 := a1 y hy
          have := cv_anti x y
          omega
    subst hxy
    congr 1
    refine rise_ext a2 b2 fun z => ⟨fun hz => ?_, fun hz => ?_⟩
    · rcases List.mem_cons.1 ((h z).1 (List.mem_cons_of_mem _ hz)) with e | h1
      · subst e
        have := a1 z hz
        rw [Z.cv_refl] at this
        omega
      · exact h1
    · rcases List.mem_cons.1 ((h z).2 (List.mem_cons_of_mem _ hz)) with e | h1
      · subst e
        have := b1 z hz
        rw [Z.cv_refl] at this
        omega
      · exact h1
theorem words_sub {l ws vs : List Z.V} (h : Z.Words l ws) (k : Z.Words l vs) {y : Z.V} (hy : y ∈ ws) : y ∈ vs := by
  obtain ⟨z, hz, hv⟩ := k.all y (words_mem h hy)
  have e1 := h.first y hy
  have e2 := k.first z hz
  have e3 : (fun x => decide (Z.cv x z = 0)) = fun x => decide (Z.cv x y = 0) := by
    funext x
    rw [cv_right hv x]
  rw [e3, e1] at e2
  rw [Option.some.inj e2]
  exact hz
/-- A column's words are the only ones. -/
theorem words_uniq {l ws vs : List Z.V} (h : Z.Words l ws) (k : Z.Words l vs) : ws = vs := rise_ext h.rise k.rise fun x => ⟨words_sub h k, words_sub k h⟩
/-- Of values that rise two that are alike are the same place. -/
theorem rise_place {ws : List Z.V} (h : Z.Rise ws) {i j : Nat} {x y : Z.V} (hi : ws[i]? = some x) (hj : ws[j]? = some y) (hv : Z.cv x y = 0) : i = j := by
  obtain ⟨hi1, hi2⟩ := List.getElem?_eq_some_iff.1 hi
  obtain ⟨hj1, hj2⟩ := List.getElem?_eq_some_iff.1 hj
  have hp := List.pairwise_iff_getElem.1 h
  rcases Nat.lt_trichotomy i j with h1 | h1 | h1
  · have := hp i j hi1 hj1 h1
    rw [hi2, hj2] at this
    omega
  · exact h1
  · have := hp j i hj1 hi1 h1
    rw [hi2, hj2] at this
    have := cv_anti x y
    omega
theorem rise_lt {ws : List Z.V} (h : Z.Rise ws) {i j : Nat} {x y : Z.V} (hi : ws[i]? = some x) (hj : ws[j]? = some y) : i < j ↔ Z.cv x y < 0 := by
  obtain ⟨hi1, hi2⟩ := List.getElem?_eq_some_iff.1 hi
  obtain ⟨hj1, hj2⟩ := List.getElem?_eq_some_iff.1 hj
  have hp := List.pairwise_iff_getElem.1 h
  constructor
  · intro h1
    have := hp i j hi1 hj1 h1
    rwa [hi2, hj2] at this
  · intro h1
    rcases Nat.lt_trichotomy i j with h2 | h2 | h2
    · exact h2
    · subst h2
      rw [hi] at hj
      rw [Option.some.inj hj, Z.cv_refl] at h1
      omega
    · have := hp j i hj1 hi1 h2
      rw [hi2, hj2] at this
      have := cv_anti x y
      omega
/-- Words of values that rise are these. -/
theorem words_self {ws : List Z.V} (h : Z.Rise ws) : Z.Words ws ws := by
  refine ⟨h, fun x hx => ⟨x, hx, Z.cv_refl x⟩, fun y hy => ?_⟩
  cases hf : ws.find? (fun x => decide (Z.cv x y = 0)) with
  | none =>
    rw [List.find?_eq_none] at hf
    exact absurd (by simp [Z.cv_refl]) (hf y hy)
  | some z =>
    have hz := List.mem_of_find?_eq_some hf
    have hv : Z.cv z y = 0 := by simpa using List.find?_some hf
    obtain ⟨i, hi⟩ := List.getElem?_of_mem hz
    obtain ⟨j, hj⟩ := List.getElem?_of_mem hy
    obtain rfl := rise_place h hi hj hv
    rw [hi] at hj
    rw [Option.some.inj hj]
theorem wds_self {ws : List Z.V} (h : Z.Rise ws) : Z.wds ws = ws := words_uniq (words_of ws) (words_self h)
theorem wds_rise (l : List Z.V) : Z.Rise (Z.wds l) := (words_of l).rise
theorem wds_len (l : List Z.V) : (Z.wds l).length ≤ l.length := by
  have key : ∀ l : List Z.V, (Z.wds l.reverse).length ≤ l.length := by
    intro l
    induction l with
    | nil => exact Nat.le_refl _
    | cons x l ih =>
      rw [List.reverse_cons, wds_snoc, List.length_cons]
      cases hx : Z.has (Z.wds l.reverse) x with
      | true => rw [ins_has hx]; omega
      | false =>
        rw [ins_new hx, List.length_append, List.length_cons, List.length_take, List.length_drop]
        have := blw_le (Z.wds l.reverse) x
        omega
  have := key l.reverse
  rwa [List.reverse_reverse, List.length_reverse] at this
end Go.Proofs.Ytkcpfgjkplailaa
/- Steps, plain, beyond DA: whether a column rises; columns that are moved, that are alike, that rise by one, that are cut. Nothing of the program. -/
namespace Go.Proofs.Ytkcpfgjkplailaa
set_option linter.unusedVariables false
set_option maxRecDepth 10000
open Go.RowKit
/-- Does none stand ahead of the one ahead of it? -/
def Z.upB : List Z.V → Bool
  | [] => true
  | [_] => true
  | x :: y :: t => decide (0 ≤ Z.cv y x) && Z.upB (y :: t)
theorem up_steps : ∀ l : List Z.V, Z.upB l = true ↔ ∀ j x y, l[j]? = some x → l[j + 1]? = some y → 0 ≤ Z.cv y x
  | [] => by simp [Z.upB]
  | [x] => by
    constructor
    · intro _ j a b _ h2; simp at h2
    · intro _; rfl
  | x :: y :: t => by
    rw [Z.upB, Bool.and_eq_true, decide_eq_true_eq, up_steps (y :: t)]
    constructor
    · rintro ⟨h1, h2⟩ j a b ha hb
      cases j with
      | zero => simp at ha hb; subst ha hb; exact h1
      | succ j => simp only [List.getElem?_cons_succ] at ha hb; exact h2 j a b ha (by simpa using hb)
    · intro h
      exact ⟨h 0 x y rfl rfl, fun j a b ha hb => h (j + 1) a b (by simpa using ha) (by simpa using hb)⟩
theorem upB_no {l : List Z.V} {j : Nat} {x y : Z.V} (h1 : l[j]? = some x) (h2 : l[j + 1]? = some y) (h : Z.cv y x < 0) : Z.upB l = false := by
  cases hb : Z.upB l with
  | false => rfl
  | true =>
    have := (up_steps l).1 hb j x y h1 h2
    omega
theorem cv_ints (a b : Int) : 0 ≤ Z.cv (⟨1, b, ⟨#[]⟩⟩ : Z.V) ⟨1, a, ⟨#[]⟩⟩ ↔ a ≤ b := by
  rw [cv_int]
  unfold Z.ci
  split
  · omega
  · split <;> omega
theorem up_pair : ∀ l : List Int, Z.upB (Z.vals l) = true ↔ l.Pairwise fun a b => a ≤ b
  | [] => by simp [Z.vals, Z.upB]
  | [x] => by simp [Z.vals, Z.upB]
  | x :: y :: t => by
    have ih := up_pair (y :: t)
    show (decide (0 ≤ Z.cv (⟨1, y, ⟨#[]⟩⟩ : Z.V) ⟨1, x, ⟨#[]⟩⟩) && Z.upB (Z.vals (y :: t))) = true ↔ _
    rw [Bool.and_eq_true, decide_eq_true_eq, cv_ints, ih]
    constructor
    · rintro ⟨h1, h2⟩
      refine List.pairwise_cons.2 ⟨fun z hz => ?_, h2⟩
      rcases List.mem_cons.1 hz with rfl | hz
      · exact h1
      · exact Int.le_trans h1 ((List.pairwise_cons.1 h2).1 z hz)
    · intro h
      obtain ⟨h1, h2⟩ := List.pairwise_cons.1 h
      exact ⟨h1 y (by simp), h2⟩
theorem alike_pair {x : Int} : ∀ l : List Int, (∀ y ∈ l, y = x) → l.Pairwise (fun a b => a ≤ b) ∧ l.Pairwise fun a b => b ≤ a
  | [], _ => ⟨List.Pairwise.nil, List.Pairwise.nil⟩
  | z :: s, hz => by
    obtain ⟨p1, p2⟩ := alike_pair s fun y hy => hz y (by simp [hy])
    have e := hz z (by simp)
    exact ⟨List.pairwise_cons.2 ⟨fun y hy => by have := hz y (by simp [hy]); omega, p1⟩, List.pairwise_cons.2 ⟨fun y hy => by have := hz y (by simp [hy]); omega, p2⟩⟩
theorem zig_none : E.zig (wrap64 0) = 0 := by rw [wrap64_id ⟨by decide, by decide⟩]; decide
theorem zig_one : E.zig (wrap64 1) = 2 := by rw [wrap64_id ⟨by decide, by decide⟩]; decide
/-- Both ways round just where all are alike. -/
theorem up_both (x : Int) (t : List Int) : (Z.upB (Z.vals (x :: t)) && Z.upB (Z.vals (x :: t).reverse)) = (x :: t).all fun y => y == x := by
  rw [Bool.eq_iff_iff, Bool.and_eq_true, up_pair, up_pair, List.pairwise_reverse, List.all_eq_true]
  constructor
  · rintro ⟨h1, h2⟩ y hy
    rcases List.mem_cons.1 hy with rfl | hy
    · simp
    · have a1 := (List.pairwise_cons.1 h1).1 y hy
      have a2 := (List.pairwise_cons.1 h2).1 y hy
      simp; omega
  · intro h
    have h' : ∀ y ∈ x :: t, y = x := fun y hy => by simpa using h y hy
    exact alike_pair _ h'
/-- What stands behind the first number. -/
def Z.dtl (l : List Z.V) : List Nat := E.leb (wid (ints (Z.dst l))) ++ A.bytesOf (bitsAll (ints (Z.dst l)) (wid (ints (Z.dst l))))
theorem deb_cons (x : Z.V) (t : List Z.V) : Z.deb (x :: t) = E.leb (E.zig x.i) ++ Z.dtl (x :: t) := rfl
theorem dtl_pos (l : List Z.V) : 1 ≤ (Z.dtl l).length := by
  unfold Z.dtl
  rw [List.length_append]
  have := E.leb_pos (wid (ints (Z.dst l)))
  omega
theorem dtl_none {l : List Z.V} (h : ∀ s ∈ Z.dst l, s = 0) : Z.dtl l = [0] := by
  have hw : wid (ints (Z.dst l)) = 0 := by
    have h1 : Fit (ints (Z.dst l)) 0 := fun x hx => by
      obtain ⟨y, hy, rfl⟩ := List.mem_map.1 hx
      have := h y hy
      subst this
      decide
    have h2 : In64 (ints (Z.dst l)) := In64_ints (dst_lt l)
    have := (fit_wid _ _ h2).1 h1
    omega
  unfold Z.dtl
  rw [hw, E.leb_small 0 (by omega)]
  have h3 : bitsAll (ints (Z.dst l)) 0 = [] := List.eq_nil_of_length_eq_zero (by rw [bitsAll_length, Nat.mul_zero])
  rw [h3]
  rfl
theorem deb_one (x : Z.V) : Z.deb [x] = E.leb (E.zig x.i) ++ [0] := by
  rw [deb_cons, dtl_none (by intro s hs; simp [Z.dst, Z.nms, Z.stp] at hs)]
theorem deb_rest (x : Z.V) (t : List Z.V) : (Z.deb (x :: t)).drop ((Z.deb [x]).length - 1) = Z.dtl (x :: t) ∧ (Z.deb [x]).length ≤ (Z.deb (x :: t)).length ∧ 2 ≤ (Z.deb [x]).length := by
  have h1 := dtl_pos (x :: t)
  have h2 := E.leb_pos (E.zig x.i)
  rw [deb_one, deb_cons, List.length_append, List.length_append]
  refine ⟨?_, by simp; omega, by simp; omega⟩
  rw [show (E.leb (E.zig x.i)).length + [0].length - 1 = (E.leb (E.zig x.i)).length by simp, List.drop_left]
theorem dst_vals (p : Int) (l : List Int) : Z.dst (Z.vals (p :: l)) = Z.stp p l := by
  show Z.stp p (Z.nms (Z.vals l)) = _
  rw [nms_vals]
/-- Numbers that are moved all by as much. -/
theorem dst_moved (by' : Int) (p : Int) (l : List Int) : Z.dst (Z.vals ((p :: l).map fun x => wrap64 (x + by'))) = Z.dst (Z.vals (p :: l)) := by
  rw [List.map_cons, dst_vals, dst_vals, stp_move]
theorem stp_alike (x : Int) : ∀ n, ∀ s ∈ Z.stp x (List.replicate n x), s = 0
  | 0, s, hs => by simp [Z.stp] at hs
  | n + 1, s, hs => by
    rw [List.replicate_succ, Z.stp] at hs
    rcases List.mem_cons.1 hs with rfl | hs
    · rw [Int.sub_self]; exact zig_none
    · exact stp_alike x n s hs
theorem deb_alike (x : Int) (n : Nat) : Z.deb (Z.vals (List.replicate (n + 1) x)) = Z.deb (Z.vals [x]) := by
  rw [List.replicate_succ]
  show Z.deb (⟨1, x, ⟨#[]⟩⟩ :: Z.vals (List.replicate n x)) = Z.deb [⟨1, x, ⟨#[]⟩⟩]
  rw [deb_one, deb_cons, dtl_none]
  intro s hs
  have := dst_vals x (List.replicate n x)
  exact stp_alike x n s (by rw [← this]; exact hs)
theorem up_alike (x : Int) (n : Nat) : Z.upB (Z.vals (List.replicate n x)) = true := by
  rw [up_pair]
  induction n with
  | zero => simp
  | succ n ih =>
    rw [List.replicate_succ, List.pairwise_cons]
    exact ⟨fun y hy => by rw [(List.mem_replicate.1 hy).2]; exact Int.le_refl _, ih⟩
/-- Numbers one more than the one ahead each. -/
def Z.cnt (p : Int) : Nat → List Int
  | 0 => []
  | n + 1 => p :: Z.cnt (p + 1) n
theorem cnt_length (p : Int) (n : Nat) : (Z.cnt p n).length = n := by
  induction n generalizing p with
  | zero => rfl
  | succ n ih => rw [Z.cnt, List.length_cons, ih]
theorem cnt_snoc (p : Int) (n : Nat) : Z.cnt p (n + 1) = Z.cnt p n ++ [p + n] := by
  induction n generalizing p with
  | zero => simp [Z.cnt]
  | succ n ih =>
    rw [Z.cnt, ih, Z.cnt, List.cons_append]
    congr 3
    omega
theorem cnt_low (p : Int) (n : Nat) : ∀ x ∈ Z.cnt p n, p ≤ x ∧ x < p + n := by
  induction n generalizing p with
  | zero => intro x hx; simp [Z.cnt] at hx
  | succ n ih =>
    intro x hx
    rcases List.mem_cons.1 hx with rfl | hx
    · omega
    · have := ih (p + 1) x hx
      omega
theorem stp_cnt (p : Int) (n : Nat) : ∀ s ∈ Z.stp p (Z.cnt (p + 1) n), s = 2 := by
  induction n generalizing p with
  | zero => intro s hs; simp [Z.cnt, Z.stp] at hs
  | succ n ih =>
    intro s hs
    rw [Z.cnt, Z.stp] at hs
    rcases List.mem_cons.1 hs with rfl | hs
    · rw [show p + 1 - p = 1 by omega]; exact zig_one
    · exact ih (p + 1) s hs
theorem up_cnt (p : Int) (n : Nat) : Z.upB (Z.vals (Z.cnt p n)) = true := by
  rw [up_pair]
  induction n generalizing p with
  | zero => simp [Z.cnt]
  | succ n ih =>
    rw [Z.cnt, List.pairwise_cons]
    exact ⟨fun y hy => by have := (cnt_low (p + 1) n y hy).1; omega, ih (p + 1)⟩
theorem deb_cnt (p : Int) (n : Nat) : (Z.deb (Z.vals (Z.cnt p (n + 1 + 1)))).length = (Z.deb (Z.vals [p])).length + (2 * (n + 1) + 7) / 8 := by
  have hd : Z.dst (Z.vals (Z.cnt p (n + 1 + 1))) = Z.stp p (Z.cnt (p + 1) (n + 1)) := dst_vals p _
  have hl : (Z.stp p (Z.cnt (p + 1) (n + 1))).length = n + 1 := by rw [stp_length, cnt_length]
  have h2 := stp_cnt p (n + 1)
  have hw : wid (ints (Z.stp p (Z.cnt (p + 1) (n + 1)))) = 2 := by
    have hin : In64 (ints (Z.stp p (Z.cnt (p + 1) (n + 1)))) := In64_ints (stp_lt _ _)
    have f2 : Fit (ints (Z.stp p (Z.cnt (p + 1) (n + 1)))) 2 := fun x hx => by
      obtain ⟨y, hy, rfl⟩ := List.mem_map.1 hx
      rw [h2 y hy]; decide
    have f1 : ¬ Fit (ints (Z.stp p (Z.cnt (p + 1) (n + 1)))) 1 := fun h => by
      have h3 := h 2 (by
        unfold ints
        refine List.mem_map.2 ⟨2, ?_, rfl⟩
        rw [Z.cnt, Z.stp]
        rw [show p + 1 - p = 1 by omega]
        exact List.mem_cons.2 (.inl zig_one.symm))
      exact absurd h3 (by decide)
    have a1 := (fit_wid _ _ hin).1 f2
    have a2 : ¬ wid (ints (Z.stp p (Z.cnt (p + 1) (n + 1)))) ≤ 1 := fun h => f1 ((fit_wid _ _ hin).2 h)
    omega
  have e : Z.vals (Z.cnt p (n + 1 + 1)) = ⟨1, p, ⟨#[]⟩⟩ :: Z.vals (Z.cnt (p + 1) (n + 1)) := rfl
  rw [show Z.vals [p] = [⟨1, p, ⟨#[]⟩⟩] from rfl, deb_one, e, deb_cons, ← e]
  unfold Z.dtl
  rw [hd, hw, List.length_append, List.length_append, List.length_append, A.bytesOf_length, bitsAll_length, ints_length, hl, E.leb_small 2 (by omega)]
  simp
  omega
/-- Bytes that are cut are not as many numbers. -/
theorem deb_cut {x : Z.V} {t : List Z.V} (hx : Z.I64 x.i) {k : Nat} (hk : k < (Z.deb (x :: t)).length) : Z.fN (t.length + 1) ((Z.deb (x :: t)).take k) ≠ 0 := by
  intro h0
  have h := fN_zero h0
  have hz := E.zig_lt _ hx.1 hx.2
  rw [deb_cons] at h hk
  by_cases h1 : k < (E.leb (E.zig x.i)).length
  · have h2 := E.g_cut (E.zig x.i) hz k h1
    have h3 := h.one
    rw [List.take_append_of_le_length (by omega), h2] at h3
    omega
  · obtain ⟨j, rfl⟩ : ∃ j, k = (E.leb (E.zig x.i)).length + j := ⟨k - (E.leb (E.zig x.i)).length, by omega⟩
    rw [List.take_length_add_append] at h
    obtain ⟨g1, g2, g3⟩ := E.g_put (E.zig x.i) hz ((Z.dtl (x :: t)).take j)
    have hfb : Z.fb (E.leb (E.zig x.i) ++ (Z.dtl (x :: t)).take j) = (Z.dtl (x :: t)).take j := by unfold Z.fb; rw [g2, List.drop_left]
    rw [List.length_append] at hk
    have hin : In64 (ints (Z.dst (x :: t))) := In64_ints (dst_lt _)
    have hw := wid_le _ hin
    have hwlt : wid (ints (Z.dst (x :: t))) < 18446744073709551616 := by omega
    have htwo := h.two
    have hbits := h.bits
    unfold Z.fr Z.fw at hbits
    rw [hfb] at htwo hbits
    unfold Z.dtl at htwo hbits hk
    by_cases h4 : j < (E.leb (wid (ints (Z.dst (x :: t))))).length
    · have h5 := E.g_cut _ hwlt j h4
      rw [List.take_append_of_le_length (by omega), h5] at htwo
      omega
    · obtain ⟨i, rfl⟩ : ∃ i, j = (E.leb (wid (ints (Z.dst (x :: t))))).length + i := ⟨j - (E.leb (wid (ints (Z.dst (x :: t))))).length, by omega⟩
      rw [List.take_length_add_append] at hbits
      obtain ⟨k1, k2, k3⟩ := E.g_put (wid (ints (Z.dst (x :: t)))) hwlt ((A.bytesOf (bitsAll (ints (Z.dst (x :: t))) (wid (ints (Z.dst (x :: t)))))).take i)
      rw [k2, k3, List.drop_left] at hbits
      have h6 := (jb_zero hbits).1
      rw [List.length_take, A.bytesOf_length, bitsAll_length, ints_length, dst_length] at h6
      rw [List.length_append, A.bytesOf_length, bitsAll_length, ints_length, dst_length] at hk
      simp only [List.length_cons, Nat.add_sub_cancel] at h6 hk
      omega
end Go.Proofs.Ytkcpfgjkplailaa
/- What delta.Of tells, plain: the error, the values; there and back. Nothing of the program. -/
namespace Go.Proofs.Ytkcpfgjkplailaa
set_option linter.unusedVariables false
set_option maxRecDepth 10000
open Go.RowKit
def Z.feE (b : List Nat) (n : Int) : Int := if n < 0 ∨ 4096 < n then 2 else if n = 0 then (if b = [] then 0 else 4) else ((Z.fN n.toNat b : Nat) : Int)
def Z.feL (b : List Nat) (n : Int) : List Z.V := if Z.feE b n = 0 ∧ n ≠ 0 then Z.vals (Z.fl n.toNat b) else []
theorem feE_many {b : List Nat} {n : Int} (h : n < 0 ∨ 4096 < n) : Z.feE b n = 2 := by unfold Z.feE; rw [if_pos h]
theorem feE_none (b : List Nat) : Z.feE b 0 = if b = [] then 0 else 4 := by unfold Z.feE; rw [if_neg (by omega), if_pos rfl]
theorem feE_some {b : List Nat} {N : Nat} (h0 : 0 < N) (hN : N ≤ 4096) : Z.feE b (N : Int) = ((Z.fN N b : Nat) : Int) := by unfold Z.feE; rw [if_neg (by omega), if_neg (by omega), Int.toNat_natCast]
theorem feL_bad {b : List Nat} {n : Int} (h : Z.feE b n ≠ 0) : Z.feL b n = [] := by unfold Z.feL; rw [if_neg (by intro e; exact h e.1)]
theorem feL_none (b : List Nat) : Z.feL b 0 = [] := by unfold Z.feL; rw [if_neg (by intro e; exact e.2 rfl)]
theorem feL_some {b : List Nat} {N : Nat} (h0 : 0 < N) (h : Z.feE b (N : Int) = 0) : Z.feL b (N : Int) = Z.vals (Z.fl N b) := by unfold Z.feL; rw [if_pos ⟨h, by omega⟩, Int.toNat_natCast]
theorem feL_few (b : List Nat) (n : Int) : (Z.feL b n).length ≤ 4096 := by
  by_cases h : Z.feE b n = 0 ∧ n ≠ 0
  · obtain ⟨h1, h2⟩ := h
    have h3 : ¬ (n < 0 ∨ 4096 < n) := fun h3 => by rw [feE_many h3] at h1; cases h1
    obtain ⟨N, rfl⟩ := Int.eq_ofNat_of_zero_le (show 0 ≤ n by omega)
    rw [feL_some (by omega) h1, vals_length, fl_length (by omega)]
    omega
  · unfold Z.feL; rw [if_neg h]; simp
theorem vals_nms : ∀ {l : List Z.V}, (∀ x ∈ l, x.k = 1) → (∀ x ∈ l, Z.may x = true) → Z.vals (Z.nms l) = l
  | [], _, _ => rfl
  | ⟨k, i, s⟩ :: l, h1, h2 => by
    have e1 : k = 1 := h1 _ (List.mem_cons.2 (.inl rfl))
    subst e1
    have e2 := h2 ⟨1, i, s⟩ (List.mem_cons.2 (.inl rfl))
    rw [may_int, empty_of] at e2
    have e3 : s = ⟨#[]⟩ := by simpa using e2
    subst e3
    have ih := vals_nms (l := l) (fun x hx => h1 x (by simp [hx])) (fun x hx => h2 x (by simp [hx]))
    show (⟨1, i, ⟨#[]⟩⟩ : Z.V) :: Z.vals (Z.nms l) = _
    rw [ih]
/-- What was laid down is read. -/
theorem fe_back {l : List Z.V} (hI : ∀ x ∈ l, Z.I64 x.i) (h : Z.chk l 1 = 0) : Z.feE (Z.decb l) (l.length : Int) = 0 ∧ Z.feL (Z.decb l) (l.length : Int) = l := by
  obtain ⟨_, hn, h1, h2⟩ := chk_zero h
  rw [decb_ok h]
  cases l with
  | nil => exact ⟨rfl, rfl⟩
  | cons x t =>
    obtain ⟨g1, g2⟩ := f_back hI
    rw [List.length_cons] at hn ⊢
    have e1 : Z.feE (Z.deb (x :: t)) ((t.length + 1 : Nat) : Int) = 0 := by rw [feE_some (by omega) hn, fN_of g1]; rfl
    refine ⟨e1, ?_⟩
    rw [feL_some (by omega) e1, g2, vals_nms h1 h2]
/-- What is read is laid down as the very bytes. -/
theorem fe_two {b : List Nat} {n : Int} (h256 : ∀ x ∈ b, x < 256) (h : Z.feE b n = 0) : ∃ N : Nat, n = (N : Int) ∧ (Z.feL b n).length = N ∧ Z.chk (Z.feL b n) 1 = 0 ∧ Z.decb (Z.feL b n) = b := by
  have h3 : ¬ (n < 0 ∨ 4096 < n) := fun h3 => by rw [feE_many h3] at h; cases h
  obtain ⟨N, rfl⟩ := Int.eq_ofNat_of_zero_le (show 0 ≤ n by omega)
  rcases Nat.eq_zero_or_pos N with rfl | h0
  · have hb : b = [] := by
      rw [show ((0 : Nat) : Int) = 0 from rfl, feE_none] at h
      by_cases hb : b = []
      · exact hb
      · rw [if_neg hb] at h; cases h
    subst hb
    exact ⟨0, rfl, rfl, by decide, rfl⟩
  · have hN : N ≤ 4096 := by omega
    have hf : Z.FOk N b := fN_zero (by rw [feE_some h0 hN] at h; omega)
    rw [feL_some h0 h]
    have hl : (Z.vals (Z.fl N b)).length = N := by rw [vals_length, fl_length h0]
    have hc := vals_chk (l := Z.fl N b) (by rw [fl_length h0]; exact hN)
    exact ⟨N, rfl, hl, hc, by rw [decb_ok hc]; exact f_two h0 h256 hf⟩
theorem feL_i64 {b : List Nat} {n : Int} (h256 : ∀ x ∈ b, x < 256) : ∀ x ∈ Z.feL b n, Z.I64 x.i := by
  intro x hx
  unfold Z.feL at hx
  split at hx
  · obtain ⟨y, hy, rfl⟩ := List.mem_map.1 hx
    exact fl_i64 h256 y hy
  · simp at hx
theorem decb_lt {l : List Z.V} (hI : ∀ x ∈ l, Z.I64 x.i) : ∀ y ∈ Z.decb l, y < 256 := by
  intro y hy
  unfold Z.decb at hy
  split at hy
  · cases l with
    | nil => simp [Z.deb] at hy
    | cons x t =>
      rw [deb_cons] at hy
      unfold Z.dtl at hy
      rcases List.mem_append.1 hy with hy | hy
      · exact E.leb_lt _ y hy
      · rcases List.mem_append.1 hy with hy | hy
        · exact E.leb_lt _ y hy
        · exact A.bytesOf_lt _ y hy
  · simp at hy
theorem decb_len {l : List Z.V} (hI : ∀ x ∈ l, Z.I64 x.i) : (Z.decb l).length ≤ 40000 := by
  by_cases h : Z.chk l 1 = 0
  · have hn := (chk_zero h).2.1
    rw [decb_ok h]
    cases l with
    | nil => simp [Z.deb]
    | cons x t =>
      have hin : In64 (ints (Z.dst (x :: t))) := In64_ints (dst_lt _)
      have hw := wid_le _ hin
      have hx := hI x (List.mem_cons.2 (.inl rfl))
      have h1 := E.leb_ten _ (E.zig_lt x.i hx.1 hx.2)
      have h2 := E.leb_ten (wid (ints (Z.dst (x :: t)))) (by omega)
      have h3 : (ints (Z.dst (x :: t))).length * wid (ints (Z.dst (x :: t))) ≤ 4096 * 64 := Nat.mul_le_mul (by rw [ints_length, dst_length]; omega) hw
      rw [deb_cons]
      unfold Z.dtl
      rw [List.length_append, List.length_append, A.bytesOf_length, bitsAll_length]
      omega
  · rw [decb_bad h]; simp
end Go.Proofs.Ytkcpfgjkplailaa

/- Plain facts on words: values that rise, each once. Nothing of the program. -/
import Derived.Test.YtmhfpipeoojacaaBdN
import Derived.Test.YtmhfpipeoojacaaBdF
import Derived.Test.YtmhfpipeoojacaaBdK
namespace Go.Proofs.Ytmhfpipeoojacaa
set_option linter.unusedVariables false
open Go.RowKit

theorem cv_anti (a b : Z.V) : Z.cv b a = -Z.cv a b := (Z.cv_ord a b b).1
theorem cv_lt_lt {a b c : Z.V} (h1 : Z.cv a b < 0) (h2 : Z.cv b c < 0) : Z.cv a c < 0 := by
  have := (Z.cv_ord a b c).2.2
  omega
theorem cv_le_le {a b c : Z.V} (h1 : Z.cv a b ≤ 0) (h2 : Z.cv b c ≤ 0) : Z.cv a c ≤ 0 := by
  have := (Z.cv_ord a b c).2.1
  omega
theorem cv_le_lt {a b c : Z.V} (h1 : Z.cv a b ≤ 0) (h2 : Z.cv b c < 0) : Z.cv a c < 0 := by
  rcases Int.lt_or_le (Z.cv a c) 0 with h | h
  · exact h
  · have h3 : Z.cv c a ≤ 0 := by have := cv_anti a c; omega
    have h4 := cv_le_le h3 h1
    have := cv_anti b c
    omega
theorem cv_lt_le {a b c : Z.V} (h1 : Z.cv a b < 0) (h2 : Z.cv b c ≤ 0) : Z.cv a c < 0 := by
  rcases Int.lt_or_le (Z.cv a c) 0 with h | h
  · exact h
  · have h3 : Z.cv c a ≤ 0 := by have := cv_anti a c; omega
    have h4 := cv_le_le h2 h3
    have := cv_anti a b
    omega
theorem cv_eq_sym {a b : Z.V} (h : Z.cv a b = 0) : Z.cv b a = 0 := by rw [cv_anti, h]; rfl
theorem cv_eq_trans {a b c : Z.V} (h1 : Z.cv a b = 0) (h2 : Z.cv b c = 0) : Z.cv a c = 0 := by
  have h3 := cv_le_le (Int.le_of_eq h1) (Int.le_of_eq h2)
  have h4 := cv_le_le (Int.le_of_eq (cv_eq_sym h2)) (Int.le_of_eq (cv_eq_sym h1))
  have := cv_anti a c
  omega
/-- What is alike stands alike to all others. -/
theorem cv_left {a b : Z.V} (h : Z.cv a b = 0) (c : Z.V) : Z.cv a c = Z.cv b c := by
  rcases Z.cv_range b c with h1 | h1 | h1
  · have h2 : Z.cv a c < 0 := cv_le_lt (Int.le_of_eq h) (by omega)
    rcases Z.cv_range a c with h3 | h3 | h3 <;> omega
  · rw [cv_eq_trans h h1, h1]
  · have h2 : Z.cv c a < 0 := cv_lt_le (b := b) (by have := cv_anti b c; omega) (Int.le_of_eq (cv_eq_sym h))
    have h4 := cv_anti c a
    rcases Z.cv_range a c with h3 | h3 | h3 <;> omega
theorem cv_right {a b : Z.V} (h : Z.cv a b = 0) (c : Z.V) : Z.cv c a = Z.cv c b := by rw [cv_anti a c, cv_anti b c, cv_left h c]
/-- Values that rise. -/
def Z.Rise (ws : List Z.V) : Prop := ws.Pairwise fun a b => Z.cv a b < 0
/-- How many are below a value; is one alike? -/
def Z.blw (ws : List Z.V) (v : Z.V) : Nat := ws.countP fun x => decide (Z.cv x v < 0)
def Z.has (ws : List Z.V) (v : Z.V) : Bool := ws.any fun x => decide (Z.cv x v = 0)
theorem blw_le (ws : List Z.V) (v : Z.V) : Z.blw ws v ≤ ws.length := List.countP_le_length
theorem blw_snoc (ws : List Z.V) (x v : Z.V) : Z.blw (ws ++ [x]) v = Z.blw ws v + (if Z.cv x v < 0 then 1 else 0) := by
  unfold Z.blw
  rw [List.countP_append]
  by_cases h : Z.cv x v < 0 <;> simp [h]
theorem has_iff {ws : List Z.V} {v : Z.V} : Z.has ws v = true ↔ ∃ y ∈ ws, Z.cv y v = 0 := by
  unfold Z.has
  simp
/-- The values that rise are cut by any one: those below it, and the others. -/
theorem rise_cut : ∀ {ws : List Z.V}, Z.Rise ws → ∀ v, (∀ x ∈ ws.take (Z.blw ws v), Z.cv x v < 0) ∧ (∀ x ∈ ws.drop (Z.blw ws v), 0 ≤ Z.cv x v)
  | [], _, v => by simp
  | y :: ws, h, v => by
    obtain ⟨h1, h2⟩ := List.pairwise_cons.1 h
    obtain ⟨i1, i2⟩ := rise_cut h2 v
    by_cases hy : Z.cv y v < 0
    · have e : Z.blw (y :: ws) v = Z.blw ws v + 1 := by unfold Z.blw; rw [List.countP_cons]; simp [hy]
      rw [e, List.take_succ_cons, List.drop_succ_cons]
      refine ⟨fun x hx => ?_, i2⟩
      rcases List.mem_cons.1 hx with rfl | hx
      · exact hy
      · exact i1 x hx
    · have hz : Z.blw ws v = 0 := by
        unfold Z.blw
        rw [List.countP_eq_zero]
        intro x hx
        simp only [decide_eq_true_eq]
        intro hxv
        exact hy (cv_lt_lt (h1 x hx) hxv)
      have e : Z.blw (y :: ws) v = 0 := by
        have e0 : Z.blw (y :: ws) v = Z.blw ws v := by unfold Z.blw; rw [List.countP_cons]; simp [hy]
        rw [e0, hz]
      rw [e, List.take_zero, List.drop_zero]
      refine ⟨by simp, fun x hx => ?_⟩
      rcases List.mem_cons.1 hx with rfl | hx
      · omega
      · have h3 := i2
        rw [hz, List.drop_zero] at h3
        exact h3 x hx
/-- One is alike just if the first that is not below is. -/
theorem rise_has {ws : List Z.V} (h : Z.Rise ws) (v : Z.V) : Z.has ws v = true ↔ ∃ y, ws[Z.blw ws v]? = some y ∧ Z.cv y v = 0 := by
  obtain ⟨h1, h2⟩ := rise_cut h v
  rw [has_iff]
  constructor
  · rintro ⟨y, hy, hv⟩
    have hd : y ∈ ws.drop (Z.blw ws v) := by
      rw [← List.take_append_drop (Z.blw ws v) ws] at hy
      rcases List.mem_append.1 hy with hy | hy
      · have := h1 y hy; omega
      · exact hy
    have hr : Z.Rise (ws.drop (Z.blw ws v)) := List.Pairwise.sublist (List.drop_sublist _ _) h
    cases hw : ws.drop (Z.blw ws v) with
    | nil => rw [hw] at hd; simp at hd
    | cons z t =>
      have hz : ws[Z.blw ws v]? = some z := by
        have := congrArg (fun l => l[0]?) hw
        simpa [List.getElem?_drop] using this
      refine ⟨z, hz, ?_⟩
      rw [hw] at hd hr
      have hz2 : 0 ≤ Z.cv z v := h2 z (by rw [hw]; simp)
      rcases List.mem_cons.1 hd with rfl | hd
      · exact hv
      · have h3 := (List.pairwise_cons.1 hr).1 y hd
        have h4 := cv_lt_le h3 (Int.le_of_eq hv)
        omega
  · rintro ⟨y, hy, hv⟩
    exact ⟨y, List.mem_of_getElem? hy, hv⟩
/-- One value more among the words. -/
def Z.ins (ws : List Z.V) (x : Z.V) : List Z.V := if Z.has ws x = true then ws else ws.take (Z.blw ws x) ++ x :: ws.drop (Z.blw ws x)
theorem ins_has {ws : List Z.V} {x : Z.V} (h : Z.has ws x = true) : Z.ins ws x = ws := by unfold Z.ins; rw [if_pos h]
theorem ins_new {ws : List Z.V} {x : Z.V} (h : Z.has ws x = false) : Z.ins ws x = ws.take (Z.blw ws x) ++ x :: ws.drop (Z.blw ws x) := by
  unfold Z.ins; rw [if_neg (by rw [h]; decide)]
theorem rise_ins {ws : List Z.V} (h : Z.Rise ws) (x : Z.V) : Z.Rise (Z.ins ws x) := by
  cases hx : Z.has ws x with
  | true => rw [ins_has hx]; exact h
  | false =>
    rw [ins_new hx]
    obtain ⟨h1, h2⟩ := rise_cut h x
    have h0 : ∀ y ∈ ws, Z.cv y x ≠ 0 := fun y hy e => by
      rw [has_iff.2 ⟨y, hy, e⟩] at hx
      exact absurd hx (by decide)
    have hw := h
    unfold Z.Rise at hw ⊢
    rw [← List.take_append_drop (Z.blw ws x) ws, List.pairwise_append] at hw
    obtain ⟨a1, a2, a3⟩ := hw
    rw [List.pairwise_append, List.pairwise_cons]
    refine ⟨a1, ⟨fun y hy => ?_, a2⟩, fun y hy z hz => ?_⟩
    · have h3 := h2 y hy
      have h4 := h0 y (List.mem_of_mem_drop hy)
      have := cv_anti x y
      omega
    · rcases List.mem_cons.1 hz with rfl | hz
      · exact h1 y hy
      · exact a3 y hy z hz
theorem mem_ins {ws : List Z.V} {x y : Z.V} : y ∈ Z.ins ws x → y ∈ ws ∨ (y = x ∧ Z.has ws x = false) := by
  cases hx : Z.has ws x with
  | true => rw [ins_has hx]; exact .inl
  | false =>
    rw [ins_new hx]
    intro hy
    rcases List.mem_append.1 hy with hy | hy
    · exact .inl (List.mem_of_mem_take hy)
    · rcases List.mem_cons.1 hy with rfl | hy
      · exact .inr ⟨rfl, rfl⟩
      · exact .inl (List.mem_of_mem_drop hy)
theorem old_ins {ws : List Z.V} {x y : Z.V} (hy : y ∈ ws) : y ∈ Z.ins ws x := by
  cases hx : Z.has ws x with
  | true => rw [ins_has hx]; exact hy
  | false =>
    rw [ins_new hx]
    rw [← List.take_append_drop (Z.blw ws x) ws] at hy
    rcases List.mem_append.1 hy with hy | hy
    · exact List.mem_append.2 (.inl hy)
    · exact List.mem_append.2 (.inr (List.mem_cons_of_mem _ hy))
theorem has_ins (ws : List Z.V) (x : Z.V) : ∃ y ∈ Z.ins ws x, Z.cv y x = 0 := by
  cases hx : Z.has ws x with
  | true => rw [ins_has hx]; exact has_iff.1 hx
  | false =>
    rw [ins_new hx]
    exact ⟨x, List.mem_append.2 (.inr (by simp)), Z.cv_refl x⟩
/-- A column's words. -/
def Z.wds (l : List Z.V) : List Z.V := l.foldl Z.ins []
theorem wds_snoc (l : List Z.V) (x : Z.V) : Z.wds (l ++ [x]) = Z.ins (Z.wds l) x := by simp [Z.wds]
/-- What makes values a column's words: they rise, each value is alike with one, and each is the first one of the column that is alike with it. -/
structure Z.Words (l ws : List Z.V) : Prop where
  rise : Z.Rise ws
  all : ∀ x ∈ l, ∃ y ∈ ws, Z.cv y x = 0
  first : ∀ y ∈ ws, l.find? (fun x => decide (Z.cv x y = 0)) = some y
theorem words_nil : Z.Words [] [] := ⟨List.Pairwise.nil, by simp, by simp⟩
theorem words_snoc {l ws : List Z.V} (h : Z.Words l ws) (x : Z.V) : Z.Words (l ++ [x]) (Z.ins ws x) := by
  refine ⟨rise_ins h.rise x, fun y hy => ?_, fun y hy => ?_⟩
  · rcases List.mem_append.1 hy with hy | hy
    · obtain ⟨z, hz, hv⟩ := h.all y hy
      exact ⟨z, old_ins hz, hv⟩
    · obtain rfl : y = x := by simpa using hy
      exact has_ins ws y
  · rcases mem_ins hy with hy | ⟨rfl, hx⟩
    · rw [List.find?_append, h.first y hy]; rfl
    · have hn : l.find? (fun z => decide (Z.cv z y = 0)) = none := by
        rw [List.find?_eq_none]
        intro z hz
        simp only [decide_eq_true_eq]
        intro e
        obtain ⟨u, hu, hv⟩ := h.all z hz
        rw [has_iff.2 ⟨u, hu, cv_eq_trans hv e⟩] at hx
        exact absurd hx (by decide)
      rw [List.find?_append, hn]
      simp [Z.cv_refl]
theorem words_rev : ∀ l : List Z.V, Z.Words l.reverse (Z.wds l.reverse)
  | [] => words_nil
  | x :: l => by
    rw [List.reverse_cons, wds_snoc]
    exact words_snoc (words_rev l) x
theorem words_of (l : List Z.V) : Z.Words l (Z.wds l) := by
  have := words_rev l.reverse
  rwa [List.reverse_reverse] at this
theorem words_mem {l ws : List Z.V} (h : Z.Words l ws) {y : Z.V} (hy : y ∈ ws) : y ∈ l := List.mem_of_find?_eq_some (h.first y hy)
/-- Values that rise and have the same members are the same. -/
theorem rise_ext : ∀ {a b : List Z.V}, Z.Rise a → Z.Rise b → (∀ x, x ∈ a ↔ x ∈ b) → a = b
  | [], [], _, _, _ => rfl
  | [], y :: b, _, _, h => absurd ((h y).2 (by simp)) (by simp)
  | x :: a, [], _, _, h => absurd ((h x).1 (by simp)) (by simp)
  | x :: a, y :: b, ha, hb, h => by
    obtain ⟨a1, a2⟩ := List.pairwise_cons.1 ha
    obtain ⟨b1, b2⟩ := List.pairwise_cons.1 hb
    have hxy : x = y := by
      rcases List.mem_cons.1 ((h x).1 (by simp)) with e | hx
      · exact e
      · rcases List.mem_cons.1 ((h y).2 (by simp)) with e | hy
        · exact e.symm
        · have h1 := b1 x hx
          have h2 := a1 y hy
          have := cv_anti x y
          omega
    subst hxy
    congr 1
    refine rise_ext a2 b2 fun z => ⟨fun hz => ?_, fun hz => ?_⟩
    · rcases List.mem_cons.1 ((h z).1 (List.mem_cons_of_mem _ hz)) with e | h1
      · subst e
        have := a1 z hz
        rw [Z.cv_refl] at this
        omega
      · exact h1
    · rcases List.mem_cons.1 ((h z).2 (List.mem_cons_of_mem _ hz)) with e | h1
      · subst e
        have := b1 z hz
        rw [Z.cv_refl] at this
        omega
      · exact h1
theorem words_sub {l ws vs : List Z.V} (h : Z.Words l ws) (k : Z.Words l vs) {y : Z.V} (hy : y ∈ ws) : y ∈ vs := by
  obtain ⟨z, hz, hv⟩ := k.all y (words_mem h hy)
  have e1 := h.first y hy
  have e2 := k.first z hz
  have e3 : (fun x => decide (Z.cv x z = 0)) = fun x => decide (Z.cv x y = 0) := by
    funext x
    rw [cv_right hv x]
  rw [e3, e1] at e2
  rw [Option.some.inj e2]
  exact hz
/-- A column's words are the only ones. -/
theorem words_uniq {l ws vs : List Z.V} (h : Z.Words l ws) (k : Z.Words l vs) : ws = vs := rise_ext h.rise k.rise fun x => ⟨words_sub h k, words_sub k h⟩
/-- Of values that rise two that are alike are the same place. -/
theorem rise_place {ws : List Z.V} (h : Z.Rise ws) {i j : Nat} {x y : Z.V} (hi : ws[i]? = some x) (hj : ws[j]? = some y) (hv : Z.cv x y = 0) : i = j := by
  obtain ⟨hi1, hi2⟩ := List.getElem?_eq_some_iff.1 hi
  obtain ⟨hj1, hj2⟩ := List.getElem?_eq_some_iff.1 hj
  have hp := List.pairwise_iff_getElem.1 h
  rcases Nat.lt_trichotomy i j with h1 | h1 | h1
  · have := hp i j hi1 hj1 h1
    rw [hi2, hj2] at this
    omega
  · exact h1
  · have := hp j i hj1 hi1 h1
    rw [hi2, hj2] at this
    have := cv_anti x y
    omega
theorem rise_lt {ws : List Z.V} (h : Z.Rise ws) {i j : Nat} {x y : Z.V} (hi : ws[i]? = some x) (hj : ws[j]? = some y) : i < j ↔ Z.cv x y < 0 := by
  obtain ⟨hi1, hi2⟩ := List.getElem?_eq_some_iff.1 hi
  obtain ⟨hj1, hj2⟩ := List.getElem?_eq_some_iff.1 hj
  have hp := List.pairwise_iff_getElem.1 h
  constructor
  · intro h1
    have := hp i j hi1 hj1 h1
    rwa [hi2, hj2] at this
  · intro h1
    rcases Nat.lt_trichotomy i j with h2 | h2 | h2
    · exact h2
    · subst h2
      rw [hi] at hj
      rw [Option.some.inj hj, Z.cv_refl] at h1
      omega
    · have := hp j i hj1 hi1 h2
      rw [hi2, hj2] at this
      have := cv_anti x y
      omega
/-- Words of values that rise are these. -/
theorem words_self {ws : List Z.V} (h : Z.Rise ws) : Z.Words ws ws := by
  refine ⟨h, fun x hx => ⟨x, hx, Z.cv_refl x⟩, fun y hy => ?_⟩
  cases hf : ws.find? (fun x => decide (Z.cv x y = 0)) with
  | none =>
    rw [List.find?_eq_none] at hf
    exact absurd (by simp [Z.cv_refl]) (hf y hy)
  | some z =>
    have hz := List.mem_of_find?_eq_some hf
    have hv : Z.cv z y = 0 := by simpa using List.find?_some hf
    obtain ⟨i, hi⟩ := List.getElem?_of_mem hz
    obtain ⟨j, hj⟩ := List.getElem?_of_mem hy
    obtain rfl := rise_place h hi hj hv
    rw [hi] at hj
    rw [Option.some.inj hj]
theorem wds_self {ws : List Z.V} (h : Z.Rise ws) : Z.wds ws = ws := words_uniq (words_of ws) (words_self h)
theorem wds_rise (l : List Z.V) : Z.Rise (Z.wds l) := (words_of l).rise
theorem wds_len (l : List Z.V) : (Z.wds l).length ≤ l.length := by
  have key : ∀ l : List Z.V, (Z.wds l.reverse).length ≤ l.length := by
    intro l
    induction l with
    | nil => exact Nat.le_refl _
    | cons x l ih =>
      rw [List.reverse_cons, wds_snoc, List.length_cons]
      cases hx : Z.has (Z.wds l.reverse) x with
      | true => rw [ins_has hx]; omega
      | false =>
        rw [ins_new hx, List.length_append, List.length_cons, List.length_take, List.length_drop]
        have := blw_le (Z.wds l.reverse) x
        omega
  have := key l.reverse
  rwa [List.reverse_reverse, List.length_reverse] at this
end Go.Proofs.Ytmhfpipeoojacaa
/- val.Compare: two blocks more, and nothing else; as an order for a sort of rows of values. Conditions: none. -/
namespace Go.Proofs.Ytmhfpipeoojacaa
open Go.RowKit Go.Sort
theorem vcompare_two (ak ai : Int) (az : ByteArray) (bk bi : Int) (bz : ByteArray) (w : World) :
    Calls Try.prog 23 #[.agg #[.int .i64 ak, .int .i64 ai, .string az], .agg #[.int .i64 bk, .int .i64 bi, .string bz]] w fun e w' => e = .returned (.int .i64 (Z.cv ⟨ak, ai, az⟩ ⟨bk, bi, bz⟩)) ∧ ∃ a b, w' = (w.alloc a).alloc b := by
  by_cases hk : ak = bk
  · subst hk
    have h0 := ci_self ak
    by_cases k1 : ak = 1
    · subst k1
      go_enter Try.func23, Try.ntmps23
      go_wp2_with fail
      refine (cmpi_any _ _ _).mono ?_
      rintro e w1 ⟨rfl, rfl⟩
      rw [h0]
      clear h0
      go_wp2_with fail
      refine (cmpl_any _ _ _).mono ?_
      rintro e w2 ⟨rfl, rfl⟩
      go_wp2
      go_ret
      exact ⟨by rw [cv_int]; rfl, _, _, rfl⟩
    · by_cases k2 : ak = 2
      · subst k2
        have HA : Hid (IntKind.u64.wrap ai = Z.u ai) := u64_wrap ai
        have HB : Hid (IntKind.u64.wrap bi = Z.u bi) := u64_wrap bi
        have HI := Z.u_in ai
        have HJ := Z.u_in bi
        go_enter Try.func23, Try.ntmps23
        go_wp2_with fail
        refine (cmpi_any _ _ _).mono ?_
        rintro e w1 ⟨rfl, rfl⟩
        rw [h0]
        clear h0
        go_wp2_with fail
        rw [HA.out, HB.out]
        refine (compare_any _ _ _ HI.1 HI.2 HJ.1 HJ.2).mono ?_
        rintro e w2 ⟨rfl, rfl⟩
        go_wp2
        go_ret
        exact ⟨by rw [cv_float]; rfl, _, _, rfl⟩
      · by_cases k3 : ak = 3
        · subst k3
          go_enter Try.func23, Try.ntmps23
          go_wp2_with fail
          refine (cmpi_any _ _ _).mono ?_
          rintro e w1 ⟨rfl, rfl⟩
          rw [h0]
          clear h0
          go_wp2_with fail
          refine (strcmp_any _ _ _).mono ?_
          rintro e w2 ⟨rfl, rfl⟩
          go_wp2
          go_ret
          exact ⟨by rw [cv_text]; rfl, _, _, rfl⟩
        · go_enter Try.func23, Try.ntmps23
          go_wp2_with fail
          refine (cmpi_any _ _ _).mono ?_
          rintro e w1 ⟨rfl, rfl⟩
          rw [h0]
          clear h0
          go_wp2
          go_ret
          exact ⟨by rw [cv_else k1 k2 k3]; rfl, _, _, rfl⟩
  · have h0 := ci_ne hk
    have HV : Hid (Z.cv ⟨ak, ai, az⟩ ⟨bk, bi, bz⟩ = Z.ci ak bk) := cv_kind hk
    go_enter Try.func23, Try.ntmps23
    go_wp2_with fail
    refine (cmpi_any _ _ _).mono ?_
    rintro e w1 ⟨rfl, rfl⟩
    obtain ⟨c, hc⟩ : ∃ c, Z.ci ak bk = c := ⟨_, rfl⟩
    rw [hc] at h0 HV ⊢
    clear hc
    go_wp2
    go_ret
    exact ⟨by rw [HV.out]; rfl, _, _, rfl⟩

/-- The zero value. -/
def Z.o : Z.V := ⟨0, 0, ⟨#[]⟩⟩
/-- A place's cells. -/
def encV (x : Z.V) : List Value := [.int .i64 x.k, .int .i64 x.i, .string x.s]
def encL (l : List Z.V) (i : Nat) : List Value := encV (l.getD i Z.o)
def cfL (l : List Z.V) (i j : Nat) : Int := Z.cv (l.getD i Z.o) (l.getD j Z.o)
theorem cfL_swo (l : List Z.V) : SWO (ltOf (cfL l)) := by
  refine ⟨fun x => decide_eq_false ?_, fun x y z h1 h2 => decide_eq_true (cv_lt_lt (of_decide_eq_true h1) (of_decide_eq_true h2)), fun x y z h1 h2 => decide_eq_false ?_⟩
  · have := cv_anti (l.getD x Z.o) (l.getD x Z.o)
    unfold cfL; omega
  · have h1 := of_decide_eq_false h1
    have h2 := of_decide_eq_false h2
    unfold cfL at *
    have e1 := cv_anti (l.getD x Z.o) (l.getD y Z.o)
    have e2 := cv_anti (l.getD y Z.o) (l.getD z Z.o)
    have e3 := cv_anti (l.getD x Z.o) (l.getD z Z.o)
    have := cv_le_le (a := l.getD z Z.o) (b := l.getD y Z.o) (c := l.getD x Z.o) (by omega) (by omega)
    omega
theorem two_grow (w : World) (a b : Obj) : (w.alloc a).alloc b = grow (w.drewN 0) #[a, b] := by
  rw [alloc_eq_grow, alloc_eq_grow, grow_grow]; rfl
theorem cmp_lays (l : List Z.V) (blk off size : Nat) (w : World) : CmpLays Try.prog 23 #[] (encL l) 3 (cfL l) blk off size w := fun m os dk hs x y => by
  refine (vcompare_two (l.getD x Z.o).k (l.getD x Z.o).i (l.getD x Z.o).s (l.getD y Z.o).k (l.getD y Z.o).i (l.getD y Z.o).s _).mono ?_
  rintro e w' ⟨rfl, a, b, rfl⟩
  exact ⟨rfl, 0, #[a, b], two_grow _ a b⟩
/-- A row as its places tell it. -/
def rd (l : List Z.V) (dk : Array Nat) : List Z.V := dk.toList.map fun i => l.getD i Z.o
theorem rd_length (l : List Z.V) (dk : Array Nat) : (rd l dk).length = dk.size := by simp [rd]
theorem encL_length (l : List Z.V) (i : Nat) : (encL l i).length = 3 := rfl
theorem rd_get (l : List Z.V) (dk : Array Nat) (i : Nat) (h : i < dk.size) : (rd l dk)[i]? = some (l.getD dk[i]! Z.o) := by
  simp [rd, h]
theorem rd_range (l : List Z.V) : rd l (Array.range l.length) = l := by
  apply List.ext_getElem?
  intro i
  by_cases h : i < l.length
  · rw [rd_get _ _ _ (by simpa using h), List.getElem?_eq_getElem h]
    simp [h]
  · rw [List.getElem?_eq_none (by rw [rd_length]; simp; omega), List.getElem?_eq_none (by omega)]
theorem flat_cells (l : List Z.V) (dk : Array Nat) : (flatK (encL l) 3 dk).toList = cellsV (rd l dk) := by
  apply List.ext_getElem?
  intro t
  by_cases h : t < dk.size * 3
  · have hx := rd_get l dk (t / 3) (by omega)
    obtain ⟨g0, g1, g2⟩ := cellsV_get _ _ _ hx
    have e : (flatK (encL l) 3 dk).toList[t]? = some (flatK (encL l) 3 dk)[t]! := by
      rw [Array.getElem?_toList, Array.getElem?_eq_getElem (by simpa using h), getElem!_pos _ t (by simpa using h)]
    rw [e, get_flatK _ _ _ _ h]
    have hr : t = t / 3 * 3 ∨ t = t / 3 * 3 + 1 ∨ t = t / 3 * 3 + 2 := by omega
    have c : ∀ q, t / 3 = q → (cellsV (rd l dk))[q * 3]? = some (.int .i64 (l.getD dk[q]! Z.o).k) ∧ (cellsV (rd l dk))[q * 3 + 1]? = some (.int .i64 (l.getD dk[q]! Z.o).i) ∧ (cellsV (rd l dk))[q * 3 + 2]? = some (.string (l.getD dk[q]! Z.o).s) := fun q hq => by subst hq; exact ⟨g0, g1, g2⟩
    obtain ⟨q, hq⟩ : ∃ q, t / 3 = q := ⟨_, rfl⟩
    obtain ⟨c0, c1, c2⟩ := c q hq
    rw [hq] at hr ⊢
    rcases hr with hr | hr | hr
    · rw [hr, c0, show q * 3 % 3 = 0 by omega]; rfl
    · rw [hr, c1, show (q * 3 + 1) % 3 = 1 by omega]; rfl
    · rw [hr, c2, show (q * 3 + 2) % 3 = 2 by omega]; rfl
  · rw [List.getElem?_eq_none (by simp; omega), List.getElem?_eq_none (by rw [cellsV_length, rd_length]; omega)]
/-- A row of one's own, as a sort asks it. -/
theorem row_of_own {w : World} {B g cap : Nat} {l : List Z.V} (h : OwnV w B (.slice (some ⟨g, 0, none⟩) l.length cap) l) : RowK (encL l) 3 w g 0 (Array.range l.length) := by
  have h0 := h
  rcases h.2 with ⟨h1, h2⟩ | ⟨g', cap', cur, hv, hg, hh, hc, hm, hsz, ht⟩
  · cases h1
  · injection hv with e1 e2 e3
    injection Option.some.inj e1 with e4 e5 e6
    subst e4
    refine ⟨encL_length l, fun x v hv => ?_, fun j hj => ?_, lt_of_block hh⟩
    · simp [encL, encV] at hv
      rcases hv with rfl | rfl | rfl <;> rfl
    · have hj' : j < l.length * 3 := by simpa using hj
      have hlen : l.length * 3 ≤ cur.size := by rw [hsz]; omega
      refine ⟨?_, by simp [World.frozen?, hh]⟩
      have e : cur.toList[j]? = (cellsV l)[j]? := by
        rw [← ht, List.getElem?_take_of_lt hj']
      have e2 : (flatK (encL l) 3 (Array.range l.length)).toList[j]? = (cellsV l)[j]? := by rw [flat_cells, rd_range]
      have e3 : (flatK (encL l) 3 (Array.range l.length)).toList[j]? = some (flatK (encL l) 3 (Array.range l.length))[j]! := by
        rw [Array.getElem?_toList, Array.getElem?_eq_getElem hj, getElem!_pos _ j hj]
      simp only [World.cell?, hh, Nat.zero_add, Option.isSome_none, Bool.false_eq_true, if_false, id]
      rw [← Array.getElem?_toList, e, ← e2, e3]
/-- Behind the sort: the same slice owns the row as it lies now. -/
theorem own_sorted {w w2 : World} {B g cap : Nat} {l l0 : List Z.V} {dk : Array Nat} (h : OwnV w B (.slice (some ⟨g, 0, none⟩) l0.length cap) l0) (hs : dk.size = l0.length) (hw : SWK (encL l) 3 w g 0 dk w2) :
    OwnV w2 B (.slice (some ⟨g, 0, none⟩) l0.length cap) (rd l dk) ∧ Kept (fun b => b = g) w w2 := by
  obtain ⟨m, os, rfl⟩ := hw
  rcases h.2 with ⟨h1, h2⟩ | ⟨g', cap', cur, hv, hg, hh, hc, hm, hsz, ht⟩
  · cases h1
  · injection hv with e1 e2 e3
    injection Option.some.inj e1 with e4 e5 e6
    subst e4; subst e3
    have hlt : g < w.heap.size := lt_of_block hh
    have hF : (flatK (encL l) 3 dk).size = l0.length * 3 := by simp [hs]
    have hlen : l0.length * 3 ≤ cur.size := by rw [hsz]; omega
    have hblk : (sortWorldK (encL l) 3 w g 0 m dk os).heap[g]? = some (.cells (putCells id 0 (flatK (encL l) 3 dk) cur) 24 (0, 0)) := by
      unfold sortWorldK putRowK
      have : (grow (putRow id (Sort.ahead w m) g 0 (flatK (encL l) 3 dk)) os).heap[g]? = (putRow id (Sort.ahead w m) g 0 (flatK (encL l) 3 dk)).heap[g]? := by
        simp only [grow]; rw [Array.getElem?_append_left (by simpa using hlt)]
      rw [this]
      simp [putRow, mapBlock, Sort.ahead, Array.getElem?_modify, hh, onCells]
    refine ⟨⟨by rw [cellsV_length], .inr ⟨g, cap, _, by rw [rd_length, hs], hg, hblk, by rw [rd_length, hs]; exact hc, hm, by simp [putCells, hsz], ?_⟩⟩, rfl, rfl, rfl, ?_, fun b hb hne => ?_⟩
    · rw [rd_length, hs, ← flat_cells]
      apply List.ext_getElem?
      intro j
      by_cases hj : j < l0.length * 3
      · rw [List.getElem?_take_of_lt hj, Array.getElem?_toList, Array.getElem?_toList]
        have hj2 : j < (flatK (encL l) 3 dk).size := by omega
        simp only [putCells, Array.getElem?_mapIdx]
        rw [Array.getElem?_eq_getElem (show j < cur.size by omega), Option.map_some, if_pos ⟨by omega, by omega⟩, Array.getElem?_eq_getElem hj2, Nat.sub_zero, getElem!_pos _ j hj2]; rfl
      · rw [List.getElem?_take_eq_none (by omega), List.getElem?_eq_none (by simp; omega)]
    · unfold sortWorldK putRowK; rw [size_grow, size_putRow]; show w.heap.size ≤ w.heap.size + _; omega
    · unfold sortWorldK putRowK
      have : (grow (putRow id (Sort.ahead w m) g 0 (flatK (encL l) 3 dk)) os).heap[b]? = (putRow id (Sort.ahead w m) g 0 (flatK (encL l) 3 dk)).heap[b]? := by
        simp only [grow]; rw [Array.getElem?_append_left (by simpa using hb)]
      rw [this]
      simp [putRow, mapBlock, Sort.ahead, Array.getElem?_modify, Ne.symm hne]
end Go.Proofs.Ytmhfpipeoojacaa

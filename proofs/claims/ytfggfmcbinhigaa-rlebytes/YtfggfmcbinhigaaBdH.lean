/- Plain facts on runs: a column's values in runs, spread, and runs read. Nothing of the program. -/
import Derived.Test.YtfggfmcbinhigaaBdG
import Derived.Test.YtfggfmcbinhigaaBdD
namespace Go.Proofs.Ytfggfmcbinhigaa
set_option linter.unusedVariables false
open Go.RowKit

/-- A run: how often, and which value. -/
structure Z.R where
  n : Int
  v : Z.V
theorem same_ne {x y : Z.V} (h : x ≠ y) : Z.same x y = false := by
  cases hs : Z.same x y with
  | false => rfl
  | true => exact absurd ((Z.same_iff x y).1 hs) h
/-- One value more, to runs with the last one ahead. -/
def Z.addR : List Z.R → Z.V → List Z.R
  | [], x => [⟨1, x⟩]
  | r :: t, x => if Z.same r.v x = true then ⟨r.n + 1, r.v⟩ :: t else ⟨1, x⟩ :: r :: t
/-- A column's runs, the last one ahead; a column's runs. -/
def Z.rr (l : List Z.V) : List Z.R := l.foldl Z.addR []
def Z.runs (l : List Z.V) : List Z.R := (Z.rr l).reverse
theorem rr_snoc (l : List Z.V) (x : Z.V) : Z.rr (l ++ [x]) = Z.addR (Z.rr l) x := by simp [Z.rr]
/-- The values of runs. -/
def Z.sp (rs : List Z.R) : List Z.V := rs.flatMap fun r => List.replicate r.n.toNat r.v
theorem sp_cons (r : Z.R) (rs : List Z.R) : Z.sp (r :: rs) = List.replicate r.n.toNat r.v ++ Z.sp rs := rfl
theorem sp_append (a b : List Z.R) : Z.sp (a ++ b) = Z.sp a ++ Z.sp b := by simp [Z.sp]
/-- Runs that are a column's, behind a value. -/
def Z.Neat : Option Z.V → List Z.R → Prop
  | _, [] => True
  | p, r :: rs => 1 ≤ r.n ∧ p ≠ some r.v ∧ Z.Neat (some r.v) rs
/-- The value of the last run, where the last one is ahead. -/
def Z.top : List Z.R → Option Z.V
  | [] => none
  | r :: _ => some r.v
theorem top_append {a : List Z.R} (h : a ≠ []) (b : List Z.R) : Z.top (a ++ b) = Z.top a := by
  cases a with
  | nil => exact absurd rfl h
  | cons r a => rfl
theorem addR_same (r : Z.R) (t : List Z.R) : Z.addR (r :: t) r.v = ⟨r.n + 1, r.v⟩ :: t := by
  show (if Z.same r.v r.v = true then _ else _) = _
  rw [if_pos (Z.same_self _)]
theorem addR_new {t : List Z.R} {x : Z.V} (h : Z.top t ≠ some x) : Z.addR t x = ⟨1, x⟩ :: t := by
  cases t with
  | nil => rfl
  | cons r t =>
    show (if Z.same r.v x = true then _ else _) = _
    rw [if_neg]
    rw [same_ne (fun e => h (by rw [← e]; rfl))]
    simp
theorem fold_rep (t : List Z.R) (x : Z.V) : ∀ (k : Nat) (n : Int), (List.replicate k x).foldl Z.addR (⟨n, x⟩ :: t) = ⟨n + (k : Int), x⟩ :: t
  | 0, n => by simp
  | k + 1, n => by
    rw [List.replicate_succ, List.foldl_cons, addR_same ⟨n, x⟩ t, fold_rep t x k (n + 1)]
    congr 2
    omega
theorem fold_run {t : List Z.R} {r : Z.R} (h : Z.top t ≠ some r.v) (hn : 1 ≤ r.n) : (List.replicate r.n.toNat r.v).foldl Z.addR t = r :: t := by
  obtain ⟨n, x⟩ := r
  obtain ⟨k, rfl⟩ : ∃ k : Nat, n = (k : Int) + 1 := ⟨(n - 1).toNat, by simp at hn; omega⟩
  have e : ((k : Int) + 1).toNat = k + 1 := by omega
  show (List.replicate ((k : Int) + 1).toNat x).foldl Z.addR t = _
  rw [e, List.replicate_succ, List.foldl_cons, addR_new h, fold_rep]
  congr 2
  omega
theorem fold_sp : ∀ (rs t : List Z.R), Z.Neat (Z.top t) rs → (Z.sp rs).foldl Z.addR t = rs.reverse ++ t
  | [], t, _ => rfl
  | r :: rs, t, h => by
    rw [sp_cons, List.foldl_append, fold_run h.2.1 h.1, fold_sp rs (r :: t) h.2.2]
    simp
/-- Runs of a column are the only ones of it. -/
theorem runs_sp {rs : List Z.R} (h : Z.Neat none rs) : Z.runs (Z.sp rs) = rs := by
  unfold Z.runs Z.rr
  rw [fold_sp rs [] h]
  simp
theorem neat_snoc : ∀ (rs : List Z.R) (p : Option Z.V) (r : Z.R), Z.Neat p (rs ++ [r]) ↔ Z.Neat p rs ∧ 1 ≤ r.n ∧ (if rs = [] then p else Z.top rs.reverse) ≠ some r.v
  | [], p, r => by simp [Z.Neat]
  | s :: rs, p, r => by
    rw [List.cons_append]
    simp only [Z.Neat]
    rw [neat_snoc rs (some s.v) r, if_neg (List.cons_ne_nil _ _)]
    have e : (if rs = [] then some s.v else Z.top rs.reverse) = Z.top (s :: rs).reverse := by
      cases rs with
      | nil => rfl
      | cons q rs =>
        rw [if_neg (List.cons_ne_nil _ _), List.reverse_cons (a := s), top_append (by simp)]
    rw [e]
    constructor
    · rintro ⟨h1, h2, h3, h4, h5⟩; exact ⟨⟨h1, h2, h3⟩, h4, h5⟩
    · rintro ⟨⟨h1, h2, h3⟩, h4, h5⟩; exact ⟨h1, h2, h3, h4, h5⟩
theorem neat_rr (t : List Z.R) (x : Z.V) (h : Z.Neat none t.reverse) : Z.Neat none (Z.addR t x).reverse ∧ Z.sp (Z.addR t x).reverse = Z.sp t.reverse ++ [x] := by
  cases t with
  | nil => exact ⟨⟨Int.le_refl 1, by simp, trivial⟩, rfl⟩
  | cons r t =>
    rw [List.reverse_cons, neat_snoc] at h
    by_cases hs : r.v = x
    · subst hs
      rw [addR_same, List.reverse_cons, neat_snoc, List.reverse_cons, sp_append, sp_append]
      refine ⟨⟨h.1, by show 1 ≤ r.n + 1; have := h.2.1; omega, h.2.2⟩, ?_⟩
      have e : (r.n + 1).toNat = r.n.toNat + 1 := by have := h.2.1; omega
      simp [Z.sp, e, List.replicate_succ']
    · rw [addR_new (by intro e; exact hs (by simpa [Z.top] using e)), List.reverse_cons, neat_snoc, sp_append]
      refine ⟨⟨?_, Int.le_refl 1, ?_⟩, by simp [Z.sp]⟩
      · rw [List.reverse_cons, neat_snoc]; exact h
      · rw [if_neg (by simp), List.reverse_reverse]
        intro e
        exact hs (by simpa [Z.top] using e)
theorem neat_rev : ∀ l : List Z.V, Z.Neat none (Z.runs l.reverse) ∧ Z.sp (Z.runs l.reverse) = l.reverse
  | [] => ⟨trivial, rfl⟩
  | x :: l => by
    have ih := neat_rev l
    unfold Z.runs at ih ⊢
    rw [List.reverse_cons, rr_snoc]
    obtain ⟨h1, h2⟩ := neat_rr (Z.rr l.reverse) x ih.1
    exact ⟨h1, by rw [h2, ih.2]⟩
/-- A column's runs are neat, and their values are the column's. -/
theorem neat_runs (l : List Z.V) : Z.Neat none (Z.runs l) := by
  have := (neat_rev l.reverse).1
  rwa [List.reverse_reverse] at this
theorem sp_runs (l : List Z.V) : Z.sp (Z.runs l) = l := by
  have := (neat_rev l.reverse).2
  rwa [List.reverse_reverse] at this
end Go.Proofs.Ytfggfmcbinhigaa
/- Plain facts on runs as bytes: laid down, and read. Nothing of the program. -/
namespace Go.Proofs.Ytfggfmcbinhigaa
set_option linter.unusedVariables false
open Go.RowKit

/-- Runs' bytes; how many values they are. -/
def Z.rb (rs : List Z.R) : List Nat := rs.flatMap fun r => E.leb r.n.toNat ++ Z.lb r.v
theorem rb_cons (r : Z.R) (rs : List Z.R) : Z.rb (r :: rs) = E.leb r.n.toNat ++ (Z.lb r.v ++ Z.rb rs) := by simp [Z.rb]
theorem rb_snoc (rs : List Z.R) (r : Z.R) : Z.rb (rs ++ [r]) = (Z.rb rs ++ E.leb r.n.toNat) ++ Z.lb r.v := by simp [Z.rb]
/-- The value behind a run's number; what stands behind the run. -/
def Z.rnV (kind : Int) (b : List Nat) : Z.V := Z.oV (b.drop (E.gK b)) kind
def Z.rnR (kind : Int) (b : List Nat) : List Nat := Z.oR (b.drop (E.gK b)) kind
/-- What is wrong with the run that bytes begin with, of at most so many values. -/
def Z.r1 (kind : Int) (n : Nat) (b : List Nat) : Nat := if E.gE b ≠ 0 then E.gE b else if E.gN b = 0 ∨ n < E.gN b then 4 else Z.oE (b.drop (E.gK b)) kind
/-- Is it that value? -/
def Z.isV : Option Z.V → Z.V → Bool
  | none, _ => false
  | some y, x => Z.same y x
theorem isV_iff (p : Option Z.V) (x : Z.V) : Z.isV p x = true ↔ p = some x := by
  cases p with
  | none => simp [Z.isV]
  | some y =>
    show Z.same y x = true ↔ _
    rw [Z.same_iff]
    exact ⟨fun h => by rw [h], fun h => Option.some.inj h⟩
/-- The same, behind a value. -/
def Z.r2 (kind : Int) (n : Nat) (p : Option Z.V) (b : List Nat) : Nat := if Z.r1 kind n b ≠ 0 then Z.r1 kind n b else if Z.isV p (Z.rnV kind b) = true then 4 else 0
/-- Runs read, of so many values. -/
def Z.nX (kind : Int) : Nat → Nat → Option Z.V → List Nat → Nat × List Z.R
  | _, 0, _, b => (if b = [] then 0 else 4, [])
  | 0, _ + 1, _, _ => (0, [])
  | f + 1, n + 1, p, b => if Z.r2 kind (n + 1) p b = 0 then ((Z.nX kind f (n + 1 - E.gN b) (some (Z.rnV kind b)) (Z.rnR kind b)).1, ⟨((E.gN b : Nat) : Int), Z.rnV kind b⟩ :: (Z.nX kind f (n + 1 - E.gN b) (some (Z.rnV kind b)) (Z.rnR kind b)).2) else (Z.r2 kind (n + 1) p b, [])
theorem r2_n {kind : Int} {n : Nat} {p : Option Z.V} {b : List Nat} (h : Z.r2 kind n p b = 0) : Z.r1 kind n b = 0 ∧ p ≠ some (Z.rnV kind b) := by
  unfold Z.r2 at h
  split at h
  · contradiction
  · rename_i h1
    refine ⟨by omega, fun e => ?_⟩
    rw [if_pos ((isV_iff _ _).2 e)] at h
    exact absurd h (by decide)
theorem r2_of {kind : Int} {n : Nat} {p : Option Z.V} {b : List Nat} (h : Z.r1 kind n b = 0) (h1 : p ≠ some (Z.rnV kind b)) : Z.r2 kind n p b = 0 := by
  unfold Z.r2
  rw [if_neg (by omega), if_neg (fun e => h1 ((isV_iff _ _).1 e))]
theorem r2_bad {kind : Int} {n : Nat} {p : Option Z.V} {b : List Nat} (h : Z.r1 kind n b ≠ 0) : Z.r2 kind n p b = Z.r1 kind n b := by
  unfold Z.r2
  rw [if_pos h]
theorem r2_again {kind : Int} {n : Nat} {p : Option Z.V} {b : List Nat} (h : Z.r1 kind n b = 0) (h1 : p = some (Z.rnV kind b)) : Z.r2 kind n p b = 4 := by
  unfold Z.r2
  rw [if_neg (by omega), if_pos ((isV_iff _ _).2 h1)]
theorem r1_ok {kind : Int} {n : Nat} {b : List Nat} (h : Z.r1 kind n b = 0) : E.gE b = 0 ∧ 1 ≤ E.gN b ∧ E.gN b ≤ n ∧ Z.oE (b.drop (E.gK b)) kind = 0 := by
  unfold Z.r1 at h
  split at h
  · contradiction
  · rename_i h1
    split at h
    · exact absurd h (by decide)
    · rename_i h2
      exact ⟨by omega, by omega, by omega, h⟩
theorem r1_num {kind : Int} {n : Nat} {b : List Nat} (h : E.gE b ≠ 0) : Z.r1 kind n b = E.gE b := by unfold Z.r1; rw [if_pos h]
theorem r1_form {kind : Int} {n : Nat} {b : List Nat} (h : E.gE b = 0) (h1 : E.gN b = 0 ∨ n < E.gN b) : Z.r1 kind n b = 4 := by unfold Z.r1; rw [if_neg (by omega), if_pos h1]
theorem r1_val {kind : Int} {n : Nat} {b : List Nat} (h : E.gE b = 0) (h1 : ¬ (E.gN b = 0 ∨ n < E.gN b)) : Z.r1 kind n b = Z.oE (b.drop (E.gK b)) kind := by unfold Z.r1; rw [if_neg (by omega), if_neg h1]
theorem nX_fuel (kind : Int) : ∀ (f n : Nat) (p : Option Z.V) (b : List Nat), n ≤ f → Z.nX kind f n p b = Z.nX kind n n p b
  | f, 0, p, b, _ => by cases f <;> rfl
  | 0, n + 1, p, b, h => absurd h (by omega)
  | f + 1, n + 1, p, b, h => by
    rw [Z.nX, Z.nX]
    split
    · rename_i h2
      have h3 := (r1_ok (r2_n h2).1).2.1
      have h4 := nX_fuel kind f (n + 1 - E.gN b) (some (Z.rnV kind b)) (Z.rnR kind b) (by omega)
      have h5 := nX_fuel kind n (n + 1 - E.gN b) (some (Z.rnV kind b)) (Z.rnR kind b) (by omega)
      rw [h4, h5]
    · rfl
/-- What is wrong with runs of so many values; the runs. -/
def Z.te (kind : Int) (n : Nat) (p : Option Z.V) (b : List Nat) : Nat := (Z.nX kind n n p b).1
def Z.tl (kind : Int) (n : Nat) (p : Option Z.V) (b : List Nat) : List Z.R := (Z.nX kind n n p b).2
theorem te_nil (kind : Int) (p : Option Z.V) : Z.te kind 0 p [] = 0 := rfl
theorem te_zero {kind : Int} {p : Option Z.V} {b : List Nat} (h : b ≠ []) : Z.te kind 0 p b = 4 := by
  show (if b = [] then 0 else 4, ([] : List Z.R)).1 = 4
  rw [if_neg h]
theorem tl_zero (kind : Int) (p : Option Z.V) (b : List Nat) : Z.tl kind 0 p b = [] := rfl
theorem te_step {kind : Int} {n : Nat} {p : Option Z.V} {b : List Nat} (hn : 0 < n) (h : Z.r2 kind n p b = 0) : Z.te kind n p b = Z.te kind (n - E.gN b) (some (Z.rnV kind b)) (Z.rnR kind b) := by
  cases n with
  | zero => omega
  | succ n =>
    have h3 := (r1_ok (r2_n h).1).2.1
    unfold Z.te
    rw [Z.nX, if_pos h, nX_fuel kind n _ _ _ (by omega)]
theorem tl_step {kind : Int} {n : Nat} {p : Option Z.V} {b : List Nat} (hn : 0 < n) (h : Z.r2 kind n p b = 0) : Z.tl kind n p b = ⟨((E.gN b : Nat) : Int), Z.rnV kind b⟩ :: Z.tl kind (n - E.gN b) (some (Z.rnV kind b)) (Z.rnR kind b) := by
  cases n with
  | zero => omega
  | succ n =>
    have h3 := (r1_ok (r2_n h).1).2.1
    unfold Z.tl
    rw [Z.nX, if_pos h, nX_fuel kind n _ _ _ (by omega)]
theorem te_bad {kind : Int} {n : Nat} {p : Option Z.V} {b : List Nat} (hn : 0 < n) (h : Z.r2 kind n p b ≠ 0) : Z.te kind n p b = Z.r2 kind n p b := by
  cases n with
  | zero => omega
  | succ n =>
    unfold Z.te
    rw [Z.nX, if_neg h]
theorem sp_length_cons (r : Z.R) (rs : List Z.R) : (Z.sp (r :: rs)).length = r.n.toNat + (Z.sp rs).length := by rw [sp_cons, List.length_append, List.length_replicate]
/-- What was laid down is read. -/
theorem te_back (kind : Int) : ∀ (rs : List Z.R) (p : Option Z.V), Z.Neat p rs → (∀ r ∈ rs, Z.Fit kind r.v) → (Z.sp rs).length ≤ 4096 → Z.te kind (Z.sp rs).length p (Z.rb rs) = 0 ∧ Z.tl kind (Z.sp rs).length p (Z.rb rs) = rs
  | [], p, _, _, _ => ⟨rfl, rfl⟩
  | ⟨m, ⟨k, i, s⟩⟩ :: rs, p, hn, hf, hl => by
    obtain ⟨hk, hm, hi⟩ := hf _ List.mem_cons_self
    have hk' : k = kind := hk
    subst hk'
    obtain ⟨h1, h2, h3⟩ := hn
    have h1' : (1 : Int) ≤ m := h1
    rw [sp_length_cons] at hl ⊢
    have hl' : m.toNat + (Z.sp rs).length ≤ 4096 := hl
    obtain ⟨g1, g2, g3⟩ := E.g_put m.toNat (by omega) (Z.lb ⟨k, i, s⟩ ++ Z.rb rs)
    obtain ⟨e1, e2, e3⟩ := back_one hi hm (Z.rb rs)
    have hb : Z.rb (⟨m, ⟨k, i, s⟩⟩ :: rs) = E.leb m.toNat ++ (Z.lb ⟨k, i, s⟩ ++ Z.rb rs) := rb_cons _ _
    have hv : Z.rnV k (Z.rb (⟨m, ⟨k, i, s⟩⟩ :: rs)) = ⟨k, i, s⟩ := by unfold Z.rnV; rw [hb, g2, List.drop_left]; exact e2
    have hr : Z.rnR k (Z.rb (⟨m, ⟨k, i, s⟩⟩ :: rs)) = Z.rb rs := by unfold Z.rnR; rw [hb, g2, List.drop_left]; exact e3
    have hgn : E.gN (Z.rb (⟨m, ⟨k, i, s⟩⟩ :: rs)) = m.toNat := by rw [hb]; exact g3
    have hr1 : Z.r1 k (m.toNat + (Z.sp rs).length) (Z.rb (⟨m, ⟨k, i, s⟩⟩ :: rs)) = 0 := by
      rw [r1_val (by rw [hb]; exact g1) (by rw [hgn]; omega), hb, g2, List.drop_left]
      exact e1
    have hr2 := r2_of (p := p) hr1 (by rw [hv]; exact h2)
    obtain ⟨f1, f2⟩ := te_back k rs (some ⟨k, i, s⟩) h3 (fun x hx => hf x (List.mem_cons_of_mem _ hx)) (by omega)
    show Z.te k (m.toNat + (Z.sp rs).length) p _ = 0 ∧ Z.tl k (m.toNat + (Z.sp rs).length) p _ = _
    rw [te_step (by omega) hr2, tl_step (by omega) hr2, hgn, hv, hr, show m.toNat + (Z.sp rs).length - m.toNat = (Z.sp rs).length by omega]
    refine ⟨f1, ?_⟩
    rw [f2, show ((m.toNat : Nat) : Int) = m by omega]
/-- What is read is laid down as the very bytes. -/
theorem te_two {kind : Int} (hk : kind = 1 ∨ kind = 2 ∨ kind = 3) : ∀ (f n : Nat), n ≤ f → ∀ (p : Option Z.V) (b : List Nat), (∀ x ∈ b, x < 256) → Z.te kind n p b = 0 →
    Z.Neat p (Z.tl kind n p b) ∧ (∀ r ∈ Z.tl kind n p b, r.v.k = kind ∧ Z.may r.v = true) ∧ (Z.sp (Z.tl kind n p b)).length = n ∧ Z.rb (Z.tl kind n p b) = b
  | f, 0, _, p, b, _, h => by
    by_cases hb : b = []
    · subst hb
      exact ⟨trivial, by simp [tl_zero], rfl, rfl⟩
    · rw [te_zero hb] at h
      exact absurd h (by decide)
  | 0, n + 1, hf, _, _, _, _ => absurd hf (by omega)
  | f + 1, n + 1, hf, p, b, h256, h => by
    by_cases h2 : Z.r2 kind (n + 1) p b = 0
    · obtain ⟨h1, hp⟩ := r2_n h2
      obtain ⟨g1, g2, g3, g4⟩ := r1_ok h1
      rw [te_step (by omega) h2] at h
      have hd : ∀ x ∈ b.drop (E.gK b), x < 256 := fun x hx => h256 x (List.mem_of_mem_drop hx)
      obtain ⟨a1, a2⟩ := back_two hd g4
      obtain ⟨i1, i2, i3, i4⟩ := te_two hk f (n + 1 - E.gN b) (by omega) (some (Z.rnV kind b)) (Z.rnR kind b) (oR_lt hd kind) h
      rw [tl_step (by omega) h2]
      have hgn : (((E.gN b : Nat) : Int)).toNat = E.gN b := by omega
      refine ⟨⟨?_, hp, i1⟩, ?_, ?_, ?_⟩
      · show (1 : Int) ≤ ((E.gN b : Nat) : Int)
        omega
      · intro r hr
        rcases List.mem_cons.1 hr with rfl | hr
        · refine ⟨?_, a1⟩
          show (Z.oV _ kind).k = kind
          unfold Z.oV
          rw [if_pos g4]
          exact oW_k hk
        · exact i2 r hr
      · rw [sp_length_cons, i3]
        show ((E.gN b : Nat) : Int).toNat + _ = _
        omega
      · rw [rb_cons]
        show E.leb ((E.gN b : Nat) : Int).toNat ++ (Z.lb (Z.oV _ kind) ++ Z.rb (Z.tl kind _ _ (Z.rnR kind b))) = b
        rw [hgn, i4, E.g_ones g1 h256]
        show List.take (E.gK b) b ++ (Z.lb (Z.oV _ kind) ++ Z.oR _ kind) = b
        rw [a2, List.take_append_drop]
    · rw [te_bad (by omega) h2] at h
      exact absurd h h2
/-- What ToRuns tells: the error, the runs. -/
def Z.uE (b : List Nat) (n kind : Int) : Int := if Z.kindOk kind = false then 1 else if n < 0 ∨ 4096 < n then 2 else ((Z.te kind n.toNat none b : Nat) : Int)
def Z.uL (b : List Nat) (n kind : Int) : List Z.R := if Z.uE b n kind = 0 then Z.tl kind n.toNat none b else []
theorem uE_kind {b : List Nat} {n kind : Int} (h : Z.kindOk kind = false) : Z.uE b n kind = 1 := by unfold Z.uE; rw [if_pos h]
theorem uE_many {b : List Nat} {n kind : Int} (h : Z.kindOk kind = true) (h1 : n < 0 ∨ 4096 < n) : Z.uE b n kind = 2 := by unfold Z.uE; rw [h, if_neg (by decide), if_pos h1]
theorem uE_is {b : List Nat} {N : Nat} {kind : Int} (h : Z.kindOk kind = true) (hN : N ≤ 4096) : Z.uE b (N : Int) kind = ((Z.te kind N none b : Nat) : Int) := by
  unfold Z.uE
  rw [h, if_neg (by decide), if_neg (by omega), Int.toNat_natCast]
theorem uL_bad {b : List Nat} {n kind : Int} (h : Z.uE b n kind ≠ 0) : Z.uL b n kind = [] := by unfold Z.uL; rw [if_neg h]
theorem uL_is {b : List Nat} {N : Nat} {kind : Int} (h : Z.uE b (N : Int) kind = 0) : Z.uL b (N : Int) kind = Z.tl kind N none b := by unfold Z.uL; rw [if_pos h, Int.toNat_natCast]
theorem kind_is {kind : Int} (h : Z.kindOk kind = true) : kind = 1 ∨ kind = 2 ∨ kind = 3 := by
  unfold Z.kindOk at h
  simp only [Bool.or_eq_true, beq_iff_eq] at h
  rcases h with (h | h) | h
  · exact .inl h
  · exact .inr (.inl h)
  · exact .inr (.inr h)
theorem uE_zero {b : List Nat} {n kind : Int} (h : Z.uE b n kind = 0) : Z.kindOk kind = true ∧ 0 ≤ n ∧ n ≤ 4096 ∧ Z.te kind n.toNat none b = 0 := by
  unfold Z.uE at h
  split at h
  · exact absurd h (by decide)
  · rename_i h1
    split at h
    · exact absurd h (by decide)
    · rename_i h2
      exact ⟨by simpa using h1, by omega, by omega, by omega⟩
/-- Runs that were read: neat, of the kind, as many, and laid down as the very bytes. -/
theorem u_two {b : List Nat} {n kind : Int} (h256 : ∀ x ∈ b, x < 256) (h : Z.uE b n kind = 0) :
    Z.Neat none (Z.uL b n kind) ∧ (∀ r ∈ Z.uL b n kind, r.v.k = kind ∧ Z.may r.v = true) ∧ (Z.sp (Z.uL b n kind)).length = n.toNat ∧ Z.rb (Z.uL b n kind) = b := by
  obtain ⟨h1, h2, h3, h4⟩ := uE_zero h
  have : Z.uL b n kind = Z.tl kind n.toNat none b := by unfold Z.uL; rw [if_pos h]
  rw [this]
  exact te_two (kind_is h1) _ _ (Nat.le_refl _) none b h256 h4
theorem uL_few {b : List Nat} {n kind : Int} (h256 : ∀ x ∈ b, x < 256) : (Z.sp (Z.uL b n kind)).length ≤ 4096 := by
  by_cases h : Z.uE b n kind = 0
  · rw [(u_two h256 h).2.2.1]
    have := (uE_zero h).2.2.1
    omega
  · rw [uL_bad h]
    simp [Z.sp]
/-- What Bytes tells. -/
def Z.rcb (l : List Z.V) (kind : Int) : List Nat := if Z.chk l kind = 0 then Z.rb (Z.runs l) else []
theorem rcb_bad {l : List Z.V} {kind : Int} (h : Z.chk l kind ≠ 0) : Z.rcb l kind = [] := by unfold Z.rcb; rw [if_neg h]
theorem rcb_ok {l : List Z.V} {kind : Int} (h : Z.chk l kind = 0) : Z.rcb l kind = Z.rb (Z.runs l) := by unfold Z.rcb; rw [if_pos h]
theorem mem_rep {r : Z.R} (h : 1 ≤ r.n) : r.v ∈ List.replicate r.n.toNat r.v := by
  rw [List.mem_replicate]
  exact ⟨by omega, rfl⟩
theorem neat_pos : ∀ {rs : List Z.R} {p : Option Z.V}, Z.Neat p rs → ∀ r ∈ rs, 1 ≤ r.n
  | [], _, _, _, h => by simp at h
  | s :: rs, _, ⟨h1, _, h3⟩, r, h => by
    rcases List.mem_cons.1 h with rfl | h
    · exact h1
    · exact neat_pos h3 r h
theorem run_mem {l : List Z.V} {r : Z.R} (h : r ∈ Z.runs l) : r.v ∈ l := by
  have h1 := neat_pos (neat_runs l) r h
  have h2 : r.v ∈ Z.sp (Z.runs l) := List.mem_flatMap.2 ⟨r, h, mem_rep h1⟩
  rwa [sp_runs] at h2
theorem neat_few : ∀ {rs : List Z.R} {p : Option Z.V}, Z.Neat p rs → rs.length ≤ (Z.sp rs).length
  | [], _, _ => Nat.zero_le _
  | s :: rs, _, ⟨h1, _, h3⟩ => by
    have := neat_few h3
    rw [sp_length_cons, List.length_cons]
    omega
theorem runs_few (l : List Z.V) : (Z.runs l).length ≤ l.length := by
  have := neat_few (neat_runs l)
  rwa [sp_runs] at this
theorem run_le : ∀ {rs : List Z.R}, ∀ r ∈ rs, r.n.toNat ≤ (Z.sp rs).length
  | [], _, h => by simp at h
  | s :: rs, r, h => by
    rw [sp_length_cons]
    rcases List.mem_cons.1 h with rfl | h
    · omega
    · have := run_le r h
      omega
theorem run_n_le {l : List Z.V} {r : Z.R} (h : r ∈ Z.runs l) : r.n ≤ (l.length : Int) := by
  have := run_le r h
  rw [sp_runs] at this
  omega
/-- What was laid down as runs is read. -/
theorem u_back {l : List Z.V} {kind : Int} (hI : ∀ x ∈ l, Z.I64 x.i) (h : Z.chk l kind = 0) : Z.uE (Z.rcb l kind) ((l.length : Nat) : Int) kind = 0 ∧ Z.uL (Z.rcb l kind) ((l.length : Nat) : Int) kind = Z.runs l := by
  obtain ⟨h1, h2, h3, h4⟩ := chk_zero h
  have hk : Z.kindOk kind = true := by rcases h1 with rfl | rfl | rfl <;> rfl
  have hb := te_back kind (Z.runs l) none (neat_runs l) (fun r hr => ⟨h3 _ (run_mem hr), h4 _ (run_mem hr), hI _ (run_mem hr)⟩) (by rw [sp_runs]; exact h2)
  rw [sp_runs] at hb
  have e : Z.uE (Z.rcb l kind) ((l.length : Nat) : Int) kind = 0 := by rw [uE_is hk h2, rcb_ok h, hb.1]; rfl
  exact ⟨e, by rw [uL_is e, rcb_ok h, hb.2]⟩
end Go.Proofs.Ytfggfmcbinhigaa

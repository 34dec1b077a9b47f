/- Plain facts on runs of two columns one behind the other. -/
import Derived.Test.YtfggfmcbinhigaaBdV
namespace Go.Proofs.Ytfggfmcbinhigaa
set_option linter.unusedVariables false
open Go.RowKit

theorem top_rev_cons (r : Z.R) (A : List Z.R) (hA : A ≠ []) : Z.top (r :: A).reverse = Z.top A.reverse := by
  rw [List.reverse_cons, top_append (by simpa using hA)]
theorem neat_app : ∀ (A : List Z.R) (p : Option Z.V) (B : List Z.R), Z.Neat p (A ++ B) ↔ Z.Neat p A ∧ Z.Neat (if A = [] then p else Z.top A.reverse) B
  | [], p, B => by simp [Z.Neat]
  | r :: A, p, B => by
    rw [List.cons_append]
    simp only [Z.Neat]
    rw [neat_app A (some r.v) B, if_neg (List.cons_ne_nil _ _)]
    have e : (if A = [] then some r.v else Z.top A.reverse) = Z.top (r :: A).reverse := by
      by_cases hA : A = []
      · subst hA; rfl
      · rw [if_neg hA, top_rev_cons r A hA]
    rw [e]
    constructor
    · rintro ⟨h1, h2, h3, h4⟩; exact ⟨⟨h1, h2, h3⟩, h4⟩
    · rintro ⟨⟨h1, h2, h3⟩, h4⟩; exact ⟨h1, h2, h3, h4⟩
/-- Runs of two columns, one behind the other. -/
theorem runs_two {A B : List Z.R} {n k : Int} {x y : Z.V} (h1 : Z.Neat none (A ++ [⟨n, x⟩])) (h2 : Z.Neat none (⟨k, y⟩ :: B)) :
    Z.runs (Z.sp (A ++ [⟨n, x⟩]) ++ Z.sp (⟨k, y⟩ :: B)) = if Z.same x y = true then A ++ ⟨n + k, x⟩ :: B else A ++ ⟨n, x⟩ :: ⟨k, y⟩ :: B := by
  rw [neat_app] at h1
  obtain ⟨a1, a2, a3, _⟩ := h1
  obtain ⟨b1, _, b3⟩ := h2
  have a2' : (1 : Int) ≤ n := a2
  have b1' : (1 : Int) ≤ k := b1
  by_cases hs : Z.same x y = true
  · rw [if_pos hs]
    obtain rfl := (Z.same_iff x y).1 hs
    have hn : Z.Neat none (A ++ ⟨n + k, x⟩ :: B) := by
      rw [neat_app]
      exact ⟨a1, by show (1 : Int) ≤ n + k; omega, a3, b3⟩
    have e : Z.sp (A ++ [⟨n, x⟩]) ++ Z.sp (⟨k, x⟩ :: B) = Z.sp (A ++ ⟨n + k, x⟩ :: B) := by
      rw [sp_append, sp_append, sp_cons, sp_cons, sp_cons]
      have e2 : (n + k).toNat = n.toNat + k.toNat := by omega
      show Z.sp A ++ (List.replicate n.toNat x ++ []) ++ (List.replicate k.toNat x ++ Z.sp B) = Z.sp A ++ (List.replicate (n + k).toNat x ++ Z.sp B)
      rw [e2, ← List.replicate_append_replicate, List.append_nil]
      simp only [List.append_assoc]
    rw [e, runs_sp hn]
  · rw [if_neg hs]
    have hne : x ≠ y := fun e => hs (by rw [e]; exact Z.same_self y)
    have hn : Z.Neat none (A ++ ⟨n, x⟩ :: ⟨k, y⟩ :: B) := by
      rw [neat_app]
      exact ⟨a1, a2, a3, b1, fun e => hne (Option.some.inj e), b3⟩
    have e : Z.sp (A ++ [⟨n, x⟩]) ++ Z.sp (⟨k, y⟩ :: B) = Z.sp (A ++ ⟨n, x⟩ :: ⟨k, y⟩ :: B) := by
      rw [← sp_append, List.append_assoc]; rfl
    rw [e, runs_sp hn]
theorem runs_nil {l : List Z.V} (h : Z.runs l = []) : l = [] := by rw [← sp_runs l, h]; rfl
/-- What the statement asks of two columns. -/
structure Joined (l m : List Z.V) (la lb lc : Nat) : Prop where
  none : l = [] ∨ m = [] → lc = la + lb
  both : ∀ x y, l[l.length - 1]? = some x → m[0]? = some y → lc + (if Z.same x y = true then 1 else 0) = la + lb
  head : l ≠ [] → ∃ n k v, (Z.runs l)[0]? = some ⟨n, v⟩ ∧ (Z.runs (l ++ m))[0]? = some ⟨k, v⟩ ∧ n ≤ k
theorem joined (l m : List Z.V) : Joined l m (Z.runs l).length (Z.runs m).length (Z.runs (l ++ m)).length := by
  rcases List.eq_nil_or_concat (Z.runs l) with hl | ⟨A, ⟨n, x⟩, hl⟩
  · obtain rfl := runs_nil hl
    refine ⟨fun _ => ?_, fun x y h1 _ => by simp at h1, fun h => absurd rfl h⟩
    rw [List.nil_append]
    show _ = 0 + _
    omega
  · rw [List.concat_eq_append] at hl
    have h1 := neat_runs l
    have s1 := sp_runs l
    rw [hl] at h1 s1
    have hn1 : (1 : Int) ≤ n := neat_pos h1 ⟨n, x⟩ (by simp)
    have hlast : l[l.length - 1]? = some x := by
      rw [← s1, sp_append]
      have e : Z.sp [(⟨n, x⟩ : Z.R)] = List.replicate n.toNat x := by simp [Z.sp]
      rw [e, List.length_append, List.length_replicate, List.getElem?_append_right (by omega), List.getElem?_replicate, if_pos (by omega)]
    have hl0 : l ≠ [] := by rintro rfl; simp at hlast
    cases hm : Z.runs m with
    | nil =>
      obtain rfl := runs_nil hm
      refine ⟨fun _ => by rw [List.append_nil]; rfl, fun x y _ h2 => by simp at h2, fun _ => ?_⟩
      rw [List.append_nil, hl]
      cases A with
      | nil => exact ⟨n, n, x, rfl, rfl, Int.le_refl _⟩
      | cons r A => exact ⟨r.n, r.n, r.v, rfl, rfl, Int.le_refl _⟩
    | cons r B =>
      obtain ⟨k, y⟩ := r
      have h2 := neat_runs m
      have s2 := sp_runs m
      rw [hm] at h2 s2
      have hk1 : (1 : Int) ≤ k := h2.1
      have hfirst : m[0]? = some y := by
        rw [← s2, sp_cons]
        obtain ⟨q, hq⟩ : ∃ q : Nat, k.toNat = q + 1 := ⟨k.toNat - 1, by omega⟩
        show (List.replicate k.toNat y ++ Z.sp B)[0]? = some y
        rw [hq]
        rfl
      have hj := runs_two h1 h2
      rw [s1, s2] at hj
      refine ⟨fun h => ?_, fun x' y' g1 g2 => ?_, fun _ => ?_⟩
      · rcases h with rfl | rfl
        · exact absurd rfl hl0
        · simp at hfirst
      · rw [hlast] at g1
        rw [hfirst] at g2
        obtain rfl := Option.some.inj g1
        obtain rfl := Option.some.inj g2
        rw [hj, hl]
        by_cases hs : Z.same x y = true
        · rw [if_pos hs, if_pos hs]; simp; omega
        · rw [if_neg hs, if_neg hs]; simp; omega
      · rw [hj, hl]
        cases A with
        | nil =>
          by_cases hs : Z.same x y = true
          · rw [if_pos hs]; exact ⟨n, n + k, x, rfl, rfl, by omega⟩
          · rw [if_neg hs]; exact ⟨n, n, x, rfl, rfl, Int.le_refl _⟩
        | cons r A =>
          by_cases hs : Z.same x y = true
          · rw [if_pos hs]; exact ⟨r.n, r.n, r.v, rfl, rfl, Int.le_refl _⟩
          · rw [if_neg hs]; exact ⟨r.n, r.n, r.v, rfl, rfl, Int.le_refl _⟩
end Go.Proofs.Ytfggfmcbinhigaa

/- Slices of bools in memory. -/
import Derived.Test.YtlbchdlokimpfaaU
namespace Go.Proofs.Ytlbchdlokimpfaa
set_option linter.unusedVariables false
open Go.RowKit

theorem Try.infoBool : (Try.prog.info? 4).map (fun i => (i.zero, i.size, i.bytes)) = some (some (.bool false), 1, 1) := by kernel_rfl
/-- A slice of bools that can be read. -/
def Sb (w : World) (ao : Option Addr) (len cap : Nat) (l : List Bool) : Prop :=
  l.length = len ∧ len ≤ cap ∧ cap ≤ maxLen ∧ (ao = none → cap = 0) ∧ (len = 0 ∨ ∃ b off, ao = some ⟨b, off, none⟩ ∧ b < w.heap.size ∧ ∀ i, i < len → w.cell? ⟨b, off + i, none⟩ = some (.bool (l.getD i false)))
def Vb (l : List Bool) : List Value := l.map Value.bool
theorem Vb_append (a b : List Bool) : Vb (a ++ b) = Vb a ++ Vb b := by simp [Vb]
theorem Vb_length (a : List Bool) : (Vb a).length = a.length := by simp [Vb]
theorem Sb.below {w w' : World} {ao : Option Addr} {len cap : Nat} {l : List Bool} (h : Sb w ao len cap l) (hb : Below w.heap.size w w') : Sb w' ao len cap l := by
  obtain ⟨h1, h2, h3, h4, h5⟩ := h
  refine ⟨h1, h2, h3, h4, ?_⟩
  rcases h5 with h5 | ⟨b, off, rfl, hlt, h5⟩
  · exact .inl h5
  · exact .inr ⟨b, off, rfl, by have := hb.size; omega, fun i hi => by rw [hb.cell (p := ⟨b, off + i, none⟩) hlt]; exact h5 i hi⟩
theorem Sb.kept {F : Nat → Prop} {w w' : World} {ao : Option Addr} {len cap : Nat} {l : List Bool} (h : Sb w ao len cap l) (hb : Kept F w w') (hf : ∀ x, ao = some x → ¬ F x.block) : Sb w' ao len cap l := by
  obtain ⟨h1, h2, h3, h4, h5⟩ := h
  refine ⟨h1, h2, h3, h4, ?_⟩
  rcases h5 with h5 | ⟨b, off, rfl, hlt, h5⟩
  · exact .inl h5
  · exact .inr ⟨b, off, rfl, by have := hb.size; omega, fun i hi => by rw [hb.cell (p := ⟨b, off + i, none⟩) hlt (hf ⟨b, off, none⟩ rfl)]; exact h5 i hi⟩
theorem Sb.of_owns {w : World} {base : Nat} {e : TypeId} {v : Value} {l : List Bool} (h : w.ownsRow base e 1 v l.length (Vb l)) :
    ∃ ao cap, v = .slice ao l.length cap ∧ Sb w ao l.length cap l ∧ v.ownBlock = ao.map (·.block) := by
  have h0 := h
  rcases h.2 with ⟨h1, h2⟩ | ⟨g, cap, cur, hv, hg, hh, hc, hm, _⟩
  · have hl : l = [] := List.eq_nil_of_length_eq_zero h2
    subst hl
    exact ⟨none, 0, h1, ⟨rfl, Nat.le_refl _, by simp [maxLen], fun _ => rfl, .inl rfl⟩, by rw [h1]; rfl⟩
  · subst hv
    refine ⟨some ⟨g, 0, none⟩, cap, rfl, ⟨rfl, hc, hm, by simp, .inr ⟨g, 0, rfl, lt_of_block hh, fun i hi => ?_⟩⟩, rfl⟩
    rw [Nat.zero_add, h0.cellAt i (by omega)]
    simp [Vb, List.getD, hi]
theorem take_snocB (l : List Bool) (k : Nat) (h : k < l.length) : l.take (k + 1) = l.take k ++ [l.getD k false] := by
  rw [List.take_succ_eq_append_getElem h]; simp [List.getD, h]
theorem newsB {w : World} (t : TypeId) (a : Bool) : ∀ ad, some (⟨w.heap.size, 0, none⟩ : Addr) = some ad → ∀ j u, [Value.bool a][j]? = some u → (w.alloc (.cells #[.bool a] t)).cell? (ad.add j) = some u := by
  intro ad had j u hj
  obtain rfl := Option.some.inj had
  match j, hj with
  | 0, hj => simp at hj; subst hj; simp [Addr.add]
theorem oneB (a : Bool) : ∀ u ∈ [Value.bool a], u.oneCell' = true := by
  intro u hu; simp at hu; subst hu; rfl
theorem Sb.of_slice {w : World} {base : Nat} {e : TypeId} {ao : Option Addr} {n cap : Nat} {l : List Bool} (hn : l.length = n) (h : w.ownsRow base e 1 (.slice ao n cap) n (Vb l)) : Sb w ao n cap l := by
  subst hn
  obtain ⟨ao', cap', hv, hs, _⟩ := Sb.of_owns h
  simp only [Value.slice.injEq, true_and] at hv
  obtain ⟨rfl, rfl⟩ := hv
  exact hs
end Go.Proofs.Ytlbchdlokimpfaa

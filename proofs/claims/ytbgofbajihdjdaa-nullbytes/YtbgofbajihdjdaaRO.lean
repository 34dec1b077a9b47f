/- What a row's step hands to the walks: a slice of bools that came in. -/
import Derived.Test.YtbgofbajihdjdaaUB
import Derived.Test.YtbgofbajihdjdaaT0
import Derived.Deep.SlicePairs
namespace Go.Proofs.Ytbgofbajihdjdaa
set_option linter.unusedVariables false
open Go.ChangeShapes Go.WideShapes Go.ChangeAt Go.RowKit Go.Deep

theorem open_bools {H : Type} {enc : TypeId × Value → H} {W : World} {a : Option Addr} {len cap : Nat} {d : DataW H} {p : List MemPlace}
    (h : DataW.Trod enc Try.prog W 0 (fun _ => true) true 23 (.slice a len cap) d p) : (∃ l : List Bool, Sb W a len cap l) ∧ Heavy d cap := by
  obtain ⟨fuel, hf⟩ := h
  rcases open_slice Try.underlying23 hf with ⟨hcs, _⟩ | ⟨x, l, c, m, n, D, Pl, hcs, _, hl, hm, hmm, hd, hx⟩
  · simp [Value.cells] at hcs
    obtain ⟨rfl, rfl, rfl⟩ := hcs
    exact ⟨⟨[], rfl, Nat.le_refl _, by decide, fun _ => rfl, .inl rfl⟩, .inl rfl⟩
  · simp [Value.cells] at hcs
    obtain ⟨rfl, rfl, rfl⟩ := hcs
    simp only [if_true] at hmm
    subst hmm
    have k0 : Try.prog.cellsOf 4 = 1 := by kernel_rfl
    have each : ∀ i, i < m → ∃ q : Bool, W.cell? (x.add i) = some (.bool q) := by
      intro i hi
      obtain ⟨cs', h1, h2⟩ := hx i hi
      rw [k0] at h1
      obtain ⟨_, hlen, hcell⟩ := World.cells?_some h1
      match cs', hlen with
      | [v0], _ =>
        obtain ⟨n0, e0, _⟩ := DataW.trod_bool Try.underlying4 h2
        simp at e0
        subst e0
        have c0 := hcell 0 (by omega)
        rw [add_add] at c0
        exact ⟨n0, by simpa using c0⟩
    obtain ⟨q, hq⟩ := @choose_lt Bool ⟨false⟩ _ _ each
    refine ⟨⟨(List.range len).map q, by simp, hl, hm, by simp, ?_⟩, .inr ⟨_, _, (Prod.mk.inj hd).1, by simp; omega⟩⟩
    by_cases h0 : len = 0
    · exact .inl h0
    · obtain ⟨b, off, spot⟩ := x
      have h1 := hq 0 (by omega)
      have hspot : spot = none := by simpa [Addr.add] using World.cell?_spot h1
      subst hspot
      refine .inr ⟨b, off, rfl, ?_, fun j hj => ?_⟩
      · have := cell_lt h1
        simpa [Addr.add] using this
      · have c0 := hq j (by omega)
        rw [Addr.add_lit] at c0
        rw [c0]
        simp [List.getD, hj]
end Go.Proofs.Ytbgofbajihdjdaa

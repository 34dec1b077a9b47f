/- What a row's step hands to the walks: an array of 256 numbers that came in by value. -/
import Derived.Test.YtmobcabkaodjoaaRU
import Derived.Test.YtmobcabkaodjoaaH2
namespace Go.Proofs.Ytmobcabkaodjoaa
set_option linter.unusedVariables false
open Go.ChangeShapes Go.WideShapes Go.ChangeAt Go.RowKit

theorem okWide_arr {P : Program} {w : World} {r : Reach} {base : Nat} {t e : TypeId} {n : Nat} {v : Value} (ht : P.underlying t = some (.array n e)) (h : Value.okWide P w r base t v) : ∃ cs, v = .agg cs ∧ cs.size = P.cellsOf t := by
  simp only [Value.okWide, ht] at h
  obtain ⟨cs, h1, h2, _⟩ := h
  exact ⟨cs, h1, h2⟩
theorem wf_u32 {n : Int} (h : (Lit.int .u32 n).wf = true) : 0 ≤ n ∧ n < 4294967296 := by
  have := bounds_u32 h; omega
/-- The numbers of an array. -/
def numOf (D : Array Value) (i : Nat) : Nat := match D[i]? with
  | some (.int _ n) => n.toNat
  | _ => 0
theorem open_tab {H : Type} {enc : TypeId × Value → H} {W : World} {D : Array Value} {d : DataW H} {p : List MemPlace} (hs : D.size = 256)
    (h : DataW.Trod enc Try.prog W 0 (fun _ => true) true 24 (.agg D) d p) : Tab (numOf D) D ∧ ∀ i, i < 256 → numOf D i < 4294967296 := by
  obtain ⟨fuel, hf⟩ := h
  obtain ⟨xs, m, _, _, hl, hn, hx⟩ := DataW.trod_array Try.underlying24 hf
  have hc : Try.prog.cellsOf 23 = 1 := by kernel_rfl
  have key : ∀ i, i < 256 → ∃ n : Int, D[i]? = some (.int .u32 n) ∧ 0 ≤ n ∧ n < 4294967296 := by
    intro i hi
    have h1 := hx i hi
    rw [hc, Nat.mul_one] at h1
    have hxi : xs[i]? = some xs[i] := by simp
    rw [hxi] at h1
    obtain ⟨n, h2, _, h3⟩ := DataW.trod_int Try.underlying23 h1
    have h4 := wf_u32 h3
    refine ⟨n, ?_, h4.1, h4.2⟩
    have h5 : (Value.agg D).cells.toList = D.toList := rfl
    rw [h5] at h2
    have h6 : ((D.toList.drop i).take 1)[0]? = D[i]? := by
      rw [List.getElem?_take]; simp
    rw [h2] at h6
    simpa using h6.symm
  refine ⟨⟨hs, fun i hi => ?_⟩, fun i hi => ?_⟩
  · obtain ⟨n, h1, h2, h3⟩ := key i hi
    rw [h1]
    simp only [numOf, h1]
    rw [show ((n.toNat : Nat) : Int) = n by omega]
  · obtain ⟨n, h1, h2, h3⟩ := key i hi
    simp only [numOf, h1]
    omega
end Go.Proofs.Ytmobcabkaodjoaa

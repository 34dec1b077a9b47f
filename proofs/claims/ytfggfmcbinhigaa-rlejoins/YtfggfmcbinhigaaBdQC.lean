/- The walk of the statement: bytes of a column, cut anywhere ahead of their end, are not as many values. -/
import Derived.Test.YtfggfmcbinhigaaBdV
import Derived.Test.YtfggfmcbinhigaaBdRX
namespace Go.Proofs.Ytfggfmcbinhigaa
set_option linter.unusedVariables false
open Go.RowKit

theorem fits {l : List Z.V} {kind : Int} (h : Z.chk l kind = 0) (hwf : ∀ x ∈ l, Z.Wf x) : ∀ x ∈ l, Z.Fit kind x := fun x hx => ⟨(chk_zero h).2.2.1 x hx, (chk_zero h).2.2.2 x hx, (hwf x hx).2.1⟩
theorem kindOk_of {l : List Z.V} {kind : Int} (h : Z.chk l kind = 0) : Z.kindOk kind = true := by
  rcases (chk_zero h).1 with rfl | rfl | rfl <;> rfl
theorem lb_lt {x : Z.V} (hi : Z.I64 x.i) : ∀ y ∈ Z.lb x, y < 256 := by
  obtain ⟨k, i, s⟩ := x
  by_cases h1 : k = 1
  · subst h1; rw [lb_int]; exact E.leb_lt _
  · by_cases h2 : k = 2
    · subst h2; rw [lb_float]
      have hk := D.ky_in (Z.u_in i)
      have hk2 : (D.ky (Z.u i)).toNat < 18446744073709551616 := by have := hk.1; have := hk.2; omega
      exact Z.k8_lt hk2
    · by_cases h3 : k = 3
      · subst h3; rw [lb_text]
        intro y hy
        rcases List.mem_append.1 hy with hy | hy
        · exact E.leb_lt _ y hy
        · exact sb_lt s y hy
      · rw [lb_else h1 h2 h3]; simp
theorem pb_lt {l : List Z.V} (h : ∀ x ∈ l, Z.Wf x) : ∀ y ∈ Z.pb l, y < 256 := by
  intro y hy
  obtain ⟨x, hx, hy⟩ := List.mem_flatMap.1 hy
  exact lb_lt (h x hx).2.1 y hy
theorem cb_lt {l : List Z.V} {kind : Int} (h : ∀ x ∈ l, Z.Wf x) : ∀ y ∈ Z.cb l kind, y < 256 := by
  unfold Z.cb
  split
  · exact pb_lt h
  · simp
theorem cb_len {l : List Z.V} {kind : Int} (h : ∀ x ∈ l, Z.Wf x) : (Z.cb l kind).length ≤ 4235264 := by
  unfold Z.cb
  split
  · rename_i h0
    have h1 := pb_le l (fun x hx => (h x hx).2.1) (chk_zero h0).2.2.2
    have h2 := (chk_zero h0).2.1
    omega
  · simp

end Go.Proofs.Ytfggfmcbinhigaa

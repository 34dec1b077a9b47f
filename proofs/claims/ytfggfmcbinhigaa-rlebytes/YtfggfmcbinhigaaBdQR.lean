/- The walk of the statement: what was laid down is read; what is read is laid down as the very bytes. -/
import Derived.Test.YtfggfmcbinhigaaBdQB
import Derived.Test.YtfggfmcbinhigaaBdV
namespace Go.Proofs.Ytfggfmcbinhigaa
set_option linter.unusedVariables false
open Go.RowKit

theorem oV_i64 {l : List Nat} (h256 : ∀ x ∈ l, x < 256) (kind : Int) : Z.I64 (Z.oV l kind).i := by
  unfold Z.oV
  split
  · unfold Z.oW
    split
    · exact E.zag_lt _ (E.gN_lt h256)
    · split
      · exact Z.sg_in (D.bt_in ⟨by omega, by have := Z.o8_lt h256; omega⟩)
      · split
        · exact ⟨by show (-9223372036854775808 : Int) ≤ 0; decide, by show (0 : Int) < 9223372036854775808; decide⟩
        · exact ⟨by decide, by decide⟩
  · exact ⟨by decide, by decide⟩
theorem str_append (a b : List Nat) : strOfNums (ints a) ++ strOfNums (ints b) = strOfNums (ints (a ++ b)) := by
  apply Z.ba_eq
  simp [strOfNums, ints]
theorem pL_i64 (kind : Int) : ∀ (n : Nat) (b : List Nat), (∀ x ∈ b, x < 256) → ∀ x ∈ Z.pL kind n b, Z.I64 x.i
  | 0, _, _, x, hx => by simp [Z.pL] at hx
  | n + 1, b, h, x, hx => by
    rw [Z.pL] at hx
    rcases List.mem_cons.1 hx with rfl | hx
    · exact oV_i64 h kind
    · exact pL_i64 kind n _ (oR_lt h kind) x hx
theorem cL_i64 {b : List Nat} {n kind : Int} (h : ∀ x ∈ b, x < 256) : ∀ x ∈ Z.cL b n kind, Z.I64 x.i := by
  unfold Z.cL
  split
  · exact pL_i64 kind _ b h
  · simp
/-- Where Of has no error. -/
theorem cE_zero {b : List Nat} {n kind : Int} (h256 : ∀ x ∈ b, x < 256) (h : Z.cE b n kind = 0) : ∃ N : Nat, n = (N : Int) ∧ (Z.cL b n kind).length = N ∧ Z.chk (Z.cL b n kind) kind = 0 ∧ Z.cb (Z.cL b n kind) kind = b := by
  have hc : Z.cL b n kind = Z.pL kind n.toNat b := by unfold Z.cL; rw [if_pos h]
  rw [hc]
  unfold Z.cE at h
  split at h
  · exact absurd h (by decide)
  · rename_i h1
    split at h
    · exact absurd h (by decide)
    · rename_i h2
      split at h
      · rename_i h3; omega
      · rename_i h3
        split at h
        · exact absurd h (by decide)
        · rename_i h4
          have h1' : Z.kindOk kind = true := by simpa using h1
          have h3' : Z.pE kind n.toNat b = 0 := by simpa using h3
          have h4' : Z.pR kind n.toNat b = [] := by simpa using h4
          obtain ⟨g1, g2⟩ := p_two (kind_cases h1') n.toNat b h256 h3'
          have h5 : Z.chk (Z.pL kind n.toNat b) kind = 0 := chk_of (kind_cases h1') (by rw [pL_length]; omega) (fun x hx => (g1 x hx).1) (fun x hx => (g1 x hx).2)
          refine ⟨n.toNat, by omega, pL_length _ _ _, h5, ?_⟩
          rw [cb_ok h5]
          rw [h4', List.append_nil] at g2
          exact g2
theorem cE_back {l : List Z.V} {kind : Int} {len : Nat} (h : Z.chk l kind = 0) (hwf : ∀ x ∈ l, Z.Wf x) (hl : l.length = len) : Z.cE (Z.cb l kind) (len : Int) kind = 0 ∧ Z.cL (Z.cb l kind) (len : Int) kind = l ∧ Z.cE (Z.cb l kind ++ [0]) (len : Int) kind = 4 := by
  have h1 := p_back kind [] l (fits h hwf)
  have h2 := p_back kind [0] l (fits h hwf)
  have h3 := (chk_zero h).2.1
  rw [List.append_nil, hl] at h1
  rw [hl] at h2
  rw [hl] at h3
  rw [cb_ok h]
  have h4 := cE_ok (kindOk_of h) h3 h1.1 h1.2.2
  refine ⟨h4, ?_, cE_behind (kindOk_of h) h3 h2.1 (by rw [h2.2.2]; simp)⟩
  unfold Z.cL
  rw [if_pos h4, Int.toNat_natCast]
  exact h1.2.1
theorem sl_zero (w : World) : Sl (w.alloc (.cells #[.int .u8 0] 5)) .u8 (some ⟨w.heap.size, 0, none⟩) 1 1 (ints [0]) := by
  refine ⟨rfl, Nat.le_refl _, by decide, by simp, .inr ⟨w.heap.size, 0, rfl, by simp, fun i hi => ?_⟩⟩
  obtain rfl : i = 0 := by omega
  simp [ints]

end Go.Proofs.Ytfggfmcbinhigaa

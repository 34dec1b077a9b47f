/- The contract of val's Of. -/
import Derived.Test.YtahpbenobhodnaaZD
namespace Go.Proofs.Ytahpbenobhodnaa
set_option linter.unusedVariables false
open Go.RowKit

theorem oE_null (l : List Nat) : Z.oE l 0 = 0 := by unfold Z.oE; rw [if_pos rfl]
theorem oW_null (l : List Nat) : Z.oW l 0 = ⟨0, 0, ⟨#[]⟩⟩ := rfl
theorem oS_null (l : List Nat) : Z.oS l 0 = l := rfl
theorem oE_else {l : List Nat} {kind : Int} (h0 : kind ≠ 0) (h1 : kind ≠ 1) (h2 : kind ≠ 2) (h3 : kind ≠ 3) : Z.oE l kind = 1 := by unfold Z.oE; rw [if_neg h0, if_neg h1, if_neg h2, if_neg h3]
theorem OfAns.put {l : List Nat} {kind : Int} {w w1 w2 : World} {b : Nat} {k i k' i' : Int} {s s' : ByteArray} {a : Option Addr} {n c : Nat} {E : Int} (hw : Below w.heap.size w w1) (h : OfAns l kind w1 (.returned (.tuple #[.agg #[.int .i64 k, .int .i64 i, .string s], .slice a n c, .int .i64 E])) w2) (hA : At w2 b k' i' s') (hb : w.heap.size ≤ b) :
    OfAns l kind w (.returned (.tuple #[.agg #[.int .i64 k, .int .i64 i, .string s], .slice a n c, .int .i64 E])) (putV w2 b k i s) := by
  obtain ⟨a1, c1, h1, h2, h3⟩ := h
  have hn : n = (Z.oR l kind).length ∧ a = a1 ∧ c = c1 := by
    simp [Ending.returned.injEq] at h1
    exact ⟨h1.2.1.2.1, h1.2.1.1, h1.2.1.2.2⟩
  obtain ⟨rfl, rfl, rfl⟩ := hn
  exact ⟨_, _, h1, h2.putV hA k i s, putV_below k i s (bthen hw h3) hb⟩
theorem OfAns.bel {l : List Nat} {kind : Int} {w w' : World} {e : Ending} (h : OfAns l kind w e w') : Below w.heap.size w w' := by
  obtain ⟨_, _, _, _, h⟩ := h
  exact h
theorem OfAns.shape {l : List Nat} {kind : Int} {w w' : World} {e : Ending} (h : OfAns l kind w e w') : ∃ k i s a n c E, e = .returned (.tuple #[.agg #[.int .i64 k, .int .i64 i, .string s], .slice a n c, .int .i64 E]) := by
  obtain ⟨a1, c1, h1, _⟩ := h
  exact ⟨_, _, _, _, _, _, _, h1⟩
set_option maxHeartbeats 1000000 in
theorem vof_any (ao : Option Addr) (len cap : Nat) (l : List Nat) (kind : Int) (w : World) (h : Sl w .u8 ao len cap (ints l)) (h256 : ∀ x ∈ l, x < 256) (hm : len ≤ 140737488355328) :
    Calls Try.prog 12 #[.slice ao len cap, .int .i64 kind] w (OfAns l kind w) := by
  have hl : l.length = len := by rw [← h.1, ints_length]
  have hA := At.new w 0 0 ⟨#[]⟩
  have b0 := hide (below_one w (.cells #[.int .i64 0, .int .i64 0, .string ⟨#[]⟩] 23))
  have HS := hide (h.below b0.out)
  have H2 := hide h256
  have HL := hide hl
  clear h h256 hl
  by_cases k0 : kind = 0
  · subst k0
    go_enter Try.func12, Try.ntmps12
    go_wp2_with fail
    refine (clone_any _ _ _ l _ HS.out hm).mono ?_
    rintro e w1 ⟨qa, qc, rfl, hs2, hb2⟩
    replace hA := hA.below hb2
    replace b0 := hide (bthen b0.out hb2)
    have hs3 := hide hs2
    clear hb2 hs2
    obtain ⟨a1, a2, a3⟩ := hA.cells
    obtain ⟨f1, f2, f3⟩ := hA.thawed
    replace hA := hide hA
    go_wp2
    refine bodyPost_ret (results_val Try.results12 _ _ w.heap.size rfl (hA.out.set 0 0 ⟨#[]⟩)) rfl ?_
    exact OfAns.yes (oE_null l) (oW_null l) (oS_null l) HL.out (hs3.out.putV hA.out 0 0 ⟨#[]⟩) (putV_below 0 0 ⟨#[]⟩ b0.out (Nat.le_refl _))
  · by_cases k1 : kind = 1
    · subst k1
      go_enter Try.func12, Try.ntmps12
      go_wp2_with fail
      refine (vtoint_any _ _ _ l _ HS.out H2.out hm).mono ?_
      intro e w1 ho
      obtain ⟨k, i, s, qa, qn, qc, qe, rfl⟩ := ho.shape
      replace hA := hA.below ho.bel
      have HO := hide ho
      clear ho
      obtain ⟨a1, a2, a3⟩ := hA.cells
      obtain ⟨f1, f2, f3⟩ := hA.thawed
      replace hA := hide hA
      go_wp2
      refine bodyPost_ret (results_val Try.results12 _ _ w.heap.size rfl (hA.out.set k i s)) rfl ?_
      exact OfAns.put b0.out HO.out hA.out (Nat.le_refl _)
    · by_cases k2 : kind = 2
      · subst k2
        go_enter Try.func12, Try.ntmps12
        go_wp2_with fail
        refine (vtofloat_any _ _ _ l _ HS.out H2.out hm).mono ?_
        intro e w1 ho
        obtain ⟨k, i, s, qa, qn, qc, qe, rfl⟩ := ho.shape
        replace hA := hA.below ho.bel
        have HO := hide ho
        clear ho
        obtain ⟨a1, a2, a3⟩ := hA.cells
        obtain ⟨f1, f2, f3⟩ := hA.thawed
        replace hA := hide hA
        go_wp2
        refine bodyPost_ret (results_val Try.results12 _ _ w.heap.size rfl (hA.out.set k i s)) rfl ?_
        exact OfAns.put b0.out HO.out hA.out (Nat.le_refl _)
      · by_cases k3 : kind = 3
        · subst k3
          go_enter Try.func12, Try.ntmps12
          go_wp2_with fail
          refine (vtotext_any _ _ _ l _ HS.out H2.out hm).mono ?_
          intro e w1 ho
          obtain ⟨k, i, s, qa, qn, qc, qe, rfl⟩ := ho.shape
          replace hA := hA.below ho.bel
          have HO := hide ho
          clear ho
          obtain ⟨a1, a2, a3⟩ := hA.cells
          obtain ⟨f1, f2, f3⟩ := hA.thawed
          replace hA := hide hA
          go_wp2
          refine bodyPost_ret (results_val Try.results12 _ _ w.heap.size rfl (hA.out.set k i s)) rfl ?_
          exact OfAns.put b0.out HO.out hA.out (Nat.le_refl _)
        · obtain ⟨a1, a2, a3⟩ := hA.cells
          obtain ⟨f1, f2, f3⟩ := hA.thawed
          replace hA := hide hA
          go_enter Try.func12, Try.ntmps12
          go_wp2
          refine bodyPost_ret (results_val Try.results12 _ _ w.heap.size rfl hA.out) rfl ?_
          exact OfAns.no (oE_else k0 k1 k2 k3) (by decide) b0.out
end Go.Proofs.Ytahpbenobhodnaa

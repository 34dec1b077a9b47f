/- The contracts of val's toText, toFloat. -/
import Derived.Test.YtmhfpipeoojacaaBdZB
import Derived.Test.YtmhfpipeoojacaaBdZD
namespace Go.Proofs.Ytmhfpipeoojacaa
set_option linter.unusedVariables false
open Go.RowKit

theorem vtotext_any (ao : Option Addr) (len cap : Nat) (l : List Nat) (w : World) (h : Sl w .u8 ao len cap (ints l)) (h256 : ∀ x ∈ l, x < 256) (hm : len ≤ 140737488355328) :
    Calls Try.prog 102 #[.slice ao len cap] w (OfAns l 3 w) := by
  have hA := At.new w 0 0 ⟨#[]⟩
  have b0 := hide (below_one w (.cells #[.int .i64 0, .int .i64 0, .string ⟨#[]⟩] 24))
  have HT := hide (totext_any ao len cap l 1024 _ (h.below b0.out) h256 hm (by omega) (by omega))
  clear h
  by_cases hg : E.xE 1024 l = 0
  · have HS : Hid (E.yS 1024 l = E.xS l) := by show _ = _; unfold E.yS; rw [if_pos hg]
    have HR : Hid (E.yR 1024 l = E.xR l) := by show _ = _; unfold E.yR; rw [if_pos hg]
    have HE := hide hg
    have HO := hide ((oE_text l).trans hg)
    clear hg
    go_enter Try.func102, Try.ntmps102
    go_wp2_with fail
    refine HT.out.mono ?_
    rintro e w1 ⟨v1, v2, rfl, ⟨rfl, q2, c2, rfl, hs2⟩, hb⟩
    rw [HE.out, HS.out, HR.out]
    rw [HR.out] at hs2
    replace hA := hA.below hb
    replace b0 := hide (bthen b0.out hb)
    replace hs2 := hide hs2
    obtain ⟨x, hx⟩ : ∃ x, strOfNums (ints (E.xS l)) = x := ⟨_, rfl⟩
    obtain ⟨n2, hn2⟩ : ∃ n2, (E.xR l).length = n2 := ⟨_, rfl⟩
    rw [hx, hn2]
    rw [hn2] at hs2
    have HX := hide hx
    have HN2 := hide hn2
    clear hb hx hn2 HT h256 HS HR HE
    obtain ⟨a1, a2, a3⟩ := hA.cells
    obtain ⟨f1, f2, f3⟩ := hA.thawed
    replace hA := hide hA
    go_wp2
    refine bodyPost_ret (results_val Try.results102 _ _ w.heap.size rfl (hA.out.set 3 0 x)) rfl ?_
    exact OfAns.yes HO.out (by rw [oW_text, HX.out]) (oS_text l) HN2.out (hs2.out.putV hA.out 3 0 x) (putV_below 3 0 x b0.out (Nat.le_refl _))
  · have HO := hide (oE_text l)
    obtain ⟨G, hG⟩ : ∃ G : Nat, E.xE 1024 l = G := ⟨_, rfl⟩
    rw [hG] at hg HO
    obtain ⟨e, he⟩ : ∃ e : Int, ((G : Nat) : Int) = e := ⟨_, rfl⟩
    have hg3 : e ≠ 0 := by omega
    have HEE := hide he
    have HG := hide hG
    clear hG he
    go_enter Try.func102, Try.ntmps102
    go_wp2_with fail
    refine HT.out.mono ?_
    rintro e' w1 ⟨v1, v2, rfl, ⟨rfl, q2, c2, rfl, _⟩, hb⟩
    rw [HG.out, HEE.out]
    replace hA := hA.below hb
    replace b0 := hide (bthen b0.out hb)
    generalize (E.yR 1024 l).length = n2
    generalize strOfNums (ints (E.yS 1024 l)) = x
    clear hb HT h256
    obtain ⟨a1, a2, a3⟩ := hA.cells
    obtain ⟨f1, f2, f3⟩ := hA.thawed
    replace hA := hide hA
    go_wp2
    refine bodyPost_ret (results_val Try.results102 _ _ w.heap.size rfl (hA.out.set 0 0 ⟨#[]⟩)) rfl ?_
    have := OfAns.no HO.out hg (putV_below 0 0 ⟨#[]⟩ b0.out (Nat.le_refl _))
    rw [HEE.out] at this
    exact this

theorem oE_short {l : List Nat} (h : l.length < 8) : Z.oE l 2 = 3 := by unfold Z.oE; rw [if_neg (by decide), if_neg (by decide), if_pos rfl, if_pos h]
theorem oE_form {l : List Nat} (h : 8 ≤ l.length) (hk : D.ky (D.bt ((Z.o8 l : Nat) : Int)) ≠ ((Z.o8 l : Nat) : Int)) : Z.oE l 2 = 4 := by unfold Z.oE; rw [if_neg (by decide), if_neg (by decide), if_pos rfl, if_neg (by omega), if_neg hk]
theorem oE_float {l : List Nat} (h : 8 ≤ l.length) (hk : D.ky (D.bt ((Z.o8 l : Nat) : Int)) = ((Z.o8 l : Nat) : Int)) : Z.oE l 2 = 0 := by unfold Z.oE; rw [if_neg (by decide), if_neg (by decide), if_pos rfl, if_neg (by omega), if_pos hk]
theorem oW_float (l : List Nat) : Z.oW l 2 = ⟨2, Z.sg (D.bt ((Z.o8 l : Nat) : Int)), ⟨#[]⟩⟩ := by unfold Z.oW; rw [if_neg (by decide), if_pos rfl]
theorem oS_float (l : List Nat) : Z.oS l 2 = l.drop 8 := by unfold Z.oS; rw [if_neg (by decide), if_pos rfl]

theorem vtofloat_short (ao : Option Addr) (len cap : Nat) (l : List Nat) (w : World) (hl : l.length = len) (h8 : len < 8) :
    Calls Try.prog 101 #[.slice ao len cap] w (OfAns l 2 w) := by
  have hA := At.new w 0 0 ⟨#[]⟩
  have b0 := hide (below_one w (.cells #[.int .i64 0, .int .i64 0, .string ⟨#[]⟩] 24))
  have HO : Hid (Z.oE l 2 = 3) := oE_short (by omega)
  clear hl
  obtain ⟨a1, a2, a3⟩ := hA.cells
  obtain ⟨f1, f2, f3⟩ := hA.thawed
  replace hA := hide hA
  go_enter Try.func101, Try.ntmps101
  go_wp2
  refine bodyPost_ret (results_val Try.results101 _ _ w.heap.size rfl hA.out) rfl ?_
  exact OfAns.no HO.out (by decide) b0.out
end Go.Proofs.Ytmhfpipeoojacaa

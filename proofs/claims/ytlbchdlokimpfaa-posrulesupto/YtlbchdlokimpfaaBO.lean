/- The document's example. -/
import Derived.Test.YtlbchdlokimpfaaBN
namespace Go.Proofs.Ytlbchdlokimpfaa
set_option linter.unusedVariables false
set_option maxRecDepth 10000
open Go.RowKit

theorem four_sl (w : World) (t : TypeId) (a b c d : Int) : Sl (w.alloc (.cells #[.int .i64 a, .int .i64 b, .int .i64 c, .int .i64 d] t)) .i64 (some ⟨w.heap.size, 0, none⟩) 4 4 [a, b, c, d] := by
  refine ⟨rfl, Nat.le_refl _, by decide, by simp, .inr ⟨w.heap.size, 0, rfl, by simp, fun j hj => ?_⟩⟩
  match j, hj with
  | 0, _ => simp
  | 1, _ => simp
  | 2, _ => simp
  | 3, _ => simp
  | n + 4, h => omega
theorem two_sl (w : World) (t : TypeId) (a b : Int) : Sl (w.alloc (.cells #[.int .i64 a, .int .i64 b] t)) .i64 (some ⟨w.heap.size, 0, none⟩) 2 2 [a, b] := by
  refine ⟨rfl, Nat.le_refl _, by decide, by simp, .inr ⟨w.heap.size, 0, rfl, by simp, fun j hj => ?_⟩⟩
  match j, hj with
  | 0, _ => simp
  | 1, _ => simp
  | n + 2, h => omega
def Z.s6 : List Bool := [true, true, true, false, false, true]
theorem s6_is : Z.fo 6 [5, 0, 1, 2] = Z.s6 := by decide
theorem s6_ls : Z.ls Z.s6 = [0, 1, 2, 5] := by decide
theorem s6_nt : Z.ls (Z.nt Z.s6) = [3, 4] := by decide
set_option maxHeartbeats 4000000 in
theorem shown_any (tb : Nat → Int) (w : World) (ht : TabAt w tb) :
    Calls Try.prog 10 #[] w fun e w' => e = .returned (.bool true) ∧ Below w.heap.size w w' := by
  have H0 := hide ht
  clear ht
  go_enter Try.func10, Try.ntmps10
  go_wp2_with fail
  have b0 := below_one w (.cells #[.int .i64 5, .int .i64 0, .int .i64 1, .int .i64 2] 3)
  have hsl := four_sl w 3 5 0 1 2
  have hof := of_any 6 1 (by decide) (by decide) (by decide) _ 4 4 [5, 0, 1, 2] _ hsl (by decide) (by decide)
  rw [s6_is] at hof
  have HOF := hide hof
  have B0 := hide b0
  clear hsl hof b0
  refine HOF.out.mono ?_
  rintro e w1 ⟨s, rfl, hs, hnew, hb⟩
  have B1 := hide (B0.out.trans (hb.mono B0.out.size))
  obtain ⟨T, ao, len, cap, rfl⟩ := SetAt.shape hs
  have HS := hide hs
  clear hs hnew hb HOF B0
  go_wp2_with fail
  have hA := AtS.new w1 (.int .i64 (Z.s6.length : Int)) (.iface T (.slice ao len cap))
  have hbA := below_one w1 (.cells #[.int .i64 (Z.s6.length : Int), .iface T (.slice ao len cap)] 28)
  obtain ⟨w2, hw2⟩ : ∃ w2, w1.alloc (.cells #[.int .i64 (Z.s6.length : Int), .iface T (.slice ao len cap)] 28) = w2 := ⟨_, rfl⟩
  rw [hw2] at hA hbA ⊢
  have HA := hide hA
  have B2 := hide (bthen B1.out hbA)
  have HS2 := hide (HS.out.below hbA)
  clear hw2 hA hbA HS B1
  refine (list_any tb _ 1 Z.s6 _ HS2.out (H0.out.below B2.out)).mono ?_
  rintro e w3 ⟨a1, c1, rfl, hl, hb⟩
  rw [nums_is _ _ (by decide), s6_ls] at hl
  have B3 := hide (bthen B2.out hb)
  have HA3 := hide (HA.out.below hb)
  have HS3 := hide (HS2.out.below hb)
  have L1 := hide hl
  clear hl hb HA HS2 B2
  rw [s6_ls]
  go_wp2_with fail
  have hq := four_sl w3 3 0 1 2 5
  have hqb := below_one w3 (.cells #[.int .i64 0, .int .i64 1, .int .i64 2, .int .i64 5] 3)
  have HI := hide (ints_yes _ _ 4 _ _ [0, 1, 2, 5] _ (L1.out.below hqb) hq (by decide))
  have B4 := hide (bthen B3.out hqb)
  have HA4 := hide (HA3.out.below hqb)
  have HS4 := hide (HS3.out.below hqb)
  clear hq hqb B3 HA3 HS3 L1
  refine HI.out.mono ?_
  rintro e w4 ⟨rfl, hb⟩
  have B5 := hide (bthen B4.out hb)
  have HS5 := hide (HS4.out.below hb)
  have hA5 := HA4.out.below hb
  obtain ⟨d0, d1⟩ := hA5.cells
  have HA5 := hide hA5
  clear HI hb hA5 B4 HA4 HS4
  go_wp2_with fail
  refine (notset_any _ 1 Z.s6 _ HS5.out (by decide) (by decide)).mono ?_
  rintro e w5 ⟨s2, rfl, hs2, hn2, hb⟩
  obtain ⟨T2, ao2, len2, cap2, rfl⟩ := SetAt.shape hs2
  have B6 := hide (bthen B5.out hb)
  have HS6 := hide (HS5.out.below hb)
  have HA6 := hide (HA5.out.below hb)
  have HN6 := hide hs2
  clear hs2 hn2 hb B5 HS5 HA5 d0 d1
  go_wp2_with fail
  refine (list_any tb _ 1 (Z.nt Z.s6) _ HN6.out (H0.out.below B6.out)).mono ?_
  rintro e w6 ⟨a2, c2, rfl, hl, hb⟩
  rw [nums_is _ _ (by decide), s6_nt] at hl
  have B7 := hide (bthen B6.out hb)
  have HA7 := hide (HA6.out.below hb)
  have HS7 := hide (HS6.out.below hb)
  have L2 := hide hl
  clear hl hb HA6 HS6 B6 HN6
  rw [s6_nt]
  go_wp2_with fail
  have hq := two_sl w6 3 3 4
  have hqb := below_one w6 (.cells #[.int .i64 3, .int .i64 4] 3)
  have HI := hide (ints_yes _ _ 2 _ _ [3, 4] _ (L2.out.below hqb) hq (by decide))
  have B8 := hide (bthen B7.out hqb)
  have HA8 := hide (HA7.out.below hqb)
  have HS8 := hide (HS7.out.below hqb)
  clear hq hqb B7 HA7 HS7 L2
  refine HI.out.mono ?_
  rintro e w7 ⟨rfl, hb⟩
  have B9 := hide (bthen B8.out hb)
  have HS9 := hide (HS8.out.below hb)
  have hA9 := HA8.out.below hb
  obtain ⟨d0, d1⟩ := hA9.cells
  have HA9 := hide hA9
  clear HI hb hA9 B8 HA8 HS8
  go_wp2_with fail
  refine (rank_any _ 1 Z.s6 5 _ HS9.out (fun h => by cases h)).mono ?_
  rintro e w8 ⟨rfl, hb⟩
  have hr : (Z.ps Z.s6 (Z.cl Z.s6.length 5)).length = 3 := by decide
  rw [hr]
  have BA := hide (bthen B9.out hb)
  have HSA := hide (HS9.out.below hb)
  have hAA := HA9.out.below hb
  obtain ⟨d0, d1⟩ := hAA.cells
  have HAA := hide hAA
  clear hb hAA B9 HA9 HS9 hr
  go_wp2_with fail
  refine (has_any _ 1 Z.s6 5 _ HSA.out).mono ?_
  rintro e w9 ⟨rfl, hb⟩
  have hr : Z.hs Z.s6 5 = true := by decide
  rw [hr]
  have BB := hide (bthen BA.out hb)
  clear hb hr d0 d1
  go_wp2
  go_ret
  exact ⟨rfl, BB.out⟩
end Go.Proofs.Ytlbchdlokimpfaa

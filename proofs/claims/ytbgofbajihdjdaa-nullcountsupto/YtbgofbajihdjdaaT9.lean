/- The statements' own head: 'shown'. -/
import Derived.Test.YtbgofbajihdjdaaT6
namespace Go.Proofs.Ytbgofbajihdjdaa
set_option linter.unusedVariables false
open Go.RowKit

/-- What the document shows. -/
def exV : List Z.V := [⟨1, 5, ⟨#[]⟩⟩, ⟨0, 0, ⟨#[]⟩⟩, ⟨1, 6, ⟨#[]⟩⟩]
theorem slV_three (w : World) (x y z : Z.V) : SlV (w.alloc (.cells #[.int .i64 x.k, .int .i64 x.i, .string x.s, .int .i64 y.k, .int .i64 y.i, .string y.s, .int .i64 z.k, .int .i64 z.i, .string z.s] 44)) (some ⟨w.heap.size, 0, none⟩) 3 3 [x, y, z] := by
  refine ⟨rfl, Nat.le_refl _, by decide, by simp, .inr ⟨w.heap.size, 0, rfl, by simp, fun j u hu => ?_⟩⟩
  match j, hu with
  | 0, hu => simp at hu; subst hu; simp
  | 1, hu => simp at hu; subst hu; simp
  | 2, hu => simp at hu; subst hu; simp
theorem sb_three (w : World) (x y z : Bool) : Sb (w.alloc (.cells #[.bool x, .bool y, .bool z] 4)) (some ⟨w.heap.size, 0, none⟩) 3 3 [x, y, z] := by
  refine ⟨rfl, Nat.le_refl _, by decide, by simp, .inr ⟨w.heap.size, 0, rfl, by simp, fun j hj => ?_⟩⟩
  match j, hj with
  | 0, _ => simp
  | 1, _ => simp
  | 2, _ => simp

set_option maxHeartbeats 2000000 in
theorem nshown_any (w : World) : Calls Try.prog 9 #[] w fun e w' => e = .returned (.bool true) ∧ Below w.heap.size w w' := by
  have hsl := slV_three w ⟨1, 5, ⟨#[]⟩⟩ ⟨0, 0, ⟨#[]⟩⟩ ⟨1, 6, ⟨#[]⟩⟩
  have HSL := hide hsl
  clear hsl
  go_enter Try.func9, Try.ntmps9
  go_wp2_with fail
  refine (zsplit_any (some ⟨w.heap.size, 0, none⟩) 3 3 exV _ HSL.out (by decide)).mono ?_
  rintro e w1 ⟨v1, v2, rfl, hn1, ho2, hb⟩
  have hb1 := bthen (below_one w _) hb
  obtain ⟨a1, k1, rfl, s1, _⟩ := Sb.of_owns (l := nus exV) hn1
  obtain ⟨a2, k2, rfl, s2, _⟩ := SlV.of_own ho2
  have hl1 : (nus exV).length = 3 := rfl
  have hl2 : (oth exV).length = 2 := rfl
  rw [hl1] at s1 ⊢
  rw [hl2] at s2 ⊢
  have hx : (oth exV)[1]? = some ⟨1, 6, ⟨#[]⟩⟩ := rfl
  rcases s2.2.2.2.2 with h5 | ⟨b, off, rfl, hlt, h5⟩
  · exact absurd h5 (by decide)
  obtain ⟨_, c2, _⟩ := h5 1 _ hx
  have HS1 := hide s1
  have HB1 := hide hb1
  clear s1 s2 hb hb1 h5 hn1 ho2 HSL hx
  go_wp2_with fail
  refine (bsame_yes a1 (some ⟨w1.heap.size, 0, none⟩) 3 k1 3 [false, true, false] _ (HS1.out.below (below_one w1 _)) (sb_three w1 false true false) (by decide)).mono ?_
  rintro e w2 ⟨rfl, hb2⟩
  have hb3 := bthen (below_one w1 _) hb2
  have e2 : w2.cell? ⟨b, off + 1 * 3 + 1, none⟩ = some (.int .i64 6) := by rw [hb3.cell (p := ⟨b, off + 1 * 3 + 1, none⟩) hlt]; exact c2
  have HS2 := hide (HS1.out.below hb3)
  have HB2 := hide (bthen HB1.out hb3)
  clear hb2 hb3 c2
  go_wp2_with fail
  refine (zcount_any a1 3 k1 [false, true, false] _ HS2.out (by decide)).mono ?_
  rintro e w3 ⟨rfl, hb3⟩
  have hc : ((cntT [false, true, false] : Nat) : Int) = 1 := rfl
  rw [hc]
  have HB3 := hide (bthen HB2.out hb3)
  clear hb3 hc
  go_wp2
  go_ret
  exact ⟨rfl, HB3.out⟩
end Go.Proofs.Ytbgofbajihdjdaa

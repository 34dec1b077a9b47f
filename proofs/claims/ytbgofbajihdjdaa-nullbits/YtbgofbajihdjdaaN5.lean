/- The walk of the statement: the bytes of places are as many as needed for a bit each; with eight more they are too short. -/
import Derived.Test.YtbgofbajihdjdaaT9
import Derived.Test.YtbgofbajihdjdaaTD
namespace Go.Proofs.Ytbgofbajihdjdaa
set_option linter.unusedVariables false
open Go.RowKit

theorem unp_eight (bs : List Bool) (h : bs.length ≤ 3000) : unpC (A.bytesOf bs) ((bs.length : Int) + 8) 1 = 3 := by
  have h1 : unpArg ((bs.length : Int) + 8) 1 = true := (unpArg_iff _ _).2 (by omega)
  unfold unpC
  rw [h1, if_pos rfl]
  have h2 : ((bs.length : Int) + 8).toNat * (1 : Int).toNat = bs.length + 8 := by
    rw [show ((bs.length : Int) + 8).toNat = bs.length + 8 by omega]
    exact Nat.mul_one _
  rw [h2]
  unfold jb
  rw [A.bytesOf_length, if_pos (by omega)]
  rfl
set_option maxHeartbeats 1000000 in
theorem nullBits_walk (w : World) (a : Option Addr) (len cap : Nat) (bs : List Bool) (hs : Sb w a len cap bs) (hr : cap * 1 ≤ 140737488351232) :
    Calls Try.prog 8 #[.slice a len cap] w fun e w' => e = .returned (.bool true) ∧ Below w.heap.size w w' := by
  have hlen : len ≤ 140737488351232 := by have := hs.2.1; omega
  have HS := hide hs
  clear hs hr
  go_enter Try.func8, Try.ntmps8
  go_wp2_with fail
  refine (nshown_any _).mono ?_
  rintro e w1 ⟨rfl, hb⟩
  have HB1 := hide hb
  clear hb
  by_cases hbig : 3000 < len
  · go_wp2
    go_ret
    exact ⟨rfl, HB1.out⟩
  · go_wp2_with fail
    refine (zbytes_any a len cap bs _ (HS.out.below HB1.out) (by omega)).mono ?_
    rintro e w2 ⟨v, rfl, ho, hb⟩
    obtain ⟨ab, cb, rfl, hsb, _⟩ := Sl.of_bytes ho
    have hl := A.bytesOf_length bs
    rw [HS.out.1] at hl
    rw [hl] at hsb ⊢
    have HSB := hide hsb
    have HB2 := hide (HB1.out.trans (hb.mono HB1.out.size))
    have HU := hide (unp_eight bs (by rw [HS.out.1]; omega))
    clear ho hb hsb hl
    go_wp2_with fail
    refine (zof_any ab ((len + 7) / 8) cb (A.bytesOf bs) ((len : Int) + 8) _ HSB.out (A.bytesOf_lt bs) (by omega)).mono ?_
    rintro e w3 ⟨v, rfl, ho, hb⟩
    rw [HS.out.1] at HU
    rw [HU.out]
    have HB3 := hide (HB2.out.trans (hb.mono HB2.out.size))
    clear ho hb
    go_wp2
    go_ret
    exact ⟨by simp, HB3.out⟩
end Go.Proofs.Ytbgofbajihdjdaa

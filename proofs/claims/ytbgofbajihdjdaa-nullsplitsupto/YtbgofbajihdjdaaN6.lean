/- The walk of the statement: values split, and values joined with places of nothing, are the document's. -/
import Derived.Test.YtbgofbajihdjdaaT5
import Derived.Test.YtbgofbajihdjdaaT8
import Derived.Test.YtbgofbajihdjdaaT9
namespace Go.Proofs.Ytbgofbajihdjdaa
set_option linter.unusedVariables false
open Go.RowKit

set_option maxHeartbeats 4000000 in
theorem nullSplits_walkU (w : World) (a : Option Addr) (len cap : Nat) (l : List Z.V) (hs : SlV w a len cap l) (hr : cap ≤ 1048576) (a1 : Option Addr) (len1 cap1 : Nat) (bs : List Bool) (hn : Sb w a1 len1 cap1 bs) (hr1 : cap1 ≤ 1048576) (a2 : Option Addr) (len2 cap2 : Nat) (m : List Z.V) (hs2 : SlV w a2 len2 cap2 m) (hr2 : cap2 ≤ 1048576) :
    Calls Try.prog 3 #[.slice a len cap, .slice a1 len1 cap1, .slice a2 len2 cap2] w fun e w' => e = .returned (.bool true) ∧ Below w.heap.size w w' := by
  have hlen : len ≤ 1048576 := by have := hs.2.1; omega
  have hlen1 : len1 ≤ 1048576 := by have := hn.2.1; omega
  have hlen2 : len2 ≤ 1048576 := by have := hs2.2.1; omega
  have HS := hide hs
  have HN := hide hn
  have HM := hide hs2
  have HOL : Hid ((oth l).length ≤ 1048576) := by
    show _ ≤ _
    have := oth_le l l.length
    rw [List.take_length, hs.1] at this
    omega
  have HJL : Hid ((joinL bs m).length ≤ 1048576) := by
    show _ ≤ _
    unfold joinL
    split
    · rw [joinV_length, hn.1]; exact hlen1
    · simp
  have HNL : Hid ((nus l).length = len) := by show _ = _; rw [nus_length, hs.1]
  obtain ⟨c, hc⟩ : ∃ c, cntT bs = c := ⟨_, rfl⟩
  obtain ⟨E, hE⟩ : ∃ E, joinE bs m = E := ⟨_, rfl⟩
  have HC := hide hc
  have HE := hide hE
  clear hs hn hs2 hr hr1 hr2 hc hE
  go_enter Try.func3, Try.ntmps3
  go_wp2_with fail
  refine (nshown_any _).mono ?_
  rintro e w1 ⟨rfl, hb⟩
  have b0 := hide hb
  clear hb
  go_wp2_with fail
  refine (zsplit_any a len cap l _ (HS.out.below b0.out) (by omega)).mono ?_
  rintro e w2 ⟨v1, v2, rfl, hn1, ho2, hb⟩
  obtain ⟨p1, c1, rfl, s1, _⟩ := Sb.of_owns (l := nus l) (by rw [HNL.out]; exact hn1)
  obtain ⟨p2, c2, rfl, s2, _⟩ := SlV.of_own ho2
  rw [HNL.out] at s1 ⊢
  have HS1 := hide s1
  have HS2 := hide s2
  replace b0 := hide (bthen b0.out hb)
  clear hn1 ho2 hb s1 s2
  go_wp2_with fail
  refine (ysplit_any a len cap l _ (HS.out.below b0.out) (by omega)).mono ?_
  rintro e w3 ⟨v1, v2, rfl, hn1, ho2, hb⟩
  obtain ⟨p3, c3, rfl, s3, _⟩ := Sb.of_owns (l := nus l) (by rw [HNL.out]; exact hn1)
  obtain ⟨p4, c4, rfl, s4, _⟩ := SlV.of_own ho2
  rw [HNL.out] at s3 ⊢
  replace HS1 := hide (HS1.out.below hb)
  replace HS2 := hide (HS2.out.below hb)
  have HS3 := hide s3
  have HS4 := hide s4
  replace b0 := hide (bthen b0.out hb)
  clear hn1 ho2 hb s3 s4
  go_wp2_with fail
  refine (zjoin_any a1 len1 cap1 bs a2 len2 cap2 m _ (HN.out.below b0.out) (HM.out.below b0.out) (by omega) (by omega)).mono ?_
  rintro e w4 ⟨v5, rfl, ho5, hb⟩
  obtain ⟨p5, c5, rfl, s5, _⟩ := SlV.of_own ho5
  replace HS1 := hide (HS1.out.below hb)
  replace HS2 := hide (HS2.out.below hb)
  replace HS3 := hide (HS3.out.below hb)
  replace HS4 := hide (HS4.out.below hb)
  have HS5 := hide s5
  replace b0 := hide (bthen b0.out hb)
  rw [HE.out]
  clear ho5 hb s5
  go_wp2_with fail
  refine (yjoin_any a1 len1 cap1 bs a2 len2 cap2 m _ (HN.out.below b0.out) (HM.out.below b0.out) (by omega) (by omega)).mono ?_
  rintro e w5 ⟨v6, rfl, ho6, hb⟩
  obtain ⟨p6, c6, rfl, s6, _⟩ := SlV.of_own ho6
  replace HS1 := hide (HS1.out.below hb)
  replace HS2 := hide (HS2.out.below hb)
  replace HS3 := hide (HS3.out.below hb)
  replace HS4 := hide (HS4.out.below hb)
  replace HS5 := hide (HS5.out.below hb)
  have HS6 := hide s6
  replace b0 := hide (bthen b0.out hb)
  rw [HE.out]
  clear ho6 hb s6
  obtain ⟨no, hno⟩ : ∃ no, (oth l).length = no := ⟨_, rfl⟩
  obtain ⟨nj, hnj⟩ : ∃ nj, (joinL bs m).length = nj := ⟨_, rfl⟩
  rw [hno] at HS2 HS4 HOL ⊢
  rw [hnj] at HS5 HS6 HJL ⊢
  have HOL2 := HOL.out
  have HJL2 := HJL.out
  clear hno hnj
  go_wp2_with fail
  refine (bsame_yes p1 p3 len c1 c3 (nus l) _ HS1.out HS3.out (by omega)).mono ?_
  rintro e w6 ⟨rfl, hb⟩
  replace b0 := hide (bthen b0.out hb)
  replace HS2 := hide (HS2.out.below hb)
  replace HS4 := hide (HS4.out.below hb)
  replace HS5 := hide (HS5.out.below hb)
  replace HS6 := hide (HS6.out.below hb)
  clear hb HS1 HS3
  go_wp2_with fail
  refine (vsame_yes p2 p4 no c2 c4 (oth l) _ HS2.out HS4.out (by omega)).mono ?_
  rintro e w7 ⟨rfl, hb⟩
  replace b0 := hide (bthen b0.out hb)
  replace HS5 := hide (HS5.out.below hb)
  replace HS6 := hide (HS6.out.below hb)
  clear hb HS2 HS4
  go_wp2_with fail
  refine (vsame_yes p5 p6 nj c5 c6 (joinL bs m) _ HS5.out HS6.out (by omega)).mono ?_
  rintro e w8 ⟨rfl, hb⟩
  replace b0 := hide (bthen b0.out hb)
  clear hb HS5 HS6
  have hEE : (E == E) = true := by simp
  go_wp2_with fail
  refine (zcount_any a1 len1 cap1 bs _ (HN.out.below b0.out) (by omega)).mono ?_
  rintro e w9 ⟨rfl, hb⟩
  replace b0 := hide (bthen b0.out hb)
  rw [HC.out]
  clear hb
  go_wp2_with fail
  refine (ycount_any a1 len1 cap1 bs _ (HN.out.below b0.out) (by omega)).mono ?_
  rintro e w10 ⟨rfl, rfl⟩
  rw [HC.out]
  go_wp2
  go_ret
  exact ⟨by simp, b0.out⟩
end Go.Proofs.Ytbgofbajihdjdaa

/- The contract of leb's toText. -/
import Derived.Test.YtahpbenobhodnaaE5
import Derived.Deep.RegionWith
namespace Go.Proofs.Ytahpbenobhodnaa
set_option linter.unusedVariables false
open Go.RowKit

set_option maxHeartbeats 1000000 in
theorem totext_in (ao : Option Addr) (len cap : Nat) (l : List Nat) (most : Int) (w : World) (h : Sl w .u8 ao len cap (ints l)) (h256 : ∀ x ∈ l, x < 256) (hm : len ≤ 140737488355328) (hm0 : -9223372036854775808 ≤ most) (hm1 : most < 9223372036854775808) :
    Calls Try.prog 58 #[.slice ao len cap, .int .i64 most] w fun e w' =>
      ((E.xE most l = 0 ∧ ∃ a2 c2, e = .returned (.tuple #[.string (strOfNums (ints (E.xS l))), .slice a2 (E.xR l).length c2]) ∧ Sl w' .u8 a2 (E.xR l).length c2 (ints (E.xR l))) ∨ (E.xE most l ≠ 0 ∧ e = pan ((E.xE most l : Nat) : Int))) ∧ Below w.heap.size w w' := by
  have hlen : l.length = len := by rw [← h.1, ints_length]
  have HL := hide hlen
  have HS := hide h
  have H2 := hide h256
  have hcap := h.2.1
  clear hlen h h256
  go_enter Try.func58, Try.ntmps58
  go_wp2_with fail
  refine (get_in _ _ _ l _ HS.out H2.out hm).mono ?_
  rintro e w1 ⟨⟨hg, rfl⟩ | ⟨hg, rfl⟩, rfl⟩
  case inr =>
    have HG := hide hg
    clear hg
    unfold pan
    go_wp2
    exact ⟨rfl, .inr ⟨by rw [E.xE_bad HG.out]; exact HG.out, by rw [E.xE_bad HG.out]; rfl⟩, Below.refl _ _⟩
  obtain ⟨k1, k2, k3, k4, k5, k6⟩ := E.gE_zero hg H2.out
  have hnl := E.gN_lt H2.out
  have HG := hide hg
  clear hg k3 k4 k5
  obtain ⟨N, hN⟩ : ∃ N : Int, ((E.gN l : Nat) : Int) = N := ⟨_, rfl⟩
  have hN0 : 0 ≤ N := by omega
  have hN1 : N < 18446744073709551616 := by omega
  obtain ⟨K, hK⟩ : ∃ K : Nat, E.gK l = K := ⟨_, rfl⟩
  have hK1 : K ≤ len := by have := HL.out; omega
  rw [hN, hK]
  have HN := hide hN
  have HK := hide hK
  clear hN hK k1 k2 k6 hnl
  by_cases c1 : most < 0
  · go_wp2
    have hx := E.xE_range (most := most) HG.out (.inl c1)
    exact ⟨rfl, .inr ⟨by rw [hx]; decide, by rw [hx]; rfl⟩, Below.refl _ _⟩
  · have c1' : 0 ≤ most := by omega
    by_cases c2 : most < N
    · go_wp2
      have hx := E.xE_range (most := most) HG.out (.inr (by rw [HN.out]; exact c2))
      exact ⟨rfl, .inr ⟨by rw [hx]; decide, by rw [hx]; rfl⟩, Below.refl _ _⟩
    · have c2' : N ≤ most := by omega
      clear c1 c2
      go_wp2_with fail
      refine (cut_any _ _ _ l K _ HS.out hK1).mono ?_
      rintro e w2 ⟨a2, rfl, hk2, _, hs2, _⟩
      have HS2 := hide hs2
      have HB2 := hide hk2
      clear hs2 hk2
      by_cases c3 : ((len - K : Nat) : Int) < N
      · go_wp2
        have hx := E.xE_short (most := most) HG.out c1' (by rw [HN.out]; exact c2') (by have := HN.out; have := HL.out; have := HK.out; omega)
        exact ⟨rfl, .inr ⟨by rw [hx]; decide, by rw [hx]; rfl⟩, HB2.out.below (Nat.le_refl _) (by simp)⟩
      · have c3' : N ≤ ((len - K : Nat) : Int) := by omega
        clear c3
        go_wp2_with fail
        refine (cut_i _ _ _ (l.drop K) N _ HS2.out hN0 c3').mono ?_
        rintro e w3 ⟨a3, rfl, hk3, hs3, hs4, _⟩
        have hdr := (Kept.refl (fun _ => False) w3).drew
        have HS3 := hide (hs3.kept hdr (by simp))
        have HS4 := hide (hs4.kept hdr (by simp))
        have HB3 := hide ((HB2.out.trans hk3).trans hdr)
        have hcv := str_of HS3.out
        clear hdr
        have HC3 := hide c3'
        have HC2 := hide c2'
        clear hs3 hs4 hk3 c3' c2' hN1
        go_wp2
        go_region_with (go_at_call 64; refine (own_any _ _ _ _ _ HS4.out (by omega)).mono ?_; rintro e w4 ⟨a4, c4, rfl, hs5, hb5⟩; have hcv2 := str_of (HS3.out.below hb5))
        all_goals
          clear hcv hcv2
          go_wp2
          go_ret2
          have hsK : N.toNat = E.gN l := by have := HN.out; omega
          have hx := E.xE_ok (most := most) HG.out c1' (by rw [HN.out]; exact HC2.out) (by have := HL.out; have := HK.out; have := HC3.out; omega)
          have eS : (l.drop K).take N.toNat = E.xS l := by rw [E.xS, HK.out, hsK]
          have eR : (l.drop K).drop N.toNat = E.xR l := by rw [E.xR, HK.out, hsK]
          have eL : len - K - N.toNat = (E.xR l).length := by rw [← eR, List.length_drop, List.length_drop, HL.out]
          rw [eR, eL] at hs5
          exact ⟨.inl ⟨hx, a4, c4, by rw [← eS, ← eL]; rfl, hs5⟩, (HB3.out.below (Nat.le_refl _) (by simp)).trans (hb5.mono HB3.out.size)⟩
end Go.Proofs.Ytahpbenobhodnaa

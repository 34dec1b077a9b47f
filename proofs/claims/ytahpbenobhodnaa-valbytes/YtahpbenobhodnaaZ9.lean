/- The contract of the reference's Bytes. -/
import Derived.Test.YtahpbenobhodnaaZ8
import Derived.Test.YtahpbenobhodnaaG3
namespace Go.Proofs.Ytahpbenobhodnaa
set_option linter.unusedVariables false
open Go.RowKit

set_option maxHeartbeats 1000000 in
theorem ubytes_any (k i : Int) (s : ByteArray) (w : World) (hi : Z.I64 i) :
    Calls Try.prog 11 #[.agg #[.int .i64 k, .int .i64 i, .string s]] w (BytesOf ⟨k, i, s⟩ w) := by
  have hA := At.new w k i s
  have b0 := hide (below_one w (.cells #[.int .i64 k, .int .i64 i, .string s] 23))
  cases hm : Z.may ⟨k, i, s⟩ with
  | false =>
    have HM := hide hm
    go_enter Try.func11, Try.ntmps11
    go_wp2_with fail
    refine (umay_any _ _ _ _ hi).mono ?_
    rintro e w1 ⟨rfl, hb⟩
    rw [HM.out]
    replace b0 := hide (bthen b0.out hb)
    clear hb hA hm
    go_wp2
    go_ret2
    exact BytesOf.no HM.out b0.out
  | true =>
    have HM := hide hm
    clear hm
    by_cases k1 : k = 1
    · subst k1
      go_enter Try.func11, Try.ntmps11
      go_wp2_with fail
      refine (umay_any _ _ _ _ hi).mono ?_
      rintro e w1 ⟨rfl, hb⟩
      rw [HM.out]
      replace b0 := hide (bthen b0.out hb)
      replace hA := hA.below hb
      obtain ⟨a1, a2, a3⟩ := hA.cells
      clear hb
      replace hA := hide hA
      go_wp2_with fail
      refine (rzig_any _ _ hi.1 hi.2).mono ?_
      rintro e w2 ⟨rfl, rfl⟩
      go_wp2_with fail
      refine (rput_any _ _ (by omega) (by have := E.zig_lt i hi.1 hi.2; omega)).mono ?_
      rintro e w3 ⟨v3, rfl, ho3, hb⟩
      rw [Int.toNat_natCast] at ho3
      obtain ⟨q1, q2, rfl, hs, _⟩ := Sl.of_bytes ho3
      replace b0 := hide (bthen b0.out hb)
      replace hs := hide hs
      clear hb ho3 a1 a2 a3 hA
      go_wp2
      go_ret2
      exact BytesOf.yes HM.out lb_int rfl hs.out b0.out
    · by_cases k2 : k = 2
      · subst k2
        have HU : Hid (IntKind.u64.wrap i = Z.u i) := u64_wrap i
        have HI := Z.u_in i
        have HK := D.ky_in HI
        go_enter Try.func11, Try.ntmps11
        go_wp2_with fail
        refine (umay_any _ _ _ _ hi).mono ?_
        rintro e w1 ⟨rfl, hb⟩
        rw [HM.out]
        replace b0 := hide (bthen b0.out hb)
        replace hA := hA.below hb
        obtain ⟨a1, a2, a3⟩ := hA.cells
        clear hb
        replace hA := hide hA
        go_wp2_with fail
        rw [HU.out]
        refine (rkey_any _ _ HI.1 HI.2).mono ?_
        rintro e w2 ⟨rfl, rfl⟩
        obtain ⟨n, hn⟩ : ∃ n, D.ky (Z.u i) = n := ⟨_, rfl⟩
        rw [hn] at HK ⊢
        obtain ⟨n0, n1⟩ := HK
        have HN := hide hn
        clear hn HI HU hi
        have hmk := make_eight
        clear a2 a3
        go_wp2_with fail
        go_rounds 9
        go_ret2
        have h := Sl.eight w2 5 (n / 256 / 256 / 256 / 256 / 256 / 256 / 256 % 256) (n / 256 / 256 / 256 / 256 / 256 / 256 % 256) (n / 256 / 256 / 256 / 256 / 256 % 256) (n / 256 / 256 / 256 / 256 % 256) (n / 256 / 256 / 256 % 256) (n / 256 / 256 % 256) (n / 256 % 256) (n % 256)
        have e : ints (Z.k8 n.toNat) = [n / 256 / 256 / 256 / 256 / 256 / 256 / 256 % 256, n / 256 / 256 / 256 / 256 / 256 / 256 % 256, n / 256 / 256 / 256 / 256 / 256 % 256, n / 256 / 256 / 256 / 256 % 256, n / 256 / 256 / 256 % 256, n / 256 / 256 % 256, n / 256 % 256, n % 256] := by
          simp only [ints, Z.k8, List.map_cons, List.map_nil, List.cons.injEq, and_true]
          omega
        exact BytesOf.yes (l := Z.k8 n.toNat) HM.out (by rw [lb_float, HN.out]) rfl (by rw [e]; exact h) (bthen b0.out (below_one w2 _))
      · by_cases k3 : k = 3
        · subst k3
          have hsz := may_size HM.out
          go_enter Try.func11, Try.ntmps11
          go_wp2_with fail
          refine (umay_any _ _ _ _ hi).mono ?_
          rintro e w1 ⟨rfl, hb⟩
          rw [HM.out]
          replace b0 := hide (bthen b0.out hb)
          replace hA := hA.below hb
          obtain ⟨a1, a2, a3⟩ := hA.cells
          clear hb
          replace hA := hide hA
          go_wp2_with fail
          refine (rtext_any _ _ (by omega)).mono ?_
          rintro e w3 ⟨v3, rfl, ho3, hb⟩
          obtain ⟨q1, q2, rfl, hs, _⟩ := Sl.of_bytes ho3
          replace b0 := hide (bthen b0.out hb)
          replace hs := hide hs
          clear hb ho3 a1 a2 a3 hA
          go_wp2
          go_ret2
          exact BytesOf.yes HM.out lb_text List.length_append (by rw [← List.length_append]; exact hs.out) b0.out
        · go_enter Try.func11, Try.ntmps11
          go_wp2_with fail
          refine (umay_any _ _ _ _ hi).mono ?_
          rintro e w1 ⟨rfl, hb⟩
          rw [HM.out]
          replace b0 := hide (bthen b0.out hb)
          replace hA := hA.below hb
          obtain ⟨a1, a2, a3⟩ := hA.cells
          clear hb
          replace hA := hide hA
          go_wp2
          go_ret2
          exact BytesOf.yes HM.out (lb_else k1 k2 k3) rfl (Sl.nil _ _) b0.out
end Go.Proofs.Ytahpbenobhodnaa

/- The contract of the reference's ToText. -/
import Derived.Test.YtahpbenobhodnaaV4
import Derived.Test.YtahpbenobhodnaaY
namespace Go.Proofs.Ytahpbenobhodnaa
set_option linter.unusedVariables false
open Go.RowKit

theorem conv_ui (w : World) (n : Int) (h0 : 0 ≤ n) (h1 : n < 9223372036854775808) : (convert 48 3 (.int .u64 n)).run Try.prog w = .ok (.int .i64 n) w := by
  simp [go_sem, IntKind.wrap_i64]; omega
theorem add_kn (w : World) (K : Nat) (N : Int) (h0 : 0 ≤ N) (h1 : (K : Int) + N < 9223372036854775808) : (binOp .add 3 (.int .i64 (K : Int)) (.int .i64 N)).run Try.prog w = .ok (.int .i64 ((K + N.toNat : Nat) : Int)) w := by
  have e : ((K + N.toNat : Nat) : Int) = (K : Int) + N := by omega
  rw [e]
  simp [go_sem, IntKind.wrap_i64]; omega

def totextTbl (ao : Option Addr) (len cap K : Nat) (N : Int) (l : List Nat) : List (Nat × V.Ent) :=
   [(0, V.Ent.is (.slice ao len cap)),
    (8, V.Ent.is (.int .i64 (K : Int))),
    (7, V.Ent.is (.int .u64 N)),
    (34, V.Ent.is (.slice ao len cap)),
    (35, V.Ent.is (.int .i64 (K : Int))),
    (36, V.Ent.is (.int .i64 (K : Int))),
    (37, V.Ent.is (.int .u64 N)),
    (38, V.Ent.is (.int .i64 N)),
    (39, V.Ent.is (.int .i64 ((K + N.toNat : Nat) : Int))),
    (40, V.Ent.sl ((K + N.toNat - K)) (((l.take (K + N.toNat)).drop K))),
    (41, V.Ent.is (.string (strOfNums (ints (((l.take (K + N.toNat)).drop K)))))),
    (42, V.Ent.is (.slice ao len cap)),
    (43, V.Ent.is (.int .i64 (K : Int))),
    (44, V.Ent.is (.int .u64 N)),
    (45, V.Ent.is (.int .i64 N)),
    (46, V.Ent.is (.int .i64 ((K + N.toNat : Nat) : Int))),
    (47, V.Ent.sl ((len - (K + N.toNat))) ((l.drop (K + N.toNat)))),
    (4, V.Ent.is (.string (strOfNums (ints (((l.take (K + N.toNat)).drop K)))))),
    (5, V.Ent.sl ((len - (K + N.toNat))) ((l.drop (K + N.toNat)))),
    (6, V.Ent.is (.int .i64 0))]

set_option maxHeartbeats 2000000 in
theorem rtotext_any (ao : Option Addr) (len cap : Nat) (l : List Nat) (most : Int) (w : World) (h : Sl w .u8 ao len cap (ints l)) (h256 : ∀ x ∈ l, x < 256) (hm : len ≤ 140737488355328) (hm0 : -9223372036854775808 ≤ most) (hm1 : most < 9223372036854775808) :
    Calls Try.prog 36 #[.slice ao len cap, .int .i64 most] w fun e w' => ∃ v1 v2, e = .returned (.tuple #[v1, v2, .int .i64 ((E.xE most l : Nat) : Int)]) ∧ TextAns most l w.heap.size w' v1 v2 ∧ Below w.heap.size w w' := by
  have hlen : l.length = len := by rw [← h.1, ints_length]
  have HL := hide hlen
  have HS := hide h
  have H2 := hide h256
  have hcap := h.2.1
  clear hlen h h256
  obtain ⟨G, hG⟩ : ∃ G : Int, ((E.gE l : Nat) : Int) = G := ⟨_, rfl⟩
  obtain ⟨N, hN⟩ : ∃ N : Int, ((E.gN l : Nat) : Int) = N := ⟨_, rfl⟩
  obtain ⟨K, hK⟩ : ∃ K : Nat, E.gK l = K := ⟨_, rfl⟩
  have hnl := E.gN_lt H2.out
  have hN0 : 0 ≤ N := by omega
  have hN1 : N < 18446744073709551616 := by omega
  have HGG := hide hG
  have HN := hide hN
  have HK := hide hK
  by_cases hg : E.gE l = 0
  · obtain ⟨k1, k2, _, _, _, _⟩ := E.gE_zero hg H2.out
    have hK1 : K ≤ len := by have := HL.out; omega
    have hG0 : G = 0 := by omega
    subst hG0
    have HG := hide hg
    clear hg hG hN hK hnl k1 k2
    go_enter Try.func36, Try.ntmps36
    go_wp2_with fail
    refine (rget_any _ _ _ l _ HS.out H2.out hm).mono ?_
    rintro e w1 ⟨rfl, rfl⟩
    rw [HGG.out, HN.out, HK.out]
    by_cases c1 : most < 0
    · go_wp2
      go_ret3
      have hx := E.xE_range (most := most) HG.out (.inl c1)
      exact ⟨_, _, by rw [hx]; rfl, TextAns.bad (by rw [hx]; decide), Below.refl _ _⟩
    · have c1' : 0 ≤ most := by omega
      by_cases c2 : most < N
      · go_wp2
        go_ret3
        have hx := E.xE_range (most := most) HG.out (.inr (by rw [HN.out]; exact c2))
        exact ⟨_, _, by rw [hx]; rfl, TextAns.bad (by rw [hx]; decide), Below.refl _ _⟩
      · have c2' : N ≤ most := by omega
        by_cases c3 : (len : Int) - (K : Int) < N
        · clear c1 c2
          go_wp2
          go_ret3
          have hx := E.xE_short (most := most) HG.out c1' (by rw [HN.out]; exact c2') (by have := HN.out; have := HL.out; have := HK.out; omega)
          exact ⟨_, _, by rw [hx]; rfl, TextAns.bad (by rw [hx]; decide), Below.refl _ _⟩
        · have c3' : N ≤ (len : Int) - (K : Int) := by omega
          have hN63 : N < 9223372036854775808 := by omega
          clear c1 c2 c3
          go_wp2
          refine V.wp_region (w0 := w1) [0, 8, 7] (totextTbl ao len cap K N l) (by kernel_rfl) (by kernel_rfl) (Below.refl _ _) ?hb ?hs ?hd
          case hb =>
            intro d hd
            simp only [List.mem_cons, List.not_mem_nil, or_false] at hd
            rcases hd with rfl | rfl | rfl <;> rfl
          case hs =>
            refine ⟨?_, ?_, ?_, ?_, ?_, ?_, ?_, ?_, ?_, ?_, ?_, ?_, ?_, ?_, ?_, ?_, ?_, trivial⟩
            · exact V.Step.move (.inl rfl) (.inl rfl) (.inl ⟨_, rfl⟩) (fun _ h => by cases h; rfl)
            · exact V.Step.move (.inl rfl) (.inl rfl) (.inl ⟨_, rfl⟩) (fun _ h => by cases h; rfl)
            · exact V.Step.move (.inl rfl) (.inl rfl) (.inl ⟨_, rfl⟩) (fun _ h => by cases h; rfl)
            · exact V.Step.move (.inl rfl) (.inl rfl) (.inl ⟨_, rfl⟩) (fun _ h => by cases h; rfl)
            · exact V.Step.conv (.inl rfl) rfl rfl (fun w => conv_ui w N hN0 hN63) (fun _ h => by cases h; rfl)
            · exact V.Step.bin (v1 := .int .i64 (K : Int)) (v2 := .int .i64 N) (v := .int .i64 ((K + N.toNat : Nat) : Int)) (.inl rfl) rfl (.inl ⟨_, rfl⟩) (.inl ⟨_, rfl⟩) rfl rfl (fun w => ⟨rfl, add_kn w K N hN0 (by omega)⟩) (fun _ h => by cases h; rfl)
            · exact V.Step.part (.inl rfl) rfl rfl rfl rfl HS.out (by omega) (by omega) (fun _ h => by cases h; rfl)
            · exact V.Step.str (.inl rfl) rfl rfl (fun _ h => by cases h; rfl)
            · exact V.Step.move (.inl rfl) (.inl rfl) (.inl ⟨_, rfl⟩) (fun _ h => by cases h; rfl)
            · exact V.Step.move (.inl rfl) (.inl rfl) (.inl ⟨_, rfl⟩) (fun _ h => by cases h; rfl)
            · exact V.Step.move (.inl rfl) (.inl rfl) (.inl ⟨_, rfl⟩) (fun _ h => by cases h; rfl)
            · exact V.Step.conv (.inl rfl) rfl rfl (fun w => conv_ui w N hN0 hN63) (fun _ h => by cases h; rfl)
            · exact V.Step.bin (v1 := .int .i64 (K : Int)) (v2 := .int .i64 N) (v := .int .i64 ((K + N.toNat : Nat) : Int)) (.inl rfl) rfl (.inl ⟨_, rfl⟩) (.inl ⟨_, rfl⟩) rfl rfl (fun w => ⟨rfl, add_kn w K N hN0 (by omega)⟩) (fun _ h => by cases h; rfl)
            · exact V.Step.rest (.inl rfl) rfl rfl rfl HS.out (by omega) (fun _ h => by cases h; rfl)
            · exact V.Step.move (.inl rfl) (.inr rfl) (.inl ⟨_, rfl⟩) (fun _ h => by cases h; rfl)
            · exact V.Step.move (.inl rfl) (.inr rfl) (.inl ⟨_, rfl⟩) (fun _ h => by cases h; rfl)
            · exact V.Step.move (.inl rfl) (.inr rfl) (.inr ⟨_, rfl⟩) (fun _ h => by cases h; rfl)
          case hd =>
            intro a1 w2 hw2 hdf hk
            have h4 : a1.tmps[4]?.getD undef = .string (strOfNums (ints ((l.take (K + N.toNat)).drop K))) := V.slot_of (hk 14 _ 4 rfl rfl)
            obtain ⟨a5, c5, h5, hs5⟩ := hk 15 _ 5 rfl rfl
            have h5' := V.slot_of h5
            have h6 : a1.tmps[6]?.getD undef = .int .i64 0 := V.slot_of (hk 16 _ 6 rfl rfl)
            go_wp2
            have hsK : N.toNat = E.gN l := by have := HN.out; omega
            have hx := E.xE_ok (most := most) HG.out c1' (by rw [HN.out]; exact c2') (by have := HL.out; have := HK.out; omega)
            have eS : (l.take (K + N.toNat)).drop K = E.yS most l := by
              unfold E.yS; rw [if_pos hx, E.xS, HK.out, hsK, List.drop_take, Nat.add_sub_cancel_left]
            have eR : l.drop (K + N.toNat) = E.yR most l := by
              unfold E.yR; rw [if_pos hx, E.xR, HK.out, hsK, List.drop_drop]
            have eL : len - (K + N.toNat) = (E.yR most l).length := by rw [← eR, List.length_drop, HL.out]
            refine bodyPost_ret (v := .tuple #[.string (strOfNums (ints ((l.take (K + N.toNat)).drop K))), .slice a5 (len - (K + N.toNat)) c5, .int .i64 0]) (by simp [results, Try.results36, h4, h5', h6, go_sem]) hdf ⟨_, _, by rw [hx]; rfl, ?_, hw2⟩
            rw [eS, eL]
            rw [eR, eL] at hs5
            exact ⟨rfl, a5, c5, rfl, hs5⟩
  · have hGb : (G != 0) = true := by simp; omega
    have HG := hide hg
    clear hg hG hN hK hnl
    go_enter Try.func36, Try.ntmps36
    go_wp2_with fail
    refine (rget_any _ _ _ l _ HS.out H2.out hm).mono ?_
    rintro e w1 ⟨rfl, rfl⟩
    rw [HGG.out, HN.out, HK.out]
    go_wp2
    go_ret3
    have hx := E.xE_bad (most := most) HG.out
    exact ⟨_, _, by rw [hx, HGG.out]; rfl, TextAns.bad (by rw [hx]; exact HG.out), Below.refl _ _⟩
end Go.Proofs.Ytahpbenobhodnaa

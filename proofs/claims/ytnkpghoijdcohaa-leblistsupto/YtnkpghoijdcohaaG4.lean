/- The contract of the reference's ToInts. -/
import Derived.Test.YtnkpghoijdcohaaG3
namespace Go.Proofs.Ytnkpghoijdcohaa
set_option linter.unusedVariables false
open Go.RowKit

set_option maxHeartbeats 400000 in
theorem rtoints_neg (ao : Option Addr) (len cap : Nat) (n : Int) (w : World) (hn : n < 0) :
    Calls Try.prog 20 #[.slice ao len cap, .int .i64 n] w fun e w' => e = .returned (.tuple #[.slice none 0 0, .slice none 0 0, .int .i64 1]) ∧ w' = w := by
  go_enter Try.func20, Try.ntmps20
  go_wp2
  go_ret3
  exact ⟨rfl, rfl⟩

theorem slice_y (a : Option Addr) (cap i : Nat) : (if cap = i then a else a.map (·.add (i * 1))) = (if cap = i then a else a.map (·.add i)) := by rw [Nat.mul_one]

set_option maxHeartbeats 2000000 in
theorem rtoints_pos (ao : Option Addr) (len cap : Nat) (l : List Nat) (n : Int) (w : World) (h : Sl w .u8 ao len cap (ints l)) (h256 : ∀ x ∈ l, x < 256) (hm : len ≤ 1099511627776) (hn0 : 0 ≤ n) (hn1 : n < 9223372036854775808) :
    Calls Try.prog 20 #[.slice ao len cap, .int .i64 n] w fun e w' =>
      ((E.tE n.toNat l = 0 ∧ ∃ a1 c1 a2 c2, e = .returned (.tuple #[.slice a1 (E.tL n.toNat l).length c1, .slice a2 (E.tR n.toNat l).length c2, .int .i64 0]) ∧ Sl w' .i64 a1 (E.tL n.toNat l).length c1 (E.tL n.toNat l) ∧ Sl w' .u8 a2 (E.tR n.toNat l).length c2 (ints (E.tR n.toNat l)) ∧ ∀ x, a1 = some x → w.heap.size ≤ x.block) ∨ (E.tE n.toNat l ≠ 0 ∧ e = .returned (.tuple #[.slice none 0 0, .slice none 0 0, .int .i64 ((E.tE n.toNat l : Nat) : Int)]))) ∧ Below w.heap.size w w' := by
  obtain ⟨i0, hi, hz0, hz1, hz2⟩ := info_parts Try.infoI64
  have hlen : l.length = len := by rw [← h.1, ints_length]
  have HL := hide hlen
  have HS := hide h
  have H2 := hide h256
  obtain ⟨m, hmn⟩ : ∃ m : Nat, n.toNat = m := ⟨_, rfl⟩
  have HM := hide hmn
  rw [hmn]
  have hnd : decide (n < 0) = false := by simp; omega
  clear hlen h h256 hmn
  go_enter Try.func20, Try.ntmps20
  go_wp2_with fail
  go_loopw [0, 7, 8] (fun b v i wr => ∃ j : Nat, j ≤ m ∧ i = .int .i64 j ∧ E.tE j l = 0 ∧ (∃ a c, b = .slice a (E.tR j l).length c ∧ Sl wr .u8 a (E.tR j l).length c (ints (E.tR j l)) ∧ ((E.tR j l).length = 0 ∨ ∀ x, a = some x → x.block < w.heap.size)) ∧ wr.ownsRow w.heap.size 2 1 v j ((E.tL j l).map (Value.int .i64)) ∧ Below w.heap.size w wr) (fun _ _ i _ => m - (intOf i).toNat)
  case atStart =>
    refine ⟨0, Nat.zero_le _, rfl, rfl, ⟨ao, cap, ?_, ?_, ?_⟩, World.ownsRow_nil _ _ _ _, Below.refl _ _⟩
    · show _ = Value.slice ao l.length cap; rw [HL.out]
    · show Sl w .u8 ao l.length cap (ints l); rw [HL.out]; exact HS.out
    · show l.length = 0 ∨ _
      rcases HS.out.2.2.2.2 with h5 | ⟨b, off, rfl, hlt, _⟩
      · exact .inl (by rw [HL.out]; exact h5)
      · exact .inr fun x hx => by obtain rfl := Option.some.inj hx; exact hlt
  case round =>
    obtain ⟨j, hjm, rfl, hte, ⟨a, c, rfl, hsl, haw⟩, hown, hbel⟩ := hrel
    have hsz := hbel.size
    have hrl := E.tR_length j l H2.out hte
    rw [HL.out] at hrl
    have HT := hide hte
    have HSL := hide hsl
    have HAW := hide haw
    have HB := hide hbel
    have HR2 := hide (E.tR_lt j l H2.out)
    have hcl := hsl.2.1
    have hcm := hsl.2.2.1
    unfold maxLen at hcm
    clear hte hsl haw hbel
    by_cases hlt : j < m
    · have hjn : (j : Int) < n := by have := HM.out; omega
      obtain ⟨r, hr⟩ : ∃ r, E.tR j l = r := ⟨_, rfl⟩
      rw [hr] at HSL HAW hrl HR2 hcl
      rw [hr]
      have HR := hide hr
      clear hr
      obtain ⟨G, hG⟩ : ∃ G : Int, ((E.gE r : Nat) : Int) = G := ⟨_, rfl⟩
      have HGG := hide hG
      by_cases hg : E.gE r = 0
      · have hG0 : G = 0 := by omega
        subst hG0
        obtain ⟨k1, k2, _, _, _, _⟩ := E.gE_zero hg HR2.out
        have hnl := E.gN_lt HR2.out
        have HG := hide hg
        obtain ⟨N, hN⟩ : ∃ N : Int, ((E.gN r : Nat) : Int) = N := ⟨_, rfl⟩
        have hN0 : 0 ≤ N := by omega
        have hN1 : N < 18446744073709551616 := by omega
        obtain ⟨K, hK⟩ : ∃ K : Nat, E.gK r = K := ⟨_, rfl⟩
        have hK1 : K ≤ r.length := by omega
        have hK0 : 0 < K := by omega
        have HN := hide hN
        have HK := hide hK
        clear hg hG hN hK k1 k2 hnl
        go_wp2_with fail
        refine (rget_any _ _ _ r _ HSL.out HR2.out (by omega)).mono ?_
        rintro e w1 ⟨rfl, rfl⟩
        rw [HGG.out, HN.out, HK.out]
        go_wp2_with (first
          | (go_at_call 18; refine (rzag_any _ _ hN0 hN1).mono ?_; rintro e w' ⟨rfl, rfl⟩)
          | (at_builtin; refine wpList_append_to rfl _ _ 34 rfl w.heap.size 2 i0 (.int .i64 0) 1 8 Try.underlying34 hi hz0 hz1 hz2 rfl (by decide) _ _ _ rfl (hown.alloc _) (some ⟨World.heap _ |>.size, 0, none⟩) 1 1 [.int .i64 (E.zag N.toNat)] rfl (by simp) rfl (Sl.news1 _ _) (one_oneCell _ _) (by unfold maxLen; omega) (by omega) (by simp; omega) ?_))
        intro v2 w2 hown2 has2
        have hkAS : Kept (fun k => w.heap.size ≤ k) w' w2 := ((Kept.refl _ w').alloc _).trans' has2.1 (fun k hk => .inl (owns_lt hown hk).1)
        have hs2 : Sl w2 .u8 a r.length c (ints r) := HSL.out.kept0 hkAS (by rcases HAW.out with h | h; exact .inl h; exact .inr fun x hx => by have := h x hx; omega)
        have hb2 : Below w.heap.size w w2 := HB.out.trans (hkAS.below hsz (fun k hk => hk))
        have hpt := hs2.part K r.length hK1 (Nat.le_refl _)
        rw [List.take_of_length_le (by rw [ints_length]; omega), ← ints_drop] at hpt
        have HB2 := hide hb2
        have HO2 := hide hown2
        have hKl : (K : Int) ≤ (r.length : Int) := by omega
        have HREL : Hid (∀ (y : Option Addr) (d : Nat), (∀ x, y = some x → ∃ z, a = some z ∧ x.block = z.block) → Sl w2 .u8 y (r.length - K) d (ints (r.drop K)) →
            (∃ a c, Value.slice y (r.length - K) d = .slice a (E.tR (j + 1) l).length c ∧ Sl w2 .u8 a (E.tR (j + 1) l).length c (ints (E.tR (j + 1) l)) ∧ ((E.tR (j + 1) l).length = 0 ∨ ∀ x, a = some x → x.block < w.heap.size)) ∧ w2.ownsRow w.heap.size 2 1 v2 (j + 1) ((E.tL (j + 1) l).map (Value.int .i64)) ∧ E.tE (j + 1) l = 0) := by
          intro y d hy hsy
          have eR : E.tR (j + 1) l = r.drop K := by rw [E.tR_succ, HR.out, HK.out]
          have eL : E.tL (j + 1) l = E.tL j l ++ [E.zag N.toNat] := by rw [E.tL_succ, HR.out, ← HN.out, Int.toNat_natCast]
          refine ⟨⟨y, d, by rw [eR, List.length_drop], by rw [eR, List.length_drop]; exact hsy, ?_⟩, by rw [eL, List.map_append]; exact HO2.out, by rw [E.tE_succ _ _ HT.out, HR.out]; exact HG.out⟩
          rw [eR, List.length_drop]
          rcases HAW.out with h | h
          · exact .inl (by omega)
          · refine .inr fun x hx => ?_
            obtain ⟨z, hz, hxz⟩ := hy x hx
            rw [hxz]; exact h z hz
        by_cases hcK : c = K
        · rw [if_pos hcK, hcK, Nat.sub_self] at hpt
          have HPT := hide hpt
          clear hkAS hs2 hb2 hown2 has2 hown hpt
          go_wp2
          go_roundw
          case rel =>
            obtain ⟨e1, e2, e3⟩ := HREL.out a 0 (fun x hx => ⟨x, hx, rfl⟩) HPT.out
            exact ⟨j + 1, hlt, by go_num, e3, e1, e2, HB2.out⟩
          case measure => simp [intOf]; omega
        · rw [if_neg hcK, Nat.mul_one] at hpt
          have HPT := hide hpt
          clear hkAS hs2 hb2 hown2 has2 hown hpt
          go_wp2
          go_roundw
          case rel =>
            obtain ⟨e1, e2, e3⟩ := HREL.out (a.map (·.add K)) (c - K) (fun x hx => by
              cases a with
              | none => simp at hx
              | some z => simp at hx; exact ⟨z, rfl, by rw [← hx, add_block]⟩) HPT.out
            exact ⟨j + 1, hlt, by go_num, e3, e1, e2, HB2.out⟩
          case measure => simp [intOf]; omega
      · have hGb : (G != 0) = true := by simp; omega
        have HG := hide hg
        clear hg hG
        go_wp2_with fail
        refine (rget_any _ _ _ r _ HSL.out HR2.out (by omega)).mono ?_
        rintro e w1 ⟨rfl, rfl⟩
        rw [HGG.out]
        obtain ⟨N, hN⟩ : ∃ N : Int, ((E.gN r : Nat) : Int) = N := ⟨_, rfl⟩
        obtain ⟨K, hK⟩ : ∃ N : Int, ((E.gK r : Nat) : Int) = N := ⟨_, rfl⟩
        rw [hN, hK]
        clear hN hK
        go_wp2
        go_ret3
        have hx := E.tE_stop HT.out hlt (by rw [HR.out]; exact HG.out)
        rw [HR.out] at hx
        exact ⟨.inr ⟨by rw [hx]; exact HG.out, by rw [hx, HGG.out]; rfl⟩, HB.out⟩
    · have hjm' : j = m := by omega
      have hjn : ¬ (j : Int) < n := by have := HM.out; omega
      subst hjm'
      clear hlt
      have HO := hide hown
      obtain ⟨a1, c1, hv1, hsl1, hob⟩ := Sl.of_owns (l := E.tL j l) (k := .i64) (by rw [E.tL_length]; exact hown)
      have HS1 := hide hsl1
      have HX : Hid (∀ x, a1 = some x → w.heap.size ≤ x.block) := fun x hx => (owns_lt HO.out (by rw [hob, hx]; rfl)).1
      clear hsl1 hob hown
      subst hv1
      go_wp2
      go_ret3
      exact ⟨.inl ⟨HT.out, a1, c1, a, c, rfl, HS1.out, HSL.out, HX.out⟩, HB.out⟩

/-- The reference's ToInts. -/
theorem rtoints_any (ao : Option Addr) (len cap : Nat) (l : List Nat) (n : Int) (w : World) (h : Sl w .u8 ao len cap (ints l)) (h256 : ∀ x ∈ l, x < 256) (hm : len ≤ 1099511627776) (hn1 : n < 9223372036854775808) :
    Calls Try.prog 20 #[.slice ao len cap, .int .i64 n] w fun e w' => ∃ v1 v2, e = .returned (.tuple #[v1, v2, .int .i64 ((E.iE n l : Nat) : Int)]) ∧ IntsAns n l w.heap.size w' v1 v2 ∧ Below w.heap.size w w' := by
  by_cases hn : n < 0
  · refine (rtoints_neg ao len cap n w hn).mono ?_
    rintro e w' ⟨rfl, rfl⟩
    exact ⟨_, _, by rw [E.iE_neg hn]; rfl, IntsAns.bad (by rw [E.iE_neg hn]; decide), Below.refl _ _⟩
  · have hi := E.iE_pos (l := l) (show 0 ≤ n by omega)
    refine (rtoints_pos ao len cap l n w h h256 hm (by omega) hn1).mono ?_
    rintro e w' ⟨⟨h0, a1, c1, a2, c2, rfl, hs1, hs2, hx⟩ | ⟨h0, rfl⟩, hb⟩
    · exact ⟨_, _, by rw [hi, h0]; rfl, IntsAns.good (by rw [hi]; exact h0) hs1 hx hs2, hb⟩
    · exact ⟨_, _, by rw [hi], IntsAns.bad (by rw [hi]; exact h0), hb⟩
end Go.Proofs.Ytnkpghoijdcohaa

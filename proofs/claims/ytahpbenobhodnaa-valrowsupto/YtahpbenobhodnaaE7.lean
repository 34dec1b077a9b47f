/- The contract of leb's toInts. -/
import Derived.Test.YtahpbenobhodnaaE6
namespace Go.Proofs.Ytahpbenobhodnaa
set_option linter.unusedVariables false
open Go.RowKit

theorem Try.infoI64 : (Try.prog.info? 2).map (fun i => (i.zero, i.size, i.bytes)) = some (some (.int .i64 0), 1, 8) := by kernel_rfl

set_option maxHeartbeats 400000 in
theorem toints_neg (ao : Option Addr) (len cap : Nat) (n : Int) (w : World) (hn : n < 0) :
    Calls Try.prog 56 #[.slice ao len cap, .int .i64 n] w fun e w' => e = pan 1 ∧ w' = w := by
  go_enter Try.func56, Try.ntmps56
  go_wp2
  exact ⟨rfl, rfl, rfl⟩

set_option maxHeartbeats 1000000 in
theorem toints_pos (ao : Option Addr) (len cap : Nat) (l : List Nat) (n : Int) (w : World) (h : Sl w .u8 ao len cap (ints l)) (h256 : ∀ x ∈ l, x < 256) (hm : len ≤ 140737488355328 ∧ (len ≤ 1099511627776 ∨ n ≤ 1099511627776)) (hn0 : 0 ≤ n) (hn1 : n < 9223372036854775808) :
    Calls Try.prog 56 #[.slice ao len cap, .int .i64 n] w fun e w' =>
      ((E.tE n.toNat l = 0 ∧ ∃ a1 c1 a2 c2, e = .returned (.tuple #[.slice a1 (E.tL n.toNat l).length c1, .slice a2 (E.tR n.toNat l).length c2]) ∧ Sl w' .i64 a1 (E.tL n.toNat l).length c1 (E.tL n.toNat l) ∧ Sl w' .u8 a2 (E.tR n.toNat l).length c2 (ints (E.tR n.toNat l)) ∧ ∀ x, a1 = some x → w.heap.size ≤ x.block) ∨ (E.tE n.toNat l ≠ 0 ∧ e = pan ((E.tE n.toNat l : Nat) : Int))) ∧ Below w.heap.size w w' := by
  obtain ⟨i0, hi, hz0, hz1, hz2⟩ := info_parts Try.infoI64
  have hlen : l.length = len := by rw [← h.1, ints_length]
  have HL := hide hlen
  have HS := hide h
  have H2 := hide h256
  obtain ⟨m, hmn⟩ : ∃ m : Nat, n.toNat = m := ⟨_, rfl⟩
  have HM := hide hmn
  rw [hmn]
  have hnd : decide (n < 0) = false := by simp; omega
  clear hlen h h256 hmn
  obtain ⟨hm, hm2⟩ := hm
  go_enter Try.func56, Try.ntmps56
  go_wp2_with fail
  go_loopw [0, 6, 13] (fun b v i wr => ∃ j : Nat, j ≤ m ∧ i = .int .i64 j ∧ E.tE j l = 0 ∧ (∃ a c, b = .slice a (E.tR j l).length c ∧ Sl wr .u8 a (E.tR j l).length c (ints (E.tR j l)) ∧ ((E.tR j l).length = 0 ∨ ∀ x, a = some x → x.block < w.heap.size)) ∧ wr.ownsRow w.heap.size 2 1 v j ((E.tL j l).map (Value.int .i64)) ∧ Below w.heap.size w wr) (fun _ _ i _ => m - (intOf i).toNat)
  case atStart =>
    refine ⟨0, Nat.zero_le _, rfl, rfl, ⟨ao, cap, ?_, ?_, ?_⟩, World.ownsRow_nil _ _ _ _, Below.refl _ _⟩
    · show _ = Value.slice ao l.length cap; rw [HL.out]
    · show Sl w .u8 ao l.length cap (ints l); rw [HL.out]; exact HS.out
    · show l.length = 0 ∨ _
      rcases HS.out.2.2.2.2 with h5 | ⟨b, off, rfl, hlt, _⟩
      · exact .inl (by rw [HL.out]; exact h5)
      · exact .inr fun x hx => by obtain rfl := Option.some.inj hx; exact hlt
  case round =>
    obtain ⟨j, hjm, rfl, hte, ⟨a, c, rfl, hsl, haw⟩, hown, hbel⟩ := hrel
    have hsz := hbel.size
    have hrl := E.tR_length j l H2.out hte
    rw [HL.out] at hrl
    have HT := hide hte
    have HSL := hide hsl
    have HAW := hide haw
    have HB := hide hbel
    have HR2 := hide (E.tR_lt j l H2.out)
    clear hte hsl haw hbel
    by_cases hlt : j < m
    · have hjn : (j : Int) < n := by have := HM.out; omega
      obtain ⟨r, hr⟩ : ∃ r, E.tR j l = r := ⟨_, rfl⟩
      rw [hr] at HSL HAW hrl HR2
      rw [hr]
      have HR := hide hr
      clear hr
      go_wp2_with fail
      refine (get_in _ _ _ r _ HSL.out HR2.out (by omega)).mono ?_
      rintro e w1 ⟨⟨hg, rfl⟩ | ⟨hg, rfl⟩, rfl⟩
      case inr =>
        have HG := hide hg
        clear hg
        unfold pan
        go_wp2
        have hx := E.tE_stop HT.out hlt (by rw [HR.out]; exact HG.out)
        rw [HR.out] at hx
        exact ⟨rfl, .inr ⟨by rw [hx]; exact HG.out, by rw [hx]; rfl⟩, HB.out⟩
      obtain ⟨k1, k2, _, _, _, _⟩ := E.gE_zero hg HR2.out
      have hnl := E.gN_lt HR2.out
      have HG := hide hg
      clear hg
      obtain ⟨N, hN⟩ : ∃ N : Int, ((E.gN r : Nat) : Int) = N := ⟨_, rfl⟩
      have hN0 : 0 ≤ N := by omega
      have hN1 : N < 18446744073709551616 := by omega
      obtain ⟨K, hK⟩ : ∃ K : Nat, E.gK r = K := ⟨_, rfl⟩
      have hK1 : K ≤ r.length := by omega
      have HN := hide hN
      have HK := hide hK
      rw [hN, hK]
      clear hN hK k1 k2 hnl
      go_wp2_with (first
        | (go_at_call 62; refine (zag_any _ _ hN0 hN1).mono ?_; rintro e w' ⟨rfl, rfl⟩)
        | (at_builtin; refine wpList_append_to rfl _ _ 67 rfl w.heap.size 2 i0 (.int .i64 0) 1 8 Try.underlying67 hi hz0 hz1 hz2 rfl (by decide) _ _ _ rfl (hown.alloc _) (some ⟨World.heap _ |>.size, 0, none⟩) 1 1 [.int .i64 (E.zag N.toNat)] rfl (by simp) rfl (Sl.news1 _ _) (one_oneCell _ _) (by unfold maxLen; omega) (by omega) (by simp; omega) ?_))
      intro v2 w2 hown2 has2
      have hkAS : Kept (fun k => w.heap.size ≤ k) w' w2 := ((Kept.refl _ w').alloc _).trans' has2.1 (fun k hk => .inl (owns_lt hown hk).1)
      have hs2 : Sl w2 .u8 a r.length c (ints r) := HSL.out.kept0 hkAS (by rcases HAW.out with h | h; exact .inl h; exact .inr fun x hx => by have := h x hx; omega)
      have hb2 : Below w.heap.size w w2 := HB.out.trans (hkAS.below hsz (fun k hk => hk))
      have HS2 := hide hs2
      have HB2 := hide hb2
      have HO2 := hide hown2
      clear hkAS hs2 hb2 hown2 has2 hown
      go_wp2_with fail
      refine (cut_any a r.length c r K _ HS2.out hK1).mono ?_
      rintro e w3 ⟨a3, rfl, hk3, _, hs3, hbl⟩
      have HS3 := hide hs3
      have HK3 := hide hk3
      have HBL := hide hbl
      clear hs3 hk3 hbl
      go_wp2
      go_roundw
      case rel =>
        have eR : E.tR (j + 1) l = r.drop K := by rw [E.tR_succ, HR.out, HK.out]
        have eL : E.tL (j + 1) l = E.tL j l ++ [E.zag N.toNat] := by rw [E.tL_succ, HR.out, ← HN.out, Int.toNat_natCast]
        refine ⟨j + 1, hlt, by go_num, by rw [E.tE_succ _ _ HT.out, HR.out]; exact HG.out, ⟨a3, r.length - K, ?_, ?_, ?_⟩, ?_, HB2.out.trans (HK3.out.below HB2.out.size (by simp))⟩
        · rw [eR, List.length_drop]
        · rw [eR, List.length_drop]; exact HS3.out
        · rw [eR, List.length_drop]
          rcases HAW.out with h | h
          · exact .inl (by omega)
          · refine .inr fun y hy => ?_
            obtain ⟨x, hx, hxy⟩ := HBL.out y hy
            rw [hxy]; exact h x hx
        · rw [eL, List.map_append]
          exact owns_of_block HO2.out fun g hg => HK3.out.block g (owns_lt HO2.out hg).2 (by simp)
      case measure => simp [intOf]; omega
    · have hjm' : j = m := by omega
      have hjn : ¬ (j : Int) < n := by have := HM.out; omega
      subst hjm'
      clear hlt
      have HO := hide hown
      clear hown
      go_wp2_with fail
      refine (own_any _ _ _ (E.tR j l) _ HSL.out (by omega)).mono ?_
      rintro e w3 ⟨a3, c3, rfl, hs3, hb3⟩
      obtain ⟨a1, c1, hv1, hsl1, hob⟩ := Sl.of_owns (l := E.tL j l) (k := .i64) (by rw [E.tL_length]; exact HO.out)
      have HS1 := hide hsl1
      have HX : Hid (∀ x, a1 = some x → w.heap.size ≤ x.block) := fun x hx => (owns_lt HO.out (by rw [hob, hx]; rfl)).1
      clear hsl1 hob
      subst hv1
      go_wp2
      go_ret2
      exact ⟨.inl ⟨HT.out, a1, c1, a3, c3, rfl, HS1.out.below hb3, hs3, HX.out⟩, HB.out.trans (hb3.mono hsz)⟩

/-- leb's toInts. -/
theorem toints_inN (ao : Option Addr) (len cap : Nat) (l : List Nat) (n : Int) (w : World) (h : Sl w .u8 ao len cap (ints l)) (h256 : ∀ x ∈ l, x < 256) (hm : len ≤ 140737488355328 ∧ (len ≤ 1099511627776 ∨ n ≤ 1099511627776)) (hn1 : n < 9223372036854775808) :
    Calls Try.prog 56 #[.slice ao len cap, .int .i64 n] w fun e w' =>
      ((E.iE n l = 0 ∧ ∃ a1 c1 a2 c2, e = .returned (.tuple #[.slice a1 (E.tL n.toNat l).length c1, .slice a2 (E.tR n.toNat l).length c2]) ∧ Sl w' .i64 a1 (E.tL n.toNat l).length c1 (E.tL n.toNat l) ∧ Sl w' .u8 a2 (E.tR n.toNat l).length c2 (ints (E.tR n.toNat l)) ∧ ∀ x, a1 = some x → w.heap.size ≤ x.block) ∨ (E.iE n l ≠ 0 ∧ e = pan ((E.iE n l : Nat) : Int))) ∧ Below w.heap.size w w' := by
  by_cases hn : n < 0
  · refine (toints_neg ao len cap n w hn).mono ?_
    rintro e w' ⟨rfl, rfl⟩
    exact ⟨.inr ⟨by rw [E.iE_neg hn]; decide, by rw [E.iE_neg hn]; rfl⟩, Below.refl _ _⟩
  · rw [E.iE_pos (by omega)]
    exact toints_pos ao len cap l n w h h256 hm (by omega) hn1
end Go.Proofs.Ytahpbenobhodnaa

/- The walk of the statement: what was a block is opened; cut, it is too short. -/
import Derived.Test.YtmobcabkaodjoaaK4
import Derived.Test.YtmobcabkaodjoaaH7
import Derived.Test.YtmobcabkaodjoaaH8
import Derived.Test.YtmobcabkaodjoaaX1
namespace Go.Proofs.Ytmobcabkaodjoaa
set_option linter.unusedVariables false
open Go.RowKit

set_option maxHeartbeats 2000000 in
theorem crcBack_in (w : World) (ao : Option Addr) (len cap : Nat) (l : List Nat) (hsl : Sl w .u8 ao len cap (ints l)) (hm : len ≤ 1048576) (h256 : ∀ x ∈ l, x < 256) (bo : Option Addr) (lm cm : Nat) (m : List Nat) (hsm : Sl w .u8 bo lm cm (ints m)) (hmm : lm ≤ 1048576) (hm256 : ∀ x ∈ m, x < 256) (cut : Int) (hc0 : 0 ≤ cut) (hc1 : cut < 65536) :
    Calls Try.prog 5 #[.slice ao len cap, .slice bo lm cm, .int .u16 cut] w fun e w' => e = .returned (.bool true) ∧ Below w.heap.size w w' := by
  have HSL := hide hsl
  have H2 := hide h256
  have HSM := hide hsm
  have HM2 := hide hm256
  have hll : l.length = len := by rw [← hsl.1, ints_length]
  have HLL := hide hll
  have HMl := hide (show m.length = lm by rw [← hsm.1, ints_length])
  have hlp := E.leb_pos len
  have hlt := E.leb_ten len (by omega)
  have hbl := K.block_length l
  rw [hll] at hbl
  obtain ⟨o1, o2, o3⟩ := K.o_block l m (by omega) (len : Int) (by rw [hll]; exact Int.le_refl _)
  have HO1 := hide o1
  have HO2 := hide (show K.zX (len : Int) (K.block l ++ m) = l by rw [(K.z_good o1).1, o2])
  have HO3 := hide (show K.zR (len : Int) (K.block l ++ m) = m by rw [(K.z_good o1).2, o3])
  have hcu := fun k hk => K.o_cut l (by omega) k hk
  rw [hll] at hcu
  have HCU := hide hcu
  have hle := K.o_less l (by omega)
  rw [hll] at hle
  have HLE := hide hle
  have HK2 := hide (K.block_lt l h256)
  clear hsl h256 hsm hm256 hll o1 o2 o3 hcu hle
  obtain ⟨n, hn⟩ : ∃ n, (K.block l).length = n := ⟨_, rfl⟩
  have HN := hide hn
  rw [hn] at hbl
  have hn0 : 0 < n := by omega
  have hnb : n ≤ 1048600 := by omega
  have hn5 : decide ((n : Int) < (len : Int) + 5) = false := by simp; omega
  clear hbl hlp hlt
  go_enter Try.func5, Try.ntmps5
  go_wp2_with fail
  refine (shown_any w).mono ?_
  rintro e w2 ⟨rfl, hb⟩
  go_wp2_with fail
  refine (block_any ao len cap l w2 (HSL.out.below hb) (by omega) H2.out).mono ?_
  rintro e w3 ⟨g, rfl, hg, hBg, hb3⟩
  rw [hn]
  have hb4 := hb.trans (hb3.mono hb.size)
  have hsf : Sl w3 .u8 (some ⟨g, 0, none⟩) n n (ints (K.block l)) := by
    have := Sl.of_row hg (by rw [hn]; unfold maxLen; omega)
    rwa [hn] at this
  have HSF := hide hsf
  have HB4 := hide hb4
  clear hb hb3 hg hBg hb4 hsf hn
  go_wp2_with (at_builtin; refine wpList_app rfl (.tmp 22) (.tmp 23) rfl w3.heap.size _ [] rfl (owns_none w3) (some ⟨g, 0, none⟩) n n (K.block l) rfl (HSF.out.below ((Below.refl _ _).alloc (Nat.le_refl _) _)) (by simp; omega) (by simp) (K.block l) (List.nil_append _) ?_)
  intro v5 w5 ho5 has5
  have hb5 : Below w3.heap.size w3 w5 := ((Below.refl w3.heap.size w3).alloc (Nat.le_refl _) _).trans (has5.below (by simp) (fun k hk => by simp [Value.ownBlock] at hk; omega))
  have HB5 := hide (HB4.out.trans (hb5.mono HB4.out.size))
  have HO5 := hide ho5
  have HS35 := hide hb5
  clear ho5 has5 hb5
  obtain ⟨r6, hr6⟩ : ∃ r6, K.block l ++ m = r6 := ⟨_, rfl⟩
  have HR6 := hide hr6
  clear hr6
  go_wp2_with (at_builtin; refine wpList_app rfl (.tmp 24) (.tmp 25) rfl w3.heap.size v5 (K.block l) rfl HO5.out bo lm cm m rfl (HSM.out.below HB5.out) (by rw [HN.out]; omega) HS35.out.size r6 HR6.out ?_)
  intro v6 w6 ho6 has6
  have hb6 : Below w3.heap.size w3 w6 := HS35.out.trans (has6.below HS35.out.size (fun k hk => (owns_lt HO5.out hk).1))
  obtain ⟨n6, hn6⟩ : ∃ n6, r6.length = n6 := ⟨_, rfl⟩
  have hn6b : n6 ≤ 2097300 := by rw [← hn6, ← HR6.out, List.length_append, HN.out, HMl.out]; omega
  obtain ⟨a6, c6, rfl, hs6⟩ := Sl.of_own ho6 hn6
  rw [← HR6.out] at hs6
  have HS6 := hide hs6
  have HB6 := hide hb6
  have HBw := hide (HB4.out.trans (hb6.mono HB4.out.size))
  clear ho6 has6 hb6 hs6 hn6 HO5 HS35 HB5
  go_wp2_with fail
  refine (open_any a6 n6 c6 (K.block l ++ m) (len : Int) w6 HS6.out (by omega) (fun y hy => (List.mem_append.1 hy).elim (HK2.out y) (HM2.out y)) (by omega) (by omega)).mono ?_
  rintro e w7 ⟨⟨a1, c1, a2, c2, rfl, s1, s2⟩, hb7⟩
  rw [HO1.out]
  rw [HO2.out] at s1 ⊢
  rw [HO3.out] at s2 ⊢
  rw [HLL.out] at s1 ⊢
  rw [HMl.out] at s2 ⊢
  have HB7 := hide (HBw.out.trans (hb7.mono HBw.out.size))
  have HS7 := hide (HSF.out.below (HB6.out.trans (hb7.mono HB6.out.size)))
  have q1 := str_of s1
  have q2 := str_of s2
  have q3 := str_of (HSL.out.below (w' := w7) HB7.out)
  have q4 := str_of (HSM.out.below (w' := w7) HB7.out)
  clear hb7 s1 s2
  obtain ⟨kc, hkc⟩ : ∃ kc : Int, cut % (n : Int) = kc := ⟨_, rfl⟩
  have hk0 : 0 ≤ kc := by rw [← hkc]; exact Int.emod_nonneg _ (by omega)
  have hk1 : kc < (n : Int) := by rw [← hkc]; exact Int.emod_lt_of_pos _ (by omega)
  go_wp2_with fail
  have hkn : kc.toNat ≤ n := by omega
  have hs8 := HS7.out.head kc.toNat n hkn hkn (Nat.le_refl _)
  rw [← ints_take] at hs8
  refine (open_any _ kc.toNat n ((K.block l).take kc.toNat) (len : Int) w7 hs8 (by omega) (fun y hy => HK2.out y (List.mem_of_mem_take hy)) (by omega) (by omega)).mono ?_
  rintro e w9 ⟨⟨a3, c3, a4, c4, rfl, _, _⟩, hb9⟩
  rw [HCU.out kc.toNat (by rw [HN.out]; omega)]
  obtain ⟨n3, hn3⟩ : ∃ n3, (K.zX (len : Int) ((K.block l).take kc.toNat)).length = n3 := ⟨_, rfl⟩
  obtain ⟨n4, hn4⟩ : ∃ n4, (K.zR (len : Int) ((K.block l).take kc.toNat)).length = n4 := ⟨_, rfl⟩
  rw [hn3, hn4]
  have HB9 := hide (HB7.out.trans (hb9.mono HB7.out.size))
  have HS9 := hide (HS7.out.below hb9)
  clear hs8 hb9 hn3 hn4 q1 q2 q3 q4
  go_wp2_with fail
  refine (open_any _ n n (K.block l) ((len : Int) - 1) w9 HS9.out (by omega) HK2.out (by omega) (by omega)).mono ?_
  rintro e w10 ⟨⟨a5, c5, a6, c6, rfl, _, _⟩, hb10⟩
  rw [HLE.out]
  obtain ⟨n5, hn5⟩ : ∃ n5, (K.zX ((len : Int) - 1) (K.block l)).length = n5 := ⟨_, rfl⟩
  obtain ⟨n7, hn7⟩ : ∃ n7, (K.zR ((len : Int) - 1) (K.block l)).length = n7 := ⟨_, rfl⟩
  rw [hn5, hn7]
  clear hn5 hn7
  go_wp2
  go_ret
  exact ⟨rfl, HB9.out.trans (hb10.mono HB9.out.size)⟩

theorem crcBack_walkU (w : World) (a0 : Option Addr) (len0 cap0 : Nat) (z0 : List Int) (c0 : Came .u8 w a0 len0 cap0 z0) (h0 : cap0 ≤ 1048576) (a1 : Option Addr) (len1 cap1 : Nat) (z1 : List Int) (c1 : Came .u8 w a1 len1 cap1 z1) (h1 : cap1 ≤ 1048576) (cut : Int) (wc : (Lit.int .u16 cut).wf = true) :
    Calls Try.prog 5 #[.slice a0 len0 cap0, .slice a1 len1 cap1, .int .u16 cut] w fun e w' => e = .returned (.bool true) ∧ Below w.heap.size w w' := by
  obtain ⟨l, rfl, h256⟩ := came_bytes c0
  obtain ⟨m, rfl, hm256⟩ := came_bytes c1
  obtain ⟨h2, h3⟩ := wf_u16 wc
  have := c0.1.2.1
  have := c1.1.2.1
  exact crcBack_in w a0 len0 cap0 l c0.1 (by omega) h256 a1 len1 cap1 m c1.1 (by omega) hm256 cut h2 h3
end Go.Proofs.Ytmobcabkaodjoaa

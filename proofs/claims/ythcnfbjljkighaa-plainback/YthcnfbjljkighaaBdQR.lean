/- The walk of the statement: what was laid down is read; what is read is laid down as the very bytes. -/
import Derived.Test.YthcnfbjljkighaaBdQB
import Derived.Test.YthcnfbjljkighaaBdS
namespace Go.Proofs.Ythcnfbjljkighaa
set_option linter.unusedVariables false
open Go.RowKit

theorem oV_i64 {l : List Nat} (h256 : ∀ x ∈ l, x < 256) (kind : Int) : Z.I64 (Z.oV l kind).i := by
  unfold Z.oV
  split
  · unfold Z.oW
    split
    · exact E.zag_lt _ (E.gN_lt h256)
    · split
      · exact Z.sg_in (D.bt_in ⟨by omega, by have := Z.o8_lt h256; omega⟩)
      · split
        · exact ⟨by show (-9223372036854775808 : Int) ≤ 0; decide, by show (0 : Int) < 9223372036854775808; decide⟩
        · exact ⟨by decide, by decide⟩
  · exact ⟨by decide, by decide⟩
theorem str_append (a b : List Nat) : strOfNums (ints a) ++ strOfNums (ints b) = strOfNums (ints (a ++ b)) := by
  apply Z.ba_eq
  simp [strOfNums, ints]
theorem pL_i64 (kind : Int) : ∀ (n : Nat) (b : List Nat), (∀ x ∈ b, x < 256) → ∀ x ∈ Z.pL kind n b, Z.I64 x.i
  | 0, _, _, x, hx => by simp [Z.pL] at hx
  | n + 1, b, h, x, hx => by
    rw [Z.pL] at hx
    rcases List.mem_cons.1 hx with rfl | hx
    · exact oV_i64 h kind
    · exact pL_i64 kind n _ (oR_lt h kind) x hx
theorem cL_i64 {b : List Nat} {n kind : Int} (h : ∀ x ∈ b, x < 256) : ∀ x ∈ Z.cL b n kind, Z.I64 x.i := by
  unfold Z.cL
  split
  · exact pL_i64 kind _ b h
  · simp
/-- Where Of has no error. -/
theorem cE_zero {b : List Nat} {n kind : Int} (h256 : ∀ x ∈ b, x < 256) (h : Z.cE b n kind = 0) : ∃ N : Nat, n = (N : Int) ∧ (Z.cL b n kind).length = N ∧ Z.chk (Z.cL b n kind) kind = 0 ∧ Z.cb (Z.cL b n kind) kind = b := by
  have hc : Z.cL b n kind = Z.pL kind n.toNat b := by unfold Z.cL; rw [if_pos h]
  rw [hc]
  unfold Z.cE at h
  split at h
  · exact absurd h (by decide)
  · rename_i h1
    split at h
    · exact absurd h (by decide)
    · rename_i h2
      split at h
      · rename_i h3; omega
      · rename_i h3
        split at h
        · exact absurd h (by decide)
        · rename_i h4
          have h1' : Z.kindOk kind = true := by simpa using h1
          have h3' : Z.pE kind n.toNat b = 0 := by simpa using h3
          have h4' : Z.pR kind n.toNat b = [] := by simpa using h4
          obtain ⟨g1, g2⟩ := p_two (kind_cases h1') n.toNat b h256 h3'
          have h5 : Z.chk (Z.pL kind n.toNat b) kind = 0 := chk_of (kind_cases h1') (by rw [pL_length]; omega) (fun x hx => (g1 x hx).1) (fun x hx => (g1 x hx).2)
          refine ⟨n.toNat, by omega, pL_length _ _ _, h5, ?_⟩
          rw [cb_ok h5]
          rw [h4', List.append_nil] at g2
          exact g2
theorem cE_back {l : List Z.V} {kind : Int} {len : Nat} (h : Z.chk l kind = 0) (hwf : ∀ x ∈ l, Z.Wf x) (hl : l.length = len) : Z.cE (Z.cb l kind) (len : Int) kind = 0 ∧ Z.cL (Z.cb l kind) (len : Int) kind = l ∧ Z.cE (Z.cb l kind ++ [0]) (len : Int) kind = 4 := by
  have h1 := p_back kind [] l (fits h hwf)
  have h2 := p_back kind [0] l (fits h hwf)
  have h3 := (chk_zero h).2.1
  rw [List.append_nil, hl] at h1
  rw [hl] at h2
  rw [hl] at h3
  rw [cb_ok h]
  have h4 := cE_ok (kindOk_of h) h3 h1.1 h1.2.2
  refine ⟨h4, ?_, cE_behind (kindOk_of h) h3 h2.1 (by rw [h2.2.2]; simp)⟩
  unfold Z.cL
  rw [if_pos h4, Int.toNat_natCast]
  exact h1.2.1
theorem sl_zero (w : World) : Sl (w.alloc (.cells #[.int .u8 0] 5)) .u8 (some ⟨w.heap.size, 0, none⟩) 1 1 (ints [0]) := by
  refine ⟨rfl, Nat.le_refl _, by decide, by simp, .inr ⟨w.heap.size, 0, rfl, by simp, fun i hi => ?_⟩⟩
  obtain rfl : i = 0 := by omega
  simp [ints]

set_option maxHeartbeats 4000000 in
theorem plainBack_in (w : World) (a : Option Addr) (len cap : Nat) (l : List Z.V) (hs : SlV w a len cap l) (hwf : ∀ x ∈ l, Z.Wf x) (hr : cap * 32 ≤ 140737488351232) (kind : Int) (a1 : Option Addr) (len1 cap1 : Nat) (b : List Nat) (hb : Sl w .u8 a1 len1 cap1 (ints b)) (h256 : ∀ x ∈ b, x < 256) (hr1 : cap1 * 1 ≤ 140737488351232) (n : Int) :
    Calls Try.prog 4 #[.slice a len cap, .int .i64 kind, .slice a1 len1 cap1, .int .i64 n] w fun e w' => e = .returned (.bool true) ∧ Below w.heap.size w w' := by
  have hlen : len ≤ 140737488351232 := by have := hs.2.1; omega
  have hlen1 : len1 ≤ 140737488351232 := by have := hb.2.1; omega
  have HS := hide hs
  have HB := hide hb
  have H256 := hide h256
  have HWF := hide hwf
  have HLL := hide hs.1
  clear hs hb hwf hr hr1 h256
  go_enter Try.func4, Try.ntmps4
  go_wp2_with fail
  refine (plshown_any _).mono ?_
  rintro e w1 ⟨rfl, hb⟩
  have b0 := hide hb
  clear hb
  go_wp2_with fail
  refine (few_any a len cap l _ (HS.out.below b0.out) (by omega)).mono ?_
  rintro e w2 ⟨q, rfl, hq, rfl⟩
  cases q with
  | false =>
    go_wp2
    go_ret
    exact ⟨rfl, b0.out⟩
  | true =>
    have hl1 := hq rfl
    clear hq
    obtain ⟨xs, hxs⟩ : ∃ xs, Z.cb l kind = xs := ⟨_, rfl⟩
    obtain ⟨K, hK⟩ : ∃ K, xs.length = K := ⟨_, rfl⟩
    have hKl : K ≤ 4235264 := by rw [← hK, ← hxs]; exact cb_len HWF.out
    have HXL : Hid (∀ y ∈ xs, y < 256) := by rw [← hxs]; exact cb_lt HWF.out
    obtain ⟨E, hE⟩ : ∃ E, Z.chk l kind = E := ⟨_, rfl⟩
    have HBK : Hid (E = 0 → Z.cE xs (len : Int) kind = 0 ∧ Z.cL xs (len : Int) kind = l ∧ Z.cE (xs ++ [0]) (len : Int) kind = 4) := by
      intro h0
      have := cE_back (hE.trans h0) HWF.out HLL.out
      rwa [hxs] at this
    obtain ⟨ys, hys⟩ : ∃ ys, xs ++ [0] = ys := ⟨_, rfl⟩
    rw [hys] at HBK
    have HYL : Hid (ys.length = K + 1) := by show _ = _; rw [← hys, List.length_append, hK]; rfl
    have HYS := hide hys
    have HE := hide hE
    have HK := hide hK
    have HXS := hide hxs
    clear hE hK hxs hys
    go_wp2_with fail
    refine (pbytes_any a len cap l kind _ (HS.out.below b0.out) (fun x hx => (HWF.out x hx).2.1)).mono ?_
    rintro e w3 ⟨pa, pc, rfl, hs3, hb⟩
    rw [HE.out, HXS.out, HK.out]
    rw [HXS.out, HK.out] at hs3
    replace b0 := hide (bthen b0.out hb)
    have HP := hide hs3
    clear hb hs3
    go_wp2_with fail
    refine (pof_any pa K pc xs (len : Int) kind _ HP.out HXL.out (by omega)).mono ?_
    rintro e w4 ⟨qa, qc, rfl, hs4, hb⟩
    replace b0 := hide (bthen b0.out hb)
    replace HP := hide (HP.out.below hb)
    obtain ⟨F, hF⟩ : ∃ F, Z.cE xs (len : Int) kind = F := ⟨_, rfl⟩
    obtain ⟨ms, hms⟩ : ∃ ms, Z.cL xs (len : Int) kind = ms := ⟨_, rfl⟩
    obtain ⟨m, hm⟩ : ∃ m, ms.length = m := ⟨_, rfl⟩
    rw [hF, hms, hm]
    rw [hms, hm] at hs4
    rw [hF, hms] at HBK
    have HQ := hide hs4
    have HM := hide hm
    clear hb hs4 hF hms hm
    go_wp2_with (at_builtin; refine wpList_app rfl _ _ rfl w4.heap.size _ [] rfl (owns_none w4) pa K pc xs rfl (HP.out.below (below_one w4 _)) (by simp; omega) (by simp) xs rfl ?_)
    intro v5 w5 ho5 has
    have hb5 : Below w4.heap.size w4 w5 := (below_one w4 _).trans (has.below (by simp) (fun k hk => by simp [Value.ownBlock] at hk; omega))
    have ho5' : (w5.alloc (.cells #[.int .u8 0] 5)).ownsRow w4.heap.size 5 1 v5 xs.length (B8 xs) := World.ownsRow.alloc ho5 _
    have hone := sl_zero w5
    have hb5' : Below w4.heap.size w4 (w5.alloc (.cells #[.int .u8 0] 5)) := hb5.alloc hb5.size _
    have HO5 := hide ho5'
    have H1 := hide hone
    have HB5 := hide hb5'
    have hsz5 := hb5'.size
    clear ho5 ho5' has hb5 hone hb5'
    go_wp2_with (at_builtin; refine wpList_app rfl _ _ rfl w4.heap.size v5 xs rfl HO5.out (some ⟨w5.heap.size, 0, none⟩) 1 1 [0] rfl H1.out (by rw [HK.out]; omega) hsz5 ys HYS.out ?_)
    intro v6 w6 ho6 has
    have hb6 : Below w4.heap.size w4 w6 := HB5.out.trans (has.below hsz5 (fun k hk => (owns_lt HO5.out hk).1))
    obtain ⟨sa, sc, rfl, s6⟩ := Sl.of_own ho6 HYL.out
    replace b0 := hide (bthen b0.out hb6)
    replace HQ := hide (HQ.out.below hb6)
    have HS6 := hide s6
    clear ho6 has hb6 s6 HO5 HB5 hsz5 H1 HP
    go_wp2_with fail
    refine (pof_any sa (K + 1) sc ys (len : Int) kind _ HS6.out (fun y hy => by
      rw [← HYS.out] at hy
      rcases List.mem_append.1 hy with hy | hy
      · exact HXL.out y hy
      · obtain rfl := List.mem_singleton.1 hy
        omega) (by omega)).mono ?_
    rintro e w7 ⟨ta, tc, rfl, _, hb⟩
    replace b0 := hide (bthen b0.out hb)
    replace HQ := hide (HQ.out.below hb)
    obtain ⟨G, hG⟩ : ∃ G, Z.cE ys (len : Int) kind = G := ⟨_, rfl⟩
    generalize (Z.cL ys (len : Int) kind).length = n7
    rw [hG]
    rw [hG] at HBK
    clear hb hG HS6
    by_cases h0 : E = 0
    · subst h0
      obtain ⟨rfl, h2, rfl⟩ := HBK.out rfl
      have h3 : m = len := by rw [← HLL.out, ← h2]; exact HM.out.symm
      rw [h2, h3] at HQ
      rw [h3]
      clear h2 h3 HM
      go_wp2_with fail
      refine (vsame_yes a qa len cap qc l _ (HS.out.below b0.out) HQ.out (by omega)).mono ?_
      rintro e w8 ⟨rfl, hb⟩
      replace b0 := hide (bthen b0.out hb)
      clear hb HQ HBK
      go_wp2_with fail
      refine (pof_any a1 len1 cap1 b n kind _ (HB.out.below b0.out) H256.out (by omega)).mono ?_
      rintro e w9 ⟨ua, uc, rfl, hs9, hb⟩
      replace b0 := hide (bthen b0.out hb)
      clear hb
      by_cases hz : Z.cE b n kind = 0
      · obtain ⟨N, hn, hN, hchk, hcb⟩ := cE_zero H256.out hz
        rw [hz, hN]
        rw [hN] at hs9
        have HCI := hide (cL_i64 (n := n) (kind := kind) H256.out)
        obtain ⟨ks, hks⟩ : ∃ ks, Z.cL b n kind = ks := ⟨_, rfl⟩
        rw [hks] at hs9 hchk hcb HCI
        have HU := hide hs9
        have HCK := hide hchk
        have HCB := hide hcb
        have HBL : Hid (b.length = len1) := by show _ = _; rw [← HB.out.1, ints_length]
        obtain rfl : n = (N : Int) := hn
        clear hs9 hchk hcb hks hN hz
        go_wp2_with fail
        refine (pbytes_any ua N uc ks kind _ HU.out HCI.out).mono ?_
        rintro e w10 ⟨ya, yc, rfl, hs10, hb⟩
        rw [HCK.out, HCB.out, HBL.out]
        rw [HCB.out, HBL.out] at hs10
        replace b0 := hide (bthen b0.out hb)
        have t1 := str_of hs10
        have t2 := str_of (HB.out.below b0.out)
        obtain ⟨X, hX⟩ : ∃ X, strOfNums (ints b) = X := ⟨_, rfl⟩
        rw [hX] at t1 t2
        have hxx : (X.toList == X.toList) = true := by simp
        have hnn : ((N : Int) == (N : Int)) = true := by simp
        clear hb hs10 hX HU
        go_wp2
        go_ret
        exact ⟨rfl, b0.out⟩
      · have hcl : Z.cL b n kind = [] := by unfold Z.cL; rw [if_neg hz]
        obtain ⟨H, hH⟩ : ∃ H, Z.cE b n kind = H := ⟨_, rfl⟩
        rw [hH] at hz
        have hzb : (H != 0) = true := by simpa using hz
        rw [hcl, hH]
        clear hs9 hcl hH hz
        go_wp2
        go_ret
        exact ⟨rfl, b0.out⟩
    · have h0b : (E == 0) = false := by simpa using h0
      clear HBK HQ h0
      go_wp2_with fail
      refine (pof_any a1 len1 cap1 b n kind _ (HB.out.below b0.out) H256.out (by omega)).mono ?_
      rintro e w9 ⟨ua, uc, rfl, hs9, hb⟩
      replace b0 := hide (bthen b0.out hb)
      clear hb
      by_cases hz : Z.cE b n kind = 0
      · obtain ⟨N, hn, hN, hchk, hcb⟩ := cE_zero H256.out hz
        rw [hz, hN]
        rw [hN] at hs9
        have HCI := hide (cL_i64 (n := n) (kind := kind) H256.out)
        obtain ⟨ks, hks⟩ : ∃ ks, Z.cL b n kind = ks := ⟨_, rfl⟩
        rw [hks] at hs9 hchk hcb HCI
        have HU := hide hs9
        have HCK := hide hchk
        have HCB := hide hcb
        have HBL : Hid (b.length = len1) := by show _ = _; rw [← HB.out.1, ints_length]
        obtain rfl : n = (N : Int) := hn
        clear hs9 hchk hcb hks hN hz
        go_wp2_with fail
        refine (pbytes_any ua N uc ks kind _ HU.out HCI.out).mono ?_
        rintro e w10 ⟨ya, yc, rfl, hs10, hb⟩
        rw [HCK.out, HCB.out, HBL.out]
        rw [HCB.out, HBL.out] at hs10
        replace b0 := hide (bthen b0.out hb)
        have t1 := str_of hs10
        have t2 := str_of (HB.out.below b0.out)
        obtain ⟨X, hX⟩ : ∃ X, strOfNums (ints b) = X := ⟨_, rfl⟩
        rw [hX] at t1 t2
        have hxx : (X.toList == X.toList) = true := by simp
        have hnn : ((N : Int) == (N : Int)) = true := by simp
        clear hb hs10 hX HU
        go_wp2
        go_ret
        exact ⟨rfl, b0.out⟩
      · have hcl : Z.cL b n kind = [] := by unfold Z.cL; rw [if_neg hz]
        obtain ⟨H, hH⟩ : ∃ H, Z.cE b n kind = H := ⟨_, rfl⟩
        rw [hH] at hz
        have hzb : (H != 0) = true := by simpa using hz
        rw [hcl, hH]
        clear hs9 hcl hH hz
        go_wp2
        go_ret
        exact ⟨rfl, b0.out⟩
theorem plainBack_walk (w : World) (a : Option Addr) (len cap : Nat) (l : List Z.V) (hs : SlV w a len cap l) (hwf : ∀ x ∈ l, Z.Wf x) (hr : cap * 32 ≤ 140737488351232) (kind : Int) (wk : (Lit.int .i64 kind).wf = true) (a1 : Option Addr) (len1 cap1 : Nat) (z : List Int) (c : Came .u8 w a1 len1 cap1 z) (hr1 : cap1 * 1 ≤ 140737488351232) (n : Int) (wn : (Lit.int .i64 n).wf = true) :
    Calls Try.prog 4 #[.slice a len cap, .int .i64 kind, .slice a1 len1 cap1, .int .i64 n] w fun e w' => e = .returned (.bool true) ∧ Below w.heap.size w w' := by
  obtain ⟨b, rfl, h256⟩ := came_bytes c
  exact plainBack_in w a len cap l hs hwf hr kind a1 len1 cap1 b c.1 h256 hr1 n
end Go.Proofs.Ythcnfbjljkighaa

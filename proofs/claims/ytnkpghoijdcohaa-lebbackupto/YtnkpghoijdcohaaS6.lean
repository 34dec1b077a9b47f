/- The walk of the statement: what was put is got, and what stands behind it is told. -/
import Derived.Test.YtnkpghoijdcohaaE10
import Derived.Test.YtnkpghoijdcohaaRU
import Derived.Test.YtnkpghoijdcohaaS2
namespace Go.Proofs.Ytnkpghoijdcohaa
set_option linter.unusedVariables false
open Go.RowKit

theorem x_put (body more : List Nat) (n : Int) (hn : n = (body.length : Int)) (hl : body.length < 18446744073709551616) : E.xE n (E.leb body.length ++ (body ++ more)) = 0 ∧ E.yS n (E.leb body.length ++ (body ++ more)) = body ∧ E.yR n (E.leb body.length ++ (body ++ more)) = more := by
  obtain ⟨g1, g2, g3⟩ := E.g_put body.length hl (body ++ more)
  have e : E.xE n (E.leb body.length ++ (body ++ more)) = 0 := E.xE_ok g1 (by omega) (by rw [g3]; omega) (by rw [g2, g3]; simp)
  unfold E.yS E.yR
  rw [if_pos e, if_pos e, E.xS, E.xR, g2, g3, List.drop_left]
  exact ⟨e, by simp, by simp⟩
theorem str_sb (s : ByteArray) : strOfNums (ints (sb s)) = s := by
  cases s with
  | mk d =>
    simp only [strOfNums, ints, sb, List.map_map]
    congr 1
    have : (d.toList.map ((fun n : Int => UInt8.ofNat n.toNat) ∘ (fun x : Nat => (x : Int)) ∘ UInt8.toNat)) = d.toList := by
      conv => rhs; rw [← List.map_id d.toList]
      apply List.map_congr_left
      intro x _
      simp
    rw [this]

/-- A slice of one's own and bytes that can be read, joined: by an append. -/
theorem joined {w : World} {B : Nat} {v : Value} {l m : List Nat} (h : w.ownsRow B 5 1 v (l.length + m.length) (B8 l ++ (ints m).map (Value.int .u8))) {lim : Nat} (hlim : (l ++ m).length ≤ lim) : ∃ a c k, v = .slice a k c ∧ Sl w .u8 a k c (ints (l ++ m)) ∧ k ≤ lim := by
  rw [← B8_ints, ← B8_append, ← List.length_append] at h
  obtain ⟨a, c, h1, h2, _⟩ := Sl.of_bytes h
  exact ⟨a, c, _, h1, h2, hlim⟩

set_option maxHeartbeats 2000000 in
theorem lebBack_in (w : World) (n : Int) (hn0 : 0 ≤ n) (hn1 : n < 18446744073709551616) (a1 : Option Addr) (len1 cap1 : Nat) (l : List Int) (hsl : Sl w .i64 a1 len1 cap1 l) (hin : E.In l) (h1 : len1 ≤ 1048576) (s : ByteArray) (hs : s.size ≤ 1048576) (a3 : Option Addr) (len3 cap3 : Nat) (m : List Nat) (hsm : Sl w .u8 a3 len3 cap3 (ints m)) (h256 : ∀ x ∈ m, x < 256) (h3 : len3 ≤ 1048576) :
    Calls Try.prog 5 #[.int .u64 n, .slice a1 len1 cap1, .string s, .slice a3 len3 cap3] w fun e w' => e = .returned (.bool true) ∧ Below w.heap.size w w' := by
  obtain ⟨i0, hi, hz0, hz1, hz2⟩ := info_parts Try.infoU8
  have hll := E.lebs_le l hin
  rw [hsl.1] at hll
  have h10 := E.leb_ten n.toNat (by omega)
  have hs10 := E.leb_ten s.size (by omega)
  have HLL := hide hsl.1
  have HML : Hid (m.length = len3) := by have := hsm.1; rw [ints_length] at this; exact this
  have HSL := hide hsl
  have HSM := hide hsm
  have HIN := hide hin
  have H2 := hide h256
  have HG := hide (E.g_put n.toNat (by omega) m)
  have HP := hide (i_put l hin m (len1 : Int) (by rw [hsl.1]))
  have HX := hide (x_put (sb s) m (s.size : Int) (by rw [sb_length]) (by rw [sb_length]; omega))
  have hnone : a3 = none → len3 = 0 ∧ cap3 = 0 := fun e => by have := hsm.2.2.2.1 e; have := hsm.2.1; omega
  clear hsl hsm hin h256
  go_enter Try.func5, Try.ntmps5
  go_wp2_with fail
  refine (shown_any w).mono ?_
  rintro e w2 ⟨rfl, hb⟩
  go_wp2_with fail
  refine (put_any n _ hn0 hn1).mono ?_
  rintro e w3 ⟨v3, rfl, ho3, hb3⟩
  have hb4 := hb.trans (hb3.mono hb.size)
  have hs3 := hb3.size
  have HS3 := hide (HSM.out.below hb4)
  have HB2 := hide hb
  clear hb hb3
  go_wp2_with (at_builtin; refine wpList_append_to rfl (.tmp 22) (.tmp 23) 23 rfl w2.heap.size 5 i0 (.int .u8 0) 1 1 Try.underlying23 hi hz0 hz1 hz2 rfl (by decide) _ _ _ rfl ho3 a3 len3 cap3 ((ints m).map (Value.int .u8)) rfl hnone (by simpa using HSM.out.1) HS3.out.news (ints_oneCell _ _) (by unfold maxLen; omega) (by omega) hs3 ?_)
  intro v5 w5 ho5 has5
  rw [← HML.out] at ho5
  have hb6 : Below w.heap.size w w5 := hb4.trans (has5.below hb4.size (fun k hk => by have := (owns_lt ho3 hk).1; have := HB2.out.size; omega))
  obtain ⟨a5, c5, k5, hv5, hs5, hl5⟩ := joined ho5 (lim := 2097152) (by rw [List.length_append, HML.out]; omega)
  have HS5 := hide hs5
  clear hb4 ho3 ho5 has5 hs5 hs3 HS3
  subst hv5
  go_wp2_with fail
  refine (get_any _ _ _ (E.leb n.toNat ++ m) _ HS5.out (fun x hx => (List.mem_append.1 hx).elim (E.leb_lt _ x) (H2.out x)) (by omega)).mono ?_
  rintro e w7 ⟨rfl, hb7⟩
  rw [HG.out.1, HG.out.2.1, HG.out.2.2]
  have hb8 := hb6.trans (hb7.mono hb6.size)
  clear hb6 hb7 HS5 hl5
  go_wp2_with fail
  refine (ints_any _ _ _ l _ (HSL.out.below hb8) (by omega) HIN.out).mono ?_
  rintro e w9 ⟨v9, rfl, ho9, hb9⟩
  have hb10 := hb8.trans (hb9.mono hb8.size)
  have hs9 := hb9.size
  have HS9 := hide (HSM.out.below hb10)
  have HB8 := hide hb8.size
  clear hb8 hb9
  go_wp2_with (at_builtin; refine wpList_append_to rfl (.tmp 31) (.tmp 32) 23 rfl w7.heap.size 5 i0 (.int .u8 0) 1 1 Try.underlying23 hi hz0 hz1 hz2 rfl (by decide) _ _ _ rfl ho9 a3 len3 cap3 ((ints m).map (Value.int .u8)) rfl hnone (by simpa using HSM.out.1) HS9.out.news (ints_oneCell _ _) (by unfold maxLen; omega) (by omega) hs9 ?_)
  intro v11 w11 ho11 has11
  rw [← HML.out] at ho11
  have hb12 : Below w.heap.size w w11 := hb10.trans (has11.below hb10.size (fun k hk => by have := (owns_lt ho9 hk).1; have := HB8.out; omega))
  obtain ⟨a11, c11, k11, hv11, hs11, hl11⟩ := joined ho11 (lim := 16777216) (by rw [List.length_append, HML.out]; omega)
  have HS11 := hide hs11
  clear hb10 ho9 ho11 has11 hs11 hs9 HS9 HB8
  subst hv11
  go_wp2_with fail
  refine (toints_any _ _ _ (E.lebs l ++ m) _ _ HS11.out (fun x hx => (List.mem_append.1 hx).elim (E.lebs_lt _ x) (H2.out x)) (by omega) (by omega) (by omega)).mono ?_
  rintro e w13 ⟨v13, v14, rfl, ⟨⟨a13, c13, hv13, hs13, _⟩, a14, c14, hv14, hs14⟩, hb13⟩
  rw [HP.out.1]
  rw [HP.out.2.1] at hv13 hs13
  rw [HP.out.2.2] at hv14 hs14
  rw [HLL.out] at hv13 hs13
  rw [HML.out] at hv14 hs14
  have hb14 := hb12.trans (hb13.mono hb12.size)
  have HS13 := hide hs13
  have HS14 := hide hs14
  clear hb12 hb13 HS11 hl11 hs13 hs14
  subst hv13 hv14
  go_wp2_with fail
  refine (text_any s _ (by omega)).mono ?_
  rintro e w15 ⟨v15, rfl, ho15, hb15⟩
  have hb16 := hb14.trans (hb15.mono hb14.size)
  have hs15 := hb15.size
  have HS15 := hide (HSM.out.below hb16)
  have HB15 := hide hb15
  have HB14 := hide hb14.size
  have hlt : (E.leb s.size ++ sb s).length ≤ 1048586 := by rw [List.length_append, sb_length]; omega
  clear hb14 hb15
  go_wp2_with (at_builtin; refine wpList_append_to rfl (.tmp 42) (.tmp 43) 23 rfl w13.heap.size 5 i0 (.int .u8 0) 1 1 Try.underlying23 hi hz0 hz1 hz2 rfl (by decide) _ _ _ rfl ho15 a3 len3 cap3 ((ints m).map (Value.int .u8)) rfl hnone (by simpa using HSM.out.1) HS15.out.news (ints_oneCell _ _) (by unfold maxLen; omega) (by omega) hs15 ?_)
  intro v17 w17 ho17 has17
  rw [← HML.out] at ho17
  have hk17 : Below w13.heap.size w13 w17 := HB15.out.trans (has17.below hs15 (fun k hk => (owns_lt ho15 hk).1))
  have hb18 : Below w.heap.size w w17 := hb16.trans (has17.below hb16.size (fun k hk => by have := (owns_lt ho15 hk).1; have := HB14.out; omega))
  obtain ⟨a17, c17, k17, hv17, hs17, hl17⟩ := joined (l := E.leb s.size ++ sb s) (m := m) (by rw [List.length_append]; exact ho17) (lim := 16777216) (by rw [List.length_append, HML.out]; omega)
  rw [List.append_assoc] at hs17
  have HS17 := hide hs17
  have HS13' := hide (HS13.out.below hk17)
  have HS14' := hide (HS14.out.below hk17)
  clear hb16 ho15 ho17 has17 hs17 hs15 hk17 HS15 HB14 HB15 HS13 HS14
  subst hv17
  go_wp2_with fail
  refine (totext_any _ _ _ (E.leb s.size ++ (sb s ++ m)) _ _ HS17.out (fun x hx => (List.mem_append.1 hx).elim (E.leb_lt _ x) (fun hx => (List.mem_append.1 hx).elim (sb_lt s x) (H2.out x))) (by omega) (by omega) (by omega)).mono ?_
  rintro e w19 ⟨v19, v20, rfl, ⟨hv19, a20, c20, hv20, hs20⟩, hb19⟩
  have hx := HX.out
  rw [sb_length] at hx
  rw [hx.1]
  rw [hx.2.1, str_sb] at hv19
  rw [hx.2.2] at hv20 hs20
  rw [HML.out] at hv20 hs20
  have hb20 := hb18.trans (hb19.mono hb18.size)
  have HS13 := hide (HS13'.out.below hb19)
  have HS14 := hide (HS14'.out.below hb19)
  have HS20 := hide hs20
  clear hb18 hb19 HS17 hl17 hs20 hx HS13' HS14'
  subst hv19 hv20
  go_wp2_with fail
  refine (put_any n _ hn0 hn1).mono ?_
  rintro e w21 ⟨v21, rfl, ho21, hb21⟩
  have hb22 := hb20.trans (hb21.mono hb20.size)
  obtain ⟨a21, c21, hv21, _, _⟩ := Sl.of_bytes ho21
  have HS13' := hide (HS13.out.below hb21)
  have HS14' := hide (HS14.out.below hb21)
  have HS20' := hide (HS20.out.below hb21)
  clear hb20 hb21 ho21 HS13 HS14 HS20
  subst hv21
  go_wp2_with fail
  refine (same_yes _ _ _ _ _ l _ (HSL.out.below hb22) HS13'.out (by omega)).mono ?_
  rintro e w23 ⟨rfl, hk23⟩
  have hb24 := hb22.trans (hk23.below hb22.size (by simp))
  have hcv1 := str_of (HS14'.out.kept hk23 (by simp))
  have hcv2 := str_of (HS20'.out.kept hk23 (by simp))
  have hcv3 := str_of (HSM.out.below hb24)
  clear hb22 hk23
  go_wp2
  go_ret
  exact ⟨rfl, hb24⟩

theorem lebBack_walkU (w : World) (n : Int) (wn : (Lit.int .u64 n).wf = true) (a1 : Option Addr) (len1 cap1 : Nat) (l : List Int) (c1 : Came .i64 w a1 len1 cap1 l) (h1 : cap1 ≤ 1048576) (s : ByteArray) (hs : s.size ≤ 1048576) (a3 : Option Addr) (len3 cap3 : Nat) (z : List Int) (c3 : Came .u8 w a3 len3 cap3 z) (h3 : cap3 ≤ 1048576) :
    Calls Try.prog 5 #[.int .u64 n, .slice a1 len1 cap1, .string s, .slice a3 len3 cap3] w fun e w' => e = .returned (.bool true) ∧ Below w.heap.size w w' := by
  obtain ⟨m, rfl, h256⟩ := came_bytes c3
  obtain ⟨hn0, hn1⟩ := wf_u64 wn
  have := c1.1.2.1
  have := c3.1.2.1
  exact lebBack_in w n hn0 hn1 a1 len1 cap1 l c1.1 (fun x hx => wf_i64 (c1.2 x hx)) (by omega) s hs a3 len3 cap3 m c3.1 h256 (by omega)
end Go.Proofs.Ytnkpghoijdcohaa

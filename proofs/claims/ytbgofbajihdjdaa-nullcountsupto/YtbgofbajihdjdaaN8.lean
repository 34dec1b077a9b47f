/- The walk of the statement: of a column none is lost; places of columns one behind the other are those of both. -/
import Derived.Test.YtbgofbajihdjdaaT9
import Derived.Test.YtbgofbajihdjdaaT7
namespace Go.Proofs.Ytbgofbajihdjdaa
set_option linter.unusedVariables false
open Go.RowKit

theorem nus_append (l m : List Z.V) : nus (l ++ m) = nus l ++ nus m := by simp [nus]
theorem oth_append (l m : List Z.V) : oth (l ++ m) = oth l ++ oth m := by simp [oth]
theorem cntT_append (a b : List Bool) : cntT (a ++ b) = cntT a + cntT b := by simp [cntT]
/-- Here the walk stands still. -/
structure Held (p : Prop) : Prop where
  out : p
theorem stop_here {p : Prop} (h : Held p) : p := h.out
/-- No values, and no bools, in new memory. -/
theorem own_bareV (w : World) {B : Nat} (hB : B ≤ w.heap.size) : OwnV (w.alloc (.cells #[] 44)) B (.slice (some ⟨w.heap.size, 0, none⟩) 0 0) [] := World.ownsRow_lit w #[] 0 hB (by decide) rfl
theorem own_bareB (w : World) {B : Nat} (hB : B ≤ w.heap.size) : (w.alloc (.cells #[] 4)).ownsRow B 4 1 (.slice (some ⟨w.heap.size, 0, none⟩) 0 0) 0 [] := World.ownsRow_lit w #[] 0 hB (by decide) rfl
theorem Sb.news {w : World} {ao : Option Addr} {len cap : Nat} {l : List Bool} (h : Sb w ao len cap l) : ∀ ad, ao = some ad → ∀ j u, (Vb l)[j]? = some u → w.cell? (ad.add j) = some u := by
  obtain ⟨h1, h2, h3, h4, h5⟩ := h
  intro ad had j u hu
  have hj : j < l.length := by have := (List.getElem?_eq_some_iff.1 hu).1; simpa [Vb] using this
  rcases h5 with h5 | ⟨b, off, hao, hlt, h5⟩
  · omega
  · rw [hao] at had
    obtain rfl := Option.some.inj had
    rw [Addr.add_lit, h5 j (by omega)]
    simpa [List.getD, hj, Vb] using hu
theorem Vb_one (l : List Bool) : ∀ u ∈ Vb l, u.oneCell' = true := by
  intro u hu
  obtain ⟨x, _, rfl⟩ := List.mem_map.1 hu
  rfl

set_option maxHeartbeats 4000000 in
theorem nullCounts_walkU (w : World) (a : Option Addr) (len cap : Nat) (l : List Z.V) (hs : SlV w a len cap l) (hr : cap ≤ 1048576) (a1 : Option Addr) (len1 cap1 : Nat) (m : List Z.V) (hs1 : SlV w a1 len1 cap1 m) (hr1 : cap1 ≤ 1048576) :
    Calls Try.prog 7 #[.slice a len cap, .slice a1 len1 cap1] w fun e w' => e = .returned (.bool true) ∧ Below w.heap.size w w' := by
  have hlen : len ≤ 1048576 := by have := hs.2.1; omega
  have hlen1 : len1 ≤ 1048576 := by have := hs1.2.1; omega
  have HS := hide hs
  have HM := hide hs1
  have HLL := hide hs.1
  have HML := hide hs1.1
  have HNL : Hid ((nus l).length = len) := by show _ = _; rw [nus_length, hs.1]
  have HNM : Hid ((nus m).length = len1) := by show _ = _; rw [nus_length, hs1.1]
  have HNA : Hid ((nus (l ++ m)).length = len + len1) := by show _ = _; rw [nus_length, List.length_append, hs.1, hs1.1]
  have h1 := cntT_oth l
  have h2 := cntT_oth m
  rw [hs.1] at h1
  rw [hs1.1] at h2
  obtain ⟨x, hx⟩ : ∃ x, (oth l).length = x := ⟨_, rfl⟩
  obtain ⟨y, hy⟩ : ∃ y, (oth m).length = y := ⟨_, rfl⟩
  obtain ⟨ca, hca⟩ : ∃ c, cntT (nus l) = c := ⟨_, rfl⟩
  obtain ⟨cb, hcb⟩ : ∃ c, cntT (nus m) = c := ⟨_, rfl⟩
  have HX := hide hx
  have HY := hide hy
  have HCA := hide hca
  have HCB := hide hcb
  have HXY : Hid ((oth (l ++ m)).length = x + y) := by show _ = _; rw [oth_append, List.length_append, hx, hy]
  have HCC : Hid (cntT (nus (l ++ m)) = ca + cb) := by show _ = _; rw [nus_append, cntT_append, hca, hcb]
  rw [hx, hca] at h1
  rw [hy, hcb] at h2
  clear hs hs1 hr hr1 hx hy hca hcb
  have b1 : x ≤ 1048576 := by omega
  have b2 : y ≤ 1048576 := by omega
  have b3 : ca ≤ 1048576 := by omega
  have b4 : cb ≤ 1048576 := by omega
  have H1 := hide h1
  clear h1 h2
  go_enter Try.func7, Try.ntmps7
  go_wp2_with fail
  refine (nshown_any _).mono ?_
  rintro e w1 ⟨rfl, hb⟩
  have b0 := hide hb
  clear hb
  go_wp2_with fail
  refine (zsplit_any a len cap l _ (HS.out.below b0.out) (by omega)).mono ?_
  rintro e w2 ⟨v1, v2, rfl, hn1, ho2, hb⟩
  obtain ⟨p1, c1, rfl, s1, _⟩ := Sb.of_owns (l := nus l) (by rw [HNL.out]; exact hn1)
  obtain ⟨p2, c2, rfl, s2, _⟩ := SlV.of_own ho2
  rw [HNL.out] at s1 ⊢
  rw [HX.out]
  have HS1 := hide s1
  replace b0 := hide (bthen b0.out hb)
  clear hn1 ho2 hb s1 s2
  go_wp2_with fail
  refine (zsplit_any a1 len1 cap1 m _ (HM.out.below b0.out) (by omega)).mono ?_
  rintro e w3 ⟨v1, v2, rfl, hn1, ho2, hb⟩
  obtain ⟨p3, c3, rfl, s3, _⟩ := Sb.of_owns (l := nus m) (by rw [HNM.out]; exact hn1)
  obtain ⟨p4, c4, rfl, s4, _⟩ := SlV.of_own ho2
  rw [HNM.out] at s3 ⊢
  rw [HY.out]
  replace HS1 := hide (HS1.out.below hb)
  have HS3 := hide s3
  replace b0 := hide (bthen b0.out hb)
  clear hn1 ho2 hb s3 s4
  go_wp2_with (at_builtin; refine wpList_appV rfl (.tmp 24) (.tmp 25) rfl w3.heap.size _ [] rfl (own_bareV w3 (Nat.le_refl _)) a len cap l rfl ((HS.out.below b0.out).below (below_one w3 _)) (by simp; omega) (by simp) ?_)
  intro v5 w4 ho4 has _
  have hb4 : Below w3.heap.size w3 w4 := (below_one w3 _).trans (has.below (by simp) (fun k hk => by simp [Value.ownBlock] at hk; omega))
  have HO4 := hide ho4
  have HB4 := hide hb4
  have hsz4 := hb4.size
  clear ho4 has hb4
  go_wp2_with (at_builtin; refine wpList_appV rfl (.tmp 26) (.tmp 27) rfl w3.heap.size v5 l rfl HO4.out a1 len1 cap1 m rfl ((HM.out.below b0.out).below HB4.out) (by rw [HLL.out]; omega) hsz4 ?_)
  intro v6 w5 ho5 has _
  have hb5 : Below w3.heap.size w3 w5 := HB4.out.trans (has.below hsz4 (fun k hk => (owns_lt HO4.out hk).1))
  obtain ⟨p5, c5, rfl, s5, _⟩ := SlV.of_own ho5
  have hla : (l ++ m).length = len + len1 := by rw [List.length_append, HLL.out, HML.out]
  rw [hla] at s5 ⊢
  have HS5 := hide s5
  replace b0 := hide (bthen b0.out hb5)
  replace HS1 := hide (HS1.out.below hb5)
  replace HS3 := hide (HS3.out.below hb5)
  clear ho5 has hb5 s5 HO4 HB4 hla hsz4
  go_wp2_with fail
  refine (zsplit_any p5 (len + len1) c5 (l ++ m) _ HS5.out (by omega)).mono ?_
  rintro e w6 ⟨v1, v2, rfl, hn1, ho2, hb⟩
  obtain ⟨p6, c6, rfl, s6, _⟩ := Sb.of_owns (l := nus (l ++ m)) (by rw [HNA.out]; exact hn1)
  obtain ⟨p7, c7, rfl, s7, _⟩ := SlV.of_own ho2
  rw [HNA.out] at s6 ⊢
  rw [HXY.out]
  replace HS1 := hide (HS1.out.below hb)
  replace HS3 := hide (HS3.out.below hb)
  have HS6 := hide s6
  replace b0 := hide (bthen b0.out hb)
  clear hn1 ho2 hb s6 s7 HS5
  obtain ⟨i0, hi, hz0, hz1, hz2⟩ := info_parts Try.infoBool
  go_wp2_with (guard_target =~ wpList _ _ _ ((⟨some 37, _, _, _, _, _⟩ : Oper) :: _) _ _; refine stop_here ?_)
  refine ⟨?_⟩
  refine V.wpList_any_guard ?hw (wpList_append_to rfl (.tmp 35) (.tmp 36) 23 rfl w6.heap.size 4 i0 (.bool false) 1 1 Try.underlying23 hi hz0 hz1 hz2 rfl (by decide) (.slice (some ⟨w6.heap.size, 0, none⟩) 0 0) 0 [] rfl (own_bareB w6 (Nat.le_refl _)) p1 len c1 (Vb (nus l)) rfl (fun e => by have := HS1.out.2.2.2.1 e; have := HS1.out.2.1; omega) (by rw [Vb_length, HNL.out]; omega) ((HS1.out.below (below_one w6 _)).news) (Vb_one _) (by unfold maxLen; omega) (by omega) (by simp) ?_)
  case hw => simp [Region.wanted, yielded]
  intro v8 w7 ho7 has
  refine ⟨rfl, ?_⟩
  have hb7 : Below w6.heap.size w6 w7 := (below_one w6 _).trans (has.below (by simp) (fun k hk => by simp [Value.ownBlock] at hk; omega))
  have HO7 : Hid (w7.ownsRow w6.heap.size 4 1 v8 len (Vb (nus l))) := by
    show World.ownsRow _ _ _ _ _ _ _
    simpa using ho7
  have HB7 := hide hb7
  have hsz7 := hb7.size
  clear ho7 has hb7
  simp only [Act.put, List.setIfInBounds_toArray, List.set_cons_zero, List.set_cons_succ]
  go_wp2_with (guard_target =~ wpList _ _ _ ((⟨some 39, _, _, _, _, _⟩ : Oper) :: _) _ _; refine stop_here ?_)
  refine ⟨?_⟩
  refine V.wpList_any_guard ?hw (wpList_append_to rfl (.tmp 37) (.tmp 38) 23 rfl w6.heap.size 4 i0 (.bool false) 1 1 Try.underlying23 hi hz0 hz1 hz2 rfl (by decide) v8 len (Vb (nus l)) rfl HO7.out p3 len1 c3 (Vb (nus m)) rfl (fun e => by have := HS3.out.2.2.2.1 e; have := HS3.out.2.1; omega) (by rw [Vb_length, HNM.out]; omega) ((HS3.out.below HB7.out).news) (Vb_one _) (by unfold maxLen; omega) (by omega) hsz7 ?_)
  case hw => simp [Region.wanted, yielded]
  intro v9 w8 ho8 has
  refine ⟨rfl, ?_⟩
  have hb8 : Below w6.heap.size w6 w8 := HB7.out.trans (has.below hsz7 (fun k hk => (owns_lt HO7.out hk).1))
  rw [← Vb_append, ← nus_append] at ho8
  obtain ⟨p9, c9, rfl, s9, _⟩ := Sb.of_owns (l := nus (l ++ m)) (by rw [HNA.out]; exact ho8)
  rw [HNA.out] at s9 ⊢
  have HS9 := hide s9
  replace b0 := hide (bthen b0.out hb8)
  replace HS1 := hide (HS1.out.below hb8)
  replace HS3 := hide (HS3.out.below hb8)
  replace HS6 := hide (HS6.out.below hb8)
  clear ho8 has hb8 s9 HO7 HB7 hsz7
  simp only [Act.put, List.setIfInBounds_toArray, List.set_cons_zero, List.set_cons_succ]
  go_wp2_with fail
  refine (bsame_yes p6 p9 (len + len1) c6 c9 (nus (l ++ m)) _ HS6.out HS9.out (by omega)).mono ?_
  rintro e w10 ⟨rfl, hb⟩
  replace b0 := hide (bthen b0.out hb)
  replace HS1 := hide (HS1.out.below hb)
  replace HS3 := hide (HS3.out.below hb)
  replace HS6 := hide (HS6.out.below hb)
  clear hb HS9
  go_wp2_with fail
  refine (zcount_any p6 (len + len1) c6 (nus (l ++ m)) _ HS6.out (by omega)).mono ?_
  rintro e w11 ⟨rfl, hb⟩
  replace b0 := hide (bthen b0.out hb)
  replace HS1 := hide (HS1.out.below hb)
  replace HS3 := hide (HS3.out.below hb)
  rw [HCC.out]
  clear hb HS6
  go_wp2_with fail
  refine (zcount_any p1 len c1 (nus l) _ HS1.out (by omega)).mono ?_
  rintro e w12 ⟨rfl, hb⟩
  replace b0 := hide (bthen b0.out hb)
  replace HS1 := hide (HS1.out.below hb)
  replace HS3 := hide (HS3.out.below hb)
  rw [HCA.out]
  clear hb
  go_wp2_with fail
  refine (zcount_any p3 len1 c3 (nus m) _ HS3.out (by omega)).mono ?_
  rintro e w13 ⟨rfl, hb⟩
  replace b0 := hide (bthen b0.out hb)
  replace HS1 := hide (HS1.out.below hb)
  rw [HCB.out]
  clear hb HS3
  go_wp2_with fail
  refine (zcount_any p1 len c1 (nus l) _ HS1.out (by omega)).mono ?_
  rintro e w14 ⟨rfl, hb⟩
  replace b0 := hide (bthen b0.out hb)
  rw [HCA.out]
  clear hb HS1
  have hfin : ((len : Int) == (x : Int) + (ca : Int)) = true := by rw [beq_iff_eq]; have := H1.out; omega
  go_wp2
  go_ret
  exact ⟨by simp, b0.out⟩
end Go.Proofs.Ytbgofbajihdjdaa

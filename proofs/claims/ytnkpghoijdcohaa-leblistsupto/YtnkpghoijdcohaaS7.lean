/- The walk of the statement: numbers' bytes, texts' bytes, and bytes as these, are the document's. -/
import Derived.Test.YtnkpghoijdcohaaG4
import Derived.Test.YtnkpghoijdcohaaG5
import Derived.Test.YtnkpghoijdcohaaRU
namespace Go.Proofs.Ytnkpghoijdcohaa
set_option linter.unusedVariables false
open Go.RowKit

def listsTbl (a1 : Option Addr) (len1 cap1 : Nat) (l : List Int) (s : ByteArray) (b : List Nat) (n I J : Int) (T : ByteArray) (ax ay ap aq av aw : Option Addr) (kx cx cy kp cp cq kv cv cw : Nat) : List (Nat × V.Ent) :=
   [(9, V.Ent.is (.bool true)),
    (0, V.Ent.is (.slice a1 len1 cap1)),
    (1, V.Ent.is (.string s)),
    (10, V.Ent.is (.slice ax kx cx)),
    (13, V.Ent.is (.slice ay kx cy)),
    (11, V.Ent.is (.slice ap kp cp)),
    (14, V.Ent.is (.slice aq kp cq)),
    (12, V.Ent.is (.int .i64 I)),
    (15, V.Ent.is (.int .i64 I)),
    (16, V.Ent.is (.string T)),
    (19, V.Ent.is (.string T)),
    (17, V.Ent.is (.slice av kv cv)),
    (20, V.Ent.is (.slice aw kv cw)),
    (18, V.Ent.is (.int .i64 J)),
    (21, V.Ent.is (.int .i64 J)),
    (51, V.Ent.is (.bool true)),
    (52, V.Ent.is (.bool true)),
    (53, V.Ent.is (.slice a1 len1 cap1)),
    (54, V.Ent.sl ((E.lebs l).length) ((E.lebs l))),
    (55, V.Ent.is (.string (strOfNums (ints ((E.lebs l)))))),
    (56, V.Ent.is (.slice a1 len1 cap1)),
    (57, V.Ent.sl ((E.lebs l).length) ((E.lebs l))),
    (58, V.Ent.is (.string (strOfNums (ints ((E.lebs l)))))),
    (59, V.Ent.is (.bool true)),
    (60, V.Ent.is (.bool true)),
    (61, V.Ent.is (.bool true)),
    (62, V.Ent.is (.string s)),
    (63, V.Ent.sl ((E.leb s.size ++ sb s).length) ((E.leb s.size ++ sb s))),
    (64, V.Ent.is (.string (strOfNums (ints ((E.leb s.size ++ sb s)))))),
    (65, V.Ent.is (.string s)),
    (66, V.Ent.sl ((E.leb s.size ++ sb s).length) ((E.leb s.size ++ sb s))),
    (67, V.Ent.is (.string (strOfNums (ints ((E.leb s.size ++ sb s)))))),
    (68, V.Ent.is (.bool true)),
    (69, V.Ent.is (.bool true)),
    (70, V.Ent.is (.bool true)),
    (71, V.Ent.is (.slice ax kx cx)),
    (72, V.Ent.is (.slice ay kx cy)),
    (73, V.Ent.is (.bool true)),
    (74, V.Ent.is (.bool true)),
    (75, V.Ent.is (.bool true)),
    (76, V.Ent.is (.slice ap kp cp)),
    (77, V.Ent.is (.string (strOfNums (ints (E.iR n b))))),
    (78, V.Ent.is (.slice aq kp cq)),
    (79, V.Ent.is (.string (strOfNums (ints (E.iR n b))))),
    (80, V.Ent.is (.bool true)),
    (81, V.Ent.is (.bool true)),
    (82, V.Ent.is (.bool true)),
    (83, V.Ent.is (.int .i64 I)),
    (84, V.Ent.is (.int .i64 I)),
    (85, V.Ent.is (.bool true)),
    (86, V.Ent.is (.bool true)),
    (87, V.Ent.is (.bool true)),
    (88, V.Ent.is (.string T)),
    (89, V.Ent.is (.string T)),
    (90, V.Ent.is (.bool true)),
    (91, V.Ent.is (.bool true)),
    (92, V.Ent.is (.bool true)),
    (93, V.Ent.is (.slice av kv cv)),
    (94, V.Ent.is (.string (strOfNums (ints (E.yR n b))))),
    (95, V.Ent.is (.slice aw kv cw)),
    (96, V.Ent.is (.string (strOfNums (ints (E.yR n b))))),
    (97, V.Ent.is (.bool true)),
    (98, V.Ent.is (.bool true)),
    (99, V.Ent.is (.bool true)),
    (100, V.Ent.is (.int .i64 J)),
    (101, V.Ent.is (.int .i64 J)),
    (102, V.Ent.is (.bool true)),
    (103, V.Ent.is (.bool true)),
    (8, V.Ent.is (.bool true))]

theorem iL_le (n : Int) (b : List Nat) (h256 : ∀ x ∈ b, x < 256) : (E.iL n b).length ≤ b.length := by
  unfold E.iL
  split
  · rename_i h
    by_cases hn : n < 0
    · rw [E.iE_neg hn] at h; exact absurd h (by decide)
    · rw [E.iE_pos (by omega)] at h
      have := E.tR_length _ b h256 h
      rw [E.tL_length]; omega
  · simp

set_option maxHeartbeats 2000000 in
theorem lebLists_in (w : World) (a1 : Option Addr) (len1 cap1 : Nat) (l : List Int) (hsl : Sl w .i64 a1 len1 cap1 l) (hin : E.In l) (h1 : len1 ≤ 1048576) (s : ByteArray) (hs : s.size ≤ 1048576) (a2 : Option Addr) (len2 cap2 : Nat) (b : List Nat) (hsb : Sl w .u8 a2 len2 cap2 (ints b)) (h256 : ∀ x ∈ b, x < 256) (h2 : len2 ≤ 1048576) (n : Int) (hn0 : -9223372036854775808 ≤ n) (hn1 : n < 9223372036854775808) :
    Calls Try.prog 4 #[.slice a1 len1 cap1, .string s, .slice a2 len2 cap2, .int .i64 n] w fun e w' => e = .returned (.bool true) ∧ Below w.heap.size w w' := by
  have hbl : b.length = len2 := by rw [← hsb.1, ints_length]
  have hil := iL_le n b h256
  rw [hbl] at hil
  have HSL0 := hide hsl
  have HSB := hide hsb
  have HIN := hide hin
  have H2 := hide h256
  clear hsl hsb hin h256 hbl
  go_enter Try.func4, Try.ntmps4
  go_wp2_with fail
  refine (shown_any w).mono ?_
  rintro e w2 ⟨rfl, hb⟩
  go_wp2_with fail
  refine (toints_any _ _ _ b _ _ (HSB.out.below hb) H2.out (by omega) hn0 hn1).mono ?_
  rintro e w3 ⟨v1, v2, rfl, ⟨⟨ax, cx, hv1, hsx, _⟩, ap, cp, hv2, hsp⟩, hb3⟩
  have hb4 := hb.trans (hb3.mono hb.size)
  obtain ⟨I, hI⟩ : ∃ X : Int, ((E.iE n b : Nat) : Int) = X := ⟨_, rfl⟩
  obtain ⟨kx, hkx⟩ : ∃ k, (E.iL n b).length = k := ⟨_, rfl⟩
  obtain ⟨kp, hkp⟩ : ∃ k, (E.iR n b).length = k := ⟨_, rfl⟩
  rw [hkx] at hv1 hsx hil
  rw [hkp] at hv2 hsp
  rw [hI]
  have HI := hide hI
  have HKX := hide hkx
  have HKP := hide hkp
  have HX1 := hide hsx
  have HP1 := hide hsp
  clear hb hb3 hI hkx hkp hsx hsp
  subst hv1 hv2
  go_wp2_with fail
  refine (rtoints_any _ _ _ b _ _ (HSB.out.below hb4) H2.out (by omega) hn1).mono ?_
  rintro e w5 ⟨v1, v2, rfl, ⟨⟨ay, cy, hv1, hsy, _⟩, aq, cq, hv2, hsq⟩, hb5⟩
  have hb6 := hb4.trans (hb5.mono hb4.size)
  rw [HKX.out] at hv1 hsy
  rw [HKP.out] at hv2 hsq
  rw [HI.out]
  have HX2 := hide (HX1.out.below hb5)
  have HP2 := hide (HP1.out.below hb5)
  have HY1 := hide hsy
  have HQ1 := hide hsq
  clear hb4 hb5 hsy hsq HX1 HP1
  subst hv1 hv2
  go_wp2_with fail
  refine (totext_any _ _ _ b _ _ (HSB.out.below hb6) H2.out (by omega) hn0 hn1).mono ?_
  rintro e w7 ⟨v1, v2, rfl, ⟨hv1, av, cv, hv2, hsv⟩, hb7⟩
  have hb8 := hb6.trans (hb7.mono hb6.size)
  obtain ⟨J, hJ⟩ : ∃ X : Int, ((E.xE n b : Nat) : Int) = X := ⟨_, rfl⟩
  obtain ⟨kv, hkv⟩ : ∃ k, (E.yR n b).length = k := ⟨_, rfl⟩
  obtain ⟨T, hT⟩ : ∃ T, strOfNums (ints (E.yS n b)) = T := ⟨_, rfl⟩
  rw [hT] at hv1
  rw [hkv] at hv2 hsv
  rw [hJ]
  have HJ := hide hJ
  have HKV := hide hkv
  have HT := hide hT
  have HX3 := hide (HX2.out.below hb7)
  have HP3 := hide (HP2.out.below hb7)
  have HY2 := hide (HY1.out.below hb7)
  have HQ2 := hide (HQ1.out.below hb7)
  have HV1 := hide hsv
  clear hb6 hb7 hJ hkv hT hsv HX2 HP2 HY1 HQ1
  subst hv1 hv2
  go_wp2_with fail
  refine (rtotext_any _ _ _ b _ _ (HSB.out.below hb8) H2.out (by omega) hn0 hn1).mono ?_
  rintro e w9 ⟨v1, v2, rfl, ⟨hv1, aw, cw, hv2, hsw⟩, hb9⟩
  have hb10 := hb8.trans (hb9.mono hb8.size)
  rw [HT.out] at hv1
  rw [HKV.out] at hv2 hsw
  rw [HJ.out]
  have HX := hide (HX3.out.below hb9)
  have HP := hide (HP3.out.below hb9)
  have HY := hide (HY2.out.below hb9)
  have HQ := hide (HQ2.out.below hb9)
  have HV := hide (HV1.out.below hb9)
  have HW := hide hsw
  have HSL := hide (HSL0.out.below hb10)
  clear hb8 hb9 hsw HX3 HP3 HY2 HQ2 HV1
  subst hv1 hv2
  go_wp2
  refine V.wp_region (w0 := w9) [9, 0, 1, 10, 13, 11, 14, 12, 15, 16, 19, 17, 20, 18, 21] (listsTbl a1 len1 cap1 l s b n I J T ax ay ap aq av aw kx cx cy kp cp cq kv cv cw) (by kernel_rfl) (by kernel_rfl) (Below.refl _ _) ?hb ?hs ?hd
  case hb =>
    intro d hd
    simp only [List.mem_cons, List.not_mem_nil, or_false] at hd
    rcases hd with rfl | rfl | rfl | rfl | rfl | rfl | rfl | rfl | rfl | rfl | rfl | rfl | rfl | rfl | rfl <;> rfl
  case hs =>
    refine ⟨?_, ?_, ?_, ?_, ?_, ?_, ?_, ?_, ?_, ?_, ?_, ?_, ?_, ?_, ?_, ?_, ?_, ?_, ?_, ?_, ?_, ?_, ?_, ?_, ?_, ?_, ?_, ?_, ?_, ?_, ?_, ?_, ?_, ?_, ?_, ?_, ?_, ?_, ?_, ?_, ?_, ?_, ?_, ?_, ?_, ?_, ?_, ?_, ?_, ?_, ?_, ?_, ?_, ?_, trivial⟩
    · exact V.Step.move (.inl rfl) (.inl rfl) (.inl ⟨_, rfl⟩) (fun _ h => by cases h; rfl)
    · exact V.Step.move (.inl rfl) (.inl rfl) (.inl ⟨_, rfl⟩) (fun _ h => by cases h; rfl)
    · exact V.Step.move (.inr ⟨_, _, _, rfl, rfl, rfl⟩) (.inl rfl) (.inl ⟨_, rfl⟩) (fun _ h => by cases h; rfl)
    · exact V.Step.call1 (.inr ⟨_, _, _, rfl, rfl, rfl⟩) rfl rfl Try.func23 (by decide +kernel) rfl (fun w1 hw1 => (ints_any _ _ _ l _ (HSL.out.below hw1) (by omega) HIN.out).mono (by rintro e w9 ⟨v9, rfl, ho9, hb9⟩; obtain ⟨a9, c9, rfl, hs9, _⟩ := Sl.of_bytes ho9; exact ⟨_, rfl, hb9, fun d h => by cases h; exact ⟨a9, c9, rfl, hs9⟩⟩))
    · exact V.Step.str (.inr ⟨_, _, _, rfl, rfl, rfl⟩) rfl rfl (fun _ h => by cases h; rfl)
    · exact V.Step.move (.inr ⟨_, _, _, rfl, rfl, rfl⟩) (.inl rfl) (.inl ⟨_, rfl⟩) (fun _ h => by cases h; rfl)
    · exact V.Step.call1 (.inr ⟨_, _, _, rfl, rfl, rfl⟩) rfl rfl Try.func24 (by decide +kernel) rfl (fun w1 hw1 => (rints_any _ _ _ l _ (HSL.out.below hw1) (by omega) HIN.out).mono (by rintro e w9 ⟨v9, rfl, ho9, hb9⟩; obtain ⟨a9, c9, rfl, hs9, _⟩ := Sl.of_bytes ho9; exact ⟨_, rfl, hb9, fun d h => by cases h; exact ⟨a9, c9, rfl, hs9⟩⟩))
    · exact V.Step.str (.inr ⟨_, _, _, rfl, rfl, rfl⟩) rfl rfl (fun _ h => by cases h; rfl)
    · exact V.Step.bin (v1 := .string (strOfNums (ints ((E.lebs l))))) (v2 := .string (strOfNums (ints ((E.lebs l))))) (v := .bool true) (.inr ⟨_, _, _, rfl, rfl, rfl⟩) rfl (.inl ⟨_, rfl⟩) (.inl ⟨_, rfl⟩) rfl rfl (fun w => ⟨rfl, by simp [go_sem]⟩) (fun _ h => by cases h; rfl)
    · exact V.Step.pick (b := true) (.inl rfl) rfl ⟨_, rfl, rfl⟩ (.inl ⟨_, rfl⟩) (fun _ h => by cases h; rfl)
    · exact V.Step.move (.inl rfl) (.inl rfl) (.inl ⟨_, rfl⟩) (fun _ h => by cases h; rfl)
    · exact V.Step.move (.inr ⟨_, _, _, rfl, rfl, rfl⟩) (.inl rfl) (.inl ⟨_, rfl⟩) (fun _ h => by cases h; rfl)
    · exact V.Step.call1 (.inr ⟨_, _, _, rfl, rfl, rfl⟩) rfl rfl Try.func25 (by decide +kernel) rfl (fun w1 hw1 => (text_any s _ (by omega)).mono (by rintro e w9 ⟨v9, rfl, ho9, hb9⟩; obtain ⟨a9, c9, rfl, hs9, _⟩ := Sl.of_bytes ho9; exact ⟨_, rfl, hb9, fun d h => by cases h; exact ⟨a9, c9, rfl, hs9⟩⟩))
    · exact V.Step.str (.inr ⟨_, _, _, rfl, rfl, rfl⟩) rfl rfl (fun _ h => by cases h; rfl)
    · exact V.Step.move (.inr ⟨_, _, _, rfl, rfl, rfl⟩) (.inl rfl) (.inl ⟨_, rfl⟩) (fun _ h => by cases h; rfl)
    · exact V.Step.call1 (.inr ⟨_, _, _, rfl, rfl, rfl⟩) rfl rfl Try.func26 (by decide +kernel) rfl (fun w1 hw1 => (rtext_any s _ (by omega)).mono (by rintro e w9 ⟨v9, rfl, ho9, hb9⟩; obtain ⟨a9, c9, rfl, hs9, _⟩ := Sl.of_bytes ho9; exact ⟨_, rfl, hb9, fun d h => by cases h; exact ⟨a9, c9, rfl, hs9⟩⟩))
    · exact V.Step.str (.inr ⟨_, _, _, rfl, rfl, rfl⟩) rfl rfl (fun _ h => by cases h; rfl)
    · exact V.Step.bin (v1 := .string (strOfNums (ints ((E.leb s.size ++ sb s))))) (v2 := .string (strOfNums (ints ((E.leb s.size ++ sb s))))) (v := .bool true) (.inr ⟨_, _, _, rfl, rfl, rfl⟩) rfl (.inl ⟨_, rfl⟩) (.inl ⟨_, rfl⟩) rfl rfl (fun w => ⟨rfl, by simp [go_sem]⟩) (fun _ h => by cases h; rfl)
    · exact V.Step.pick (b := true) (.inl rfl) rfl ⟨_, rfl, rfl⟩ (.inl ⟨_, rfl⟩) (fun _ h => by cases h; rfl)
    · exact V.Step.move (.inl rfl) (.inl rfl) (.inl ⟨_, rfl⟩) (fun _ h => by cases h; rfl)
    · exact V.Step.move (.inr ⟨_, _, _, rfl, rfl, rfl⟩) (.inl rfl) (.inl ⟨_, rfl⟩) (fun _ h => by cases h; rfl)
    · exact V.Step.move (.inr ⟨_, _, _, rfl, rfl, rfl⟩) (.inl rfl) (.inl ⟨_, rfl⟩) (fun _ h => by cases h; rfl)
    · exact V.Step.call2 (.inr ⟨_, _, _, rfl, rfl, rfl⟩) rfl rfl rfl Try.func27 (by decide +kernel) rfl (fun w1 hw1 => (same_yes _ _ _ _ _ _ _ (HX.out.below hw1) (HY.out.below hw1) (by omega)).mono (by rintro e w2 ⟨rfl, hk2⟩; exact ⟨_, rfl, hk2.below (Nat.le_refl _) (by simp), fun d h => by cases h; rfl⟩))
    · exact V.Step.pick (b := true) (.inl rfl) rfl ⟨_, rfl, rfl⟩ (.inl ⟨_, rfl⟩) (fun _ h => by cases h; rfl)
    · exact V.Step.move (.inl rfl) (.inl rfl) (.inl ⟨_, rfl⟩) (fun _ h => by cases h; rfl)
    · exact V.Step.move (.inr ⟨_, _, _, rfl, rfl, rfl⟩) (.inl rfl) (.inl ⟨_, rfl⟩) (fun _ h => by cases h; rfl)
    · exact V.Step.strOld (.inr ⟨_, _, _, rfl, rfl, rfl⟩) rfl rfl HP.out (fun _ h => by cases h; rfl)
    · exact V.Step.move (.inr ⟨_, _, _, rfl, rfl, rfl⟩) (.inl rfl) (.inl ⟨_, rfl⟩) (fun _ h => by cases h; rfl)
    · exact V.Step.strOld (.inr ⟨_, _, _, rfl, rfl, rfl⟩) rfl rfl HQ.out (fun _ h => by cases h; rfl)
    · exact V.Step.bin (v1 := .string (strOfNums (ints (E.iR n b)))) (v2 := .string (strOfNums (ints (E.iR n b)))) (v := .bool true) (.inr ⟨_, _, _, rfl, rfl, rfl⟩) rfl (.inl ⟨_, rfl⟩) (.inl ⟨_, rfl⟩) rfl rfl (fun w => ⟨rfl, by simp [go_sem]⟩) (fun _ h => by cases h; rfl)
    · exact V.Step.pick (b := true) (.inl rfl) rfl ⟨_, rfl, rfl⟩ (.inl ⟨_, rfl⟩) (fun _ h => by cases h; rfl)
    · exact V.Step.move (.inl rfl) (.inl rfl) (.inl ⟨_, rfl⟩) (fun _ h => by cases h; rfl)
    · exact V.Step.move (.inr ⟨_, _, _, rfl, rfl, rfl⟩) (.inl rfl) (.inl ⟨_, rfl⟩) (fun _ h => by cases h; rfl)
    · exact V.Step.move (.inr ⟨_, _, _, rfl, rfl, rfl⟩) (.inl rfl) (.inl ⟨_, rfl⟩) (fun _ h => by cases h; rfl)
    · exact V.Step.bin (v1 := .int .i64 I) (v2 := .int .i64 I) (v := .bool true) (.inr ⟨_, _, _, rfl, rfl, rfl⟩) rfl (.inl ⟨_, rfl⟩) (.inl ⟨_, rfl⟩) rfl rfl (fun w => ⟨rfl, by simp [go_sem]⟩) (fun _ h => by cases h; rfl)
    · exact V.Step.pick (b := true) (.inl rfl) rfl ⟨_, rfl, rfl⟩ (.inl ⟨_, rfl⟩) (fun _ h => by cases h; rfl)
    · exact V.Step.move (.inl rfl) (.inl rfl) (.inl ⟨_, rfl⟩) (fun _ h => by cases h; rfl)
    · exact V.Step.move (.inr ⟨_, _, _, rfl, rfl, rfl⟩) (.inl rfl) (.inl ⟨_, rfl⟩) (fun _ h => by cases h; rfl)
    · exact V.Step.move (.inr ⟨_, _, _, rfl, rfl, rfl⟩) (.inl rfl) (.inl ⟨_, rfl⟩) (fun _ h => by cases h; rfl)
    · exact V.Step.bin (v1 := .string T) (v2 := .string T) (v := .bool true) (.inr ⟨_, _, _, rfl, rfl, rfl⟩) rfl (.inl ⟨_, rfl⟩) (.inl ⟨_, rfl⟩) rfl rfl (fun w => ⟨rfl, by simp [go_sem]⟩) (fun _ h => by cases h; rfl)
    · exact V.Step.pick (b := true) (.inl rfl) rfl ⟨_, rfl, rfl⟩ (.inl ⟨_, rfl⟩) (fun _ h => by cases h; rfl)
    · exact V.Step.move (.inl rfl) (.inl rfl) (.inl ⟨_, rfl⟩) (fun _ h => by cases h; rfl)
    · exact V.Step.move (.inr ⟨_, _, _, rfl, rfl, rfl⟩) (.inl rfl) (.inl ⟨_, rfl⟩) (fun _ h => by cases h; rfl)
    · exact V.Step.strOld (.inr ⟨_, _, _, rfl, rfl, rfl⟩) rfl rfl HV.out (fun _ h => by cases h; rfl)
    · exact V.Step.move (.inr ⟨_, _, _, rfl, rfl, rfl⟩) (.inl rfl) (.inl ⟨_, rfl⟩) (fun _ h => by cases h; rfl)
    · exact V.Step.strOld (.inr ⟨_, _, _, rfl, rfl, rfl⟩) rfl rfl HW.out (fun _ h => by cases h; rfl)
    · exact V.Step.bin (v1 := .string (strOfNums (ints (E.yR n b)))) (v2 := .string (strOfNums (ints (E.yR n b)))) (v := .bool true) (.inr ⟨_, _, _, rfl, rfl, rfl⟩) rfl (.inl ⟨_, rfl⟩) (.inl ⟨_, rfl⟩) rfl rfl (fun w => ⟨rfl, by simp [go_sem]⟩) (fun _ h => by cases h; rfl)
    · exact V.Step.pick (b := true) (.inl rfl) rfl ⟨_, rfl, rfl⟩ (.inl ⟨_, rfl⟩) (fun _ h => by cases h; rfl)
    · exact V.Step.move (.inl rfl) (.inl rfl) (.inl ⟨_, rfl⟩) (fun _ h => by cases h; rfl)
    · exact V.Step.move (.inr ⟨_, _, _, rfl, rfl, rfl⟩) (.inl rfl) (.inl ⟨_, rfl⟩) (fun _ h => by cases h; rfl)
    · exact V.Step.move (.inr ⟨_, _, _, rfl, rfl, rfl⟩) (.inl rfl) (.inl ⟨_, rfl⟩) (fun _ h => by cases h; rfl)
    · exact V.Step.bin (v1 := .int .i64 J) (v2 := .int .i64 J) (v := .bool true) (.inr ⟨_, _, _, rfl, rfl, rfl⟩) rfl (.inl ⟨_, rfl⟩) (.inl ⟨_, rfl⟩) rfl rfl (fun w => ⟨rfl, by simp [go_sem]⟩) (fun _ h => by cases h; rfl)
    · exact V.Step.pick (b := true) (.inl rfl) rfl ⟨_, rfl, rfl⟩ (.inl ⟨_, rfl⟩) (fun _ h => by cases h; rfl)
    · exact V.Step.move (.inl rfl) (.inr rfl) (.inl ⟨_, rfl⟩) (fun _ h => by cases h; rfl)
  case hd =>
    intro a3 w11 hw1 hdf hk
    have h8 : a3.tmps[8]?.getD undef = .bool true := V.slot_of (hk 53 _ 8 rfl rfl)
    go_wp2
    exact bodyPost_ret (v := .bool true) (by simp [results, Try.results4, h8, go_sem]) hdf ⟨rfl, hb10.trans (hw1.mono hb10.size)⟩

theorem lebLists_walkU (w : World) (a1 : Option Addr) (len1 cap1 : Nat) (l : List Int) (c1 : Came .i64 w a1 len1 cap1 l) (h1 : cap1 ≤ 1048576) (s : ByteArray) (hs : s.size ≤ 1048576) (a2 : Option Addr) (len2 cap2 : Nat) (z : List Int) (c2 : Came .u8 w a2 len2 cap2 z) (h2 : cap2 ≤ 1048576) (n : Int) (wn : (Lit.int .i64 n).wf = true) :
    Calls Try.prog 4 #[.slice a1 len1 cap1, .string s, .slice a2 len2 cap2, .int .i64 n] w fun e w' => e = .returned (.bool true) ∧ Below w.heap.size w w' := by
  obtain ⟨b, rfl, h256⟩ := came_bytes c2
  obtain ⟨hn0, hn1⟩ := wf_i64 wn
  have := c1.1.2.1
  have := c2.1.2.1
  exact lebLists_in w a1 len1 cap1 l c1.1 (fun x hx => wf_i64 (c1.2 x hx)) (by omega) s hs a2 len2 cap2 b c2.1 h256 (by omega) n hn0 hn1
end Go.Proofs.Ytnkpghoijdcohaa

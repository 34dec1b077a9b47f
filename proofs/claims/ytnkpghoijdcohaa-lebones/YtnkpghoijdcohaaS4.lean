/- The walk of the statement: bytes that are a number are just the ones that are put for it; no beginning of these is one. -/
import Derived.Test.YtnkpghoijdcohaaE10
import Derived.Test.YtnkpghoijdcohaaRU
import Derived.Test.YtnkpghoijdcohaaV2
namespace Go.Proofs.Ytnkpghoijdcohaa
set_option linter.unusedVariables false
open Go.RowKit

/-- Put, its bytes under a name. -/
theorem put_sl (n : Int) (l : List Nat) (k : Nat) (w : World) (hn0 : 0 ≤ n) (hn1 : n < 18446744073709551616) (hl : E.leb n.toNat = l) (hk : l.length = k) :
    Calls Try.prog 13 #[.int .u64 n] w fun e w' => ∃ a c, e = .returned (.slice a k c) ∧ Sl w' .u8 a k c (ints l) ∧ Below w.heap.size w w' := by
  refine (put_any n w hn0 hn1).mono ?_
  rintro e w' ⟨v, rfl, ho, hb⟩
  subst hl hk
  obtain ⟨a, c, rfl, hs, _⟩ := Sl.of_bytes ho
  exact ⟨a, c, rfl, hs, hb⟩

set_option maxHeartbeats 1000000 in
theorem lebOnes_bad (w : World) (a : Option Addr) (len cap : Nat) (l : List Nat) (hsl : Sl w .u8 a len cap (ints l)) (h256 : ∀ x ∈ l, x < 256) (hr : len ≤ 140737488355328) (n c : Int) (hn0 : 0 ≤ n) (hn1 : n < 18446744073709551616) (hc0 : 0 ≤ c) (hc1 : c < 256) (hg : E.gE l ≠ 0) :
    Calls Try.prog 6 #[.slice a len cap, .int .u64 n, .int .u8 c] w fun e w' => e = .returned (.bool true) ∧ Below w.heap.size w w' := by
  have hpos := E.leb_pos n.toNat
  have h10 := E.leb_ten n.toNat (by omega)
  have hgb : ((((E.gE l : Nat) : Int)) == 0) = false := by simp; omega
  have HCUT := hide (E.g_cut n.toNat (by omega))
  have HZ := hide (E.g_zero hg)
  have HSL := hide hsl
  have H2 := hide h256
  obtain ⟨L, hL⟩ : ∃ L, (E.leb n.toNat).length = L := ⟨_, rfl⟩
  have HL := hide hL
  rw [hL] at hpos h10
  obtain ⟨G, hG⟩ : ∃ G : Int, ((E.gE l : Nat) : Int) = G := ⟨_, rfl⟩
  have HG := hide hG
  rw [hG] at hgb
  have hcm : c % (L : Int) < L := Int.emod_lt_of_pos _ (by omega)
  have hcm0 : 0 ≤ c % (L : Int) := Int.emod_nonneg _ (by omega)
  have hb1 : ((L : Int) == 0) = false := by simp; omega
  have hb2 : decide ((10 : Int) < (L : Int)) = false := by simp; omega
  have hb3 : decide ((len : Int) < 0) = false := by simp
  have hgb2 : (G != 0) = true := by rw [bne, hgb]; rfl
  clear hg hsl h256 hL hG
  go_enter Try.func6, Try.ntmps6
  go_wp2_with fail
  refine (shown_any w).mono ?_
  rintro e w2 ⟨rfl, hb⟩
  go_wp2_with fail
  refine (get_any _ _ _ l _ (HSL.out.below hb) H2.out hr).mono ?_
  rintro e w3 ⟨rfl, hb3⟩
  rw [HZ.out.1, HZ.out.2, HG.out]
  have hb4 := hb.trans (hb3.mono hb.size)
  clear hb hb3
  go_wp2_with fail
  refine (put_any n _ hn0 hn1).mono ?_
  rintro e w5 ⟨v5, rfl, ho5, hb5⟩
  have hb6 := hb4.trans (hb5.mono hb4.size)
  obtain ⟨a5, c5, hv5, hs5, _⟩ := Sl.of_bytes ho5
  rw [HL.out] at hv5 hs5
  have HS5 := hide hs5
  have hlc := hs5.2.1
  have hcm2 := hs5.2.2.1
  unfold maxLen at hcm2
  clear hb4 hb5 ho5 hs5
  subst hv5
  go_wp2_with fail
  refine (get_any _ _ _ ((E.leb n.toNat).take (c % (L : Int)).toNat) _ (by rw [ints_take]; exact HS5.out.head _ _ (by omega) (by omega) (Nat.le_refl _)) (fun x hx => E.leb_lt _ x (List.mem_of_mem_take hx)) (by omega)).mono ?_
  rintro e w7 ⟨rfl, hb7⟩
  have h3 := HCUT.out (c % (L : Int)).toNat (by rw [HL.out]; omega)
  rw [h3, (E.g_zero (by rw [h3]; decide)).1, (E.g_zero (by rw [h3]; decide)).2]
  have hb8 := hb6.trans (hb7.mono hb6.size)
  clear hb6 hb7 h3
  go_wp2
  go_region
  go_wp2
  go_ret
  exact ⟨rfl, hb8.drew⟩
def onesTbl (a : Option Addr) (len cap K : Nat) (X : Int) (l : List Nat) : List (Nat × V.Ent) :=
   [(7, V.Ent.is (.bool true)),
    (14, V.Ent.is (.int .i64 3)),
    (13, V.Ent.is (.int .i64 0)),
    (10, V.Ent.is (.int .i64 0)),
    (9, V.Ent.is (.int .i64 (K : Int))),
    (8, V.Ent.is (.int .u64 X)),
    (0, V.Ent.is (.slice a len cap)),
    (54, V.Ent.is (.bool true)),
    (55, V.Ent.is (.bool true)),
    (56, V.Ent.is (.int .i64 3)),
    (57, V.Ent.is (.bool true)),
    (58, V.Ent.is (.bool true)),
    (59, V.Ent.is (.bool true)),
    (60, V.Ent.is (.int .i64 0)),
    (61, V.Ent.is (.bool true)),
    (62, V.Ent.is (.bool true)),
    (63, V.Ent.is (.bool true)),
    (64, V.Ent.is (.int .i64 0)),
    (65, V.Ent.is (.bool false)),
    (66, V.Ent.is (.bool false)),
    (67, V.Ent.is (.int .i64 (K : Int))),
    (68, V.Ent.is (.bool true)),
    (69, V.Ent.is (.bool true)),
    (70, V.Ent.is (.int .u64 X)),
    (71, V.Ent.sl K ((l.take K))),
    (72, V.Ent.is (.string (strOfNums (ints ((l.take K)))))),
    (73, V.Ent.is (.slice a len cap)),
    (74, V.Ent.is (.int .i64 (K : Int))),
    (75, V.Ent.is (.slice a K cap)),
    (76, V.Ent.is (.string (strOfNums (ints (l.take K))))),
    (77, V.Ent.is (.bool true)),
    (78, V.Ent.is (.bool true)),
    (79, V.Ent.is (.bool true)),
    (80, V.Ent.is (.bool true)),
    (81, V.Ent.is (.bool true)),
    (82, V.Ent.is (.int .i64 0)),
    (83, V.Ent.is (.bool true)),
    (84, V.Ent.is (.bool true)),
    (85, V.Ent.is (undef)),
    (86, V.Ent.is (undef)),
    (87, V.Ent.is (undef)),
    (88, V.Ent.is (undef)),
    (89, V.Ent.is (undef)),
    (90, V.Ent.is (undef)),
    (91, V.Ent.is (.bool true)),
    (92, V.Ent.is (.bool true)),
    (6, V.Ent.is (.bool true))]

set_option maxHeartbeats 2000000 in
theorem lebOnes_good (w : World) (a : Option Addr) (len cap : Nat) (l : List Nat) (hsl : Sl w .u8 a len cap (ints l)) (h256 : ∀ x ∈ l, x < 256) (hr : len ≤ 140737488355328) (n c : Int) (hn0 : 0 ≤ n) (hn1 : n < 18446744073709551616) (hc0 : 0 ≤ c) (hc1 : c < 256) (hg : E.gE l = 0) :
    Calls Try.prog 6 #[.slice a len cap, .int .u64 n, .int .u8 c] w fun e w' => e = .returned (.bool true) ∧ Below w.heap.size w w' := by
  have hpos := E.leb_pos n.toNat
  have h10 := E.leb_ten n.toNat (by omega)
  have HCUT := hide (E.g_cut n.toNat (by omega))
  obtain ⟨k1, k2, _, _, _, k6⟩ := E.gE_zero hg h256
  have hxl := E.gN_lt h256
  have HONE := hide (E.g_ones hg h256)
  have hlen : l.length = len := by rw [← hsl.1, ints_length]
  rw [hlen] at k1
  have hcap := hsl.2.1
  have hcap2 := hsl.2.2.1
  unfold maxLen at hcap2
  obtain ⟨K, hK⟩ : ∃ K, E.gK l = K := ⟨_, rfl⟩
  have HK := hide hK
  rw [hK] at k1 k2 k6 HONE
  obtain ⟨X, hX⟩ : ∃ X : Int, ((E.gN l : Nat) : Int) = X := ⟨_, rfl⟩
  have HX := hide hX
  have hX0 : 0 ≤ X := by omega
  have hX1 : X < 18446744073709551616 := by omega
  have HGZ := hide hg
  have HSL := hide hsl
  have H2 := hide h256
  obtain ⟨L, hL⟩ : ∃ L, (E.leb n.toNat).length = L := ⟨_, rfl⟩
  have HL := hide hL
  rw [hL] at hpos h10
  have hcm : c % (L : Int) < L := Int.emod_lt_of_pos _ (by omega)
  have hcm0 : 0 ≤ c % (L : Int) := Int.emod_nonneg _ (by omega)
  have hb1 : ((L : Int) == 0) = false := by simp; omega
  have hb2 : decide ((10 : Int) < (L : Int)) = false := by simp; omega
  have hb3 : decide ((len : Int) < (K : Int)) = false := by simp; omega
  have hb4 : decide ((K : Int) < 0) = false := by simp
  have hb5 : decide ((0 : Int) < (K : Int)) = true := by simp; omega
  clear hg hsl h256 hL hX hK hlen hxl
  go_enter Try.func6, Try.ntmps6
  go_wp2_with fail
  refine (shown_any w).mono ?_
  rintro e w2 ⟨rfl, hb⟩
  go_wp2_with fail
  refine (get_any _ _ _ l _ (HSL.out.below hb) H2.out hr).mono ?_
  rintro e w3 ⟨rfl, hb3⟩
  rw [HK.out, HX.out, HGZ.out]
  have hb4 := hb.trans (hb3.mono hb.size)
  clear hb hb3
  go_wp2_with fail
  refine (put_any n _ hn0 hn1).mono ?_
  rintro e w5 ⟨v5, rfl, ho5, hb5⟩
  have hb6 := hb4.trans (hb5.mono hb4.size)
  obtain ⟨a5, c5, hv5, hs5, _⟩ := Sl.of_bytes ho5
  rw [HL.out] at hv5 hs5
  have HS5 := hide hs5
  have hlc := hs5.2.1
  have hcm2 := hs5.2.2.1
  unfold maxLen at hcm2
  clear hb4 hb5 ho5 hs5
  subst hv5
  go_wp2_with fail
  refine (get_any _ _ _ ((E.leb n.toNat).take (c % (L : Int)).toNat) _ (by rw [ints_take]; exact HS5.out.head _ _ (by omega) (by omega) (Nat.le_refl _)) (fun x hx => E.leb_lt _ x (List.mem_of_mem_take hx)) (by omega)).mono ?_
  rintro e w7 ⟨rfl, hb7⟩
  have h3 := HCUT.out (c % (L : Int)).toNat (by rw [HL.out]; omega)
  rw [h3, (E.g_zero (by rw [h3]; decide)).1, (E.g_zero (by rw [h3]; decide)).2]
  have hb8 := hb6.trans (hb7.mono hb6.size)
  clear hb6 hb7 h3
  have hsk : Sl w7.drew .u8 a K cap (ints (l.take K)) := by rw [ints_take]; exact ((HSL.out.head K cap k1 (by omega) (Nat.le_refl _)).below hb8).kept ((Kept.refl (fun _ => False) w7).drew) (by simp)
  have HSK := hide hsk
  have hcv := str_of hsk
  have HPX : Hid (E.leb X.toNat = l.take K) := by have := HX.out; have e := HONE.out; show _ = _; rw [← e]; congr 1; omega
  have HPK : Hid ((l.take K).length = K) := by have := HSK.out.1; rw [ints_length] at this; exact this
  have hKi0 : (0 : Int) ≤ (K : Int) := by omega
  have hKi1 : (K : Int) ≤ (cap : Int) := by omega
  have hKi2 : (K : Int) ≤ (len : Int) := by omega
  clear hsk
  have HSK0 : Hid (Sl w .u8 a K cap (ints (l.take K))) := by show Sl _ _ _ _ _ _; rw [ints_take]; exact HSL.out.head K cap k1 (by omega) (Nat.le_refl _)
  go_wp2
  refine V.wp_region (w0 := w) [7, 14, 13, 10, 9, 8, 0] (onesTbl a len cap K X l) (by kernel_rfl) (by kernel_rfl) hb8 ?hb ?hs ?hd
  case hb =>
    intro d hd
    simp only [List.mem_cons, List.not_mem_nil, or_false] at hd
    rcases hd with rfl | rfl | rfl | rfl | rfl | rfl | rfl <;> rfl
  case hs =>
    refine ⟨?_, ?_, ?_, ?_, ?_, ?_, ?_, ?_, ?_, ?_, ?_, ?_, ?_, ?_, ?_, ?_, ?_, ?_, ?_, ?_, ?_, ?_, ?_, ?_, ?_, ?_, ?_, ?_, ?_, ?_, ?_, ?_, ?_, ?_, ?_, ?_, ?_, ?_, ?_, ?_, trivial⟩
    · exact V.Step.move (.inl rfl) (.inl rfl) (.inl ⟨_, rfl⟩) (fun _ h => by cases h; rfl)
    · exact V.Step.move (.inl rfl) (.inl rfl) (.inl ⟨_, rfl⟩) (fun _ h => by cases h; rfl)
    · exact V.Step.move (.inr ⟨_, _, _, rfl, rfl, rfl⟩) (.inl rfl) (.inl ⟨_, rfl⟩) (fun _ h => by cases h; rfl)
    · exact V.Step.bin (v1 := .int .i64 3) (v2 := .int .i64 3) (v := .bool true) (.inr ⟨_, _, _, rfl, rfl, rfl⟩) rfl (.inl ⟨_, rfl⟩) (.inr ⟨_, rfl⟩) rfl rfl (fun w => ⟨rfl, by simp [go_sem]⟩) (fun _ h => by cases h; rfl)
    · exact V.Step.pick (b := true) (.inl rfl) rfl ⟨_, rfl, rfl⟩ (.inl ⟨_, rfl⟩) (fun _ h => by cases h; rfl)
    · exact V.Step.move (.inl rfl) (.inl rfl) (.inl ⟨_, rfl⟩) (fun _ h => by cases h; rfl)
    · exact V.Step.move (.inr ⟨_, _, _, rfl, rfl, rfl⟩) (.inl rfl) (.inl ⟨_, rfl⟩) (fun _ h => by cases h; rfl)
    · exact V.Step.bin (v1 := .int .i64 0) (v2 := .int .i64 0) (v := .bool true) (.inr ⟨_, _, _, rfl, rfl, rfl⟩) rfl (.inl ⟨_, rfl⟩) (.inr ⟨_, rfl⟩) rfl rfl (fun w => ⟨rfl, by simp [go_sem]⟩) (fun _ h => by cases h; rfl)
    · exact V.Step.pick (b := true) (.inl rfl) rfl ⟨_, rfl, rfl⟩ (.inl ⟨_, rfl⟩) (fun _ h => by cases h; rfl)
    · exact V.Step.move (.inl rfl) (.inl rfl) (.inl ⟨_, rfl⟩) (fun _ h => by cases h; rfl)
    · exact V.Step.move (.inr ⟨_, _, _, rfl, rfl, rfl⟩) (.inl rfl) (.inl ⟨_, rfl⟩) (fun _ h => by cases h; rfl)
    · exact V.Step.bin (v1 := .int .i64 0) (v2 := .int .i64 0) (v := .bool false) (.inr ⟨_, _, _, rfl, rfl, rfl⟩) rfl (.inl ⟨_, rfl⟩) (.inr ⟨_, rfl⟩) rfl rfl (fun w => ⟨rfl, by simp [go_sem]⟩) (fun _ h => by cases h; rfl)
    · exact V.Step.move (.inr ⟨_, _, _, rfl, rfl, rfl⟩) (.inl rfl) (.inl ⟨_, rfl⟩) (fun _ h => by cases h; rfl)
    · exact V.Step.move (.inr ⟨_, _, _, rfl, rfl, rfl⟩) (.inl rfl) (.inl ⟨_, rfl⟩) (fun _ h => by cases h; rfl)
    · exact V.Step.bin (v1 := .int .i64 (K : Int)) (v2 := .int .i64 0) (v := .bool true) (.inr ⟨_, _, _, rfl, rfl, rfl⟩) rfl (.inl ⟨_, rfl⟩) (.inr ⟨_, rfl⟩) rfl rfl (fun w => ⟨rfl, by simp [go_sem]; omega⟩) (fun _ h => by cases h; rfl)
    · exact V.Step.move (.inr ⟨_, _, _, rfl, rfl, rfl⟩) (.inl rfl) (.inl ⟨_, rfl⟩) (fun _ h => by cases h; rfl)
    · exact V.Step.move (.inr ⟨_, _, _, rfl, rfl, rfl⟩) (.inl rfl) (.inl ⟨_, rfl⟩) (fun _ h => by cases h; rfl)
    · exact V.Step.call1 (.inr ⟨_, _, _, rfl, rfl, rfl⟩) rfl rfl Try.func13 (by decide +kernel) rfl (fun w1 hw1 => (put_sl X _ K _ hX0 hX1 HPX.out HPK.out).mono (by rintro e w9 ⟨a9, c9, rfl, hs9, hb9⟩; exact ⟨_, rfl, hb9, fun d h => by cases h; exact ⟨a9, c9, rfl, hs9⟩⟩))
    · exact V.Step.str (.inr ⟨_, _, _, rfl, rfl, rfl⟩) rfl rfl (fun _ h => by cases h; rfl)
    · exact V.Step.move (.inr ⟨_, _, _, rfl, rfl, rfl⟩) (.inl rfl) (.inl ⟨_, rfl⟩) (fun _ h => by cases h; rfl)
    · exact V.Step.move (.inr ⟨_, _, _, rfl, rfl, rfl⟩) (.inl rfl) (.inl ⟨_, rfl⟩) (fun _ h => by cases h; rfl)
    · exact V.Step.head (.inr ⟨_, _, _, rfl, rfl, rfl⟩) rfl rfl rfl (by omega) (fun _ h => by cases h; rfl)
    · exact V.Step.strOld (.inr ⟨_, _, _, rfl, rfl, rfl⟩) rfl rfl HSK0.out (fun _ h => by cases h; rfl)
    · exact V.Step.bin (v1 := .string (strOfNums (ints ((l.take K))))) (v2 := .string (strOfNums (ints (l.take K)))) (v := .bool true) (.inr ⟨_, _, _, rfl, rfl, rfl⟩) rfl (.inl ⟨_, rfl⟩) (.inl ⟨_, rfl⟩) rfl rfl (fun w => ⟨rfl, by simp [go_sem]⟩) (fun _ h => by cases h; rfl)
    · exact V.Step.pick (b := true) (.inr ⟨_, _, _, rfl, rfl, rfl⟩) rfl ⟨_, rfl, rfl⟩ (.inl ⟨_, rfl⟩) (fun _ h => by cases h; rfl)
    · exact V.Step.pick (b := false) (.inr ⟨_, _, _, rfl, rfl, rfl⟩) rfl ⟨_, rfl, rfl⟩ (.inl ⟨_, rfl⟩) (fun _ h => by cases h; rfl)
    · exact V.Step.pick (b := true) (.inl rfl) rfl ⟨_, rfl, rfl⟩ (.inl ⟨_, rfl⟩) (fun _ h => by cases h; rfl)
    · exact V.Step.move (.inl rfl) (.inl rfl) (.inl ⟨_, rfl⟩) (fun _ h => by cases h; rfl)
    · exact V.Step.move (.inr ⟨_, _, _, rfl, rfl, rfl⟩) (.inl rfl) (.inl ⟨_, rfl⟩) (fun _ h => by cases h; rfl)
    · exact V.Step.bin (v1 := .int .i64 0) (v2 := .int .i64 0) (v := .bool true) (.inr ⟨_, _, _, rfl, rfl, rfl⟩) rfl (.inl ⟨_, rfl⟩) (.inr ⟨_, rfl⟩) rfl rfl (fun w => ⟨rfl, by simp [go_sem]⟩) (fun _ h => by cases h; rfl)
    · exact V.Step.move (.inr ⟨_, _, _, rfl, rfl, rfl⟩) (.inl rfl) (.inl ⟨_, rfl⟩) (fun _ h => by cases h; rfl)
    · exact V.Step.skip (.inr ⟨_, _, rfl, rfl, .inl rfl⟩) (fun _ h => by cases h; rfl)
    · exact V.Step.skip (.inr ⟨_, _, rfl, rfl, .inl rfl⟩) (fun _ h => by cases h; rfl)
    · exact V.Step.skip (.inr ⟨_, _, rfl, rfl, .inl rfl⟩) (fun _ h => by cases h; rfl)
    · exact V.Step.skip (.inl ⟨_, _, rfl, rfl, .inr rfl⟩) (fun _ h => by cases h; rfl)
    · exact V.Step.skip (.inl ⟨_, _, rfl, rfl, .inr rfl⟩) (fun _ h => by cases h; rfl)
    · exact V.Step.skip (.inr ⟨_, _, rfl, rfl, .inl rfl⟩) (fun _ h => by cases h; rfl)
    · exact V.Step.pick (b := true) (.inr ⟨_, _, _, rfl, rfl, rfl⟩) rfl ⟨_, rfl, rfl⟩ (.inr ⟨_, rfl⟩) (fun _ h => by cases h; rfl)
    · exact V.Step.pick (b := true) (.inl rfl) rfl ⟨_, rfl, rfl⟩ (.inl ⟨_, rfl⟩) (fun _ h => by cases h; rfl)
    · exact V.Step.move (.inl rfl) (.inr rfl) (.inl ⟨_, rfl⟩) (fun _ h => by cases h; rfl)
  case hd =>
    intro a1 w1 hw1 hdf hk
    have h6 : a1.tmps[6]?.getD undef = .bool true := V.slot_of (hk 39 _ 6 rfl rfl)
    go_wp2
    exact bodyPost_ret (v := .bool true) (by simp [results, Try.results6, h6, go_sem]) hdf ⟨rfl, hw1⟩

theorem lebOnes_walk (w : World) (a : Option Addr) (len cap : Nat) (z : List Int) (c : Came .u8 w a len cap z) (hr : cap * 1 ≤ 140737488351232) (n : Int) (wn : (Lit.int .u64 n).wf = true) (m : Int) (wm : (Lit.int .u8 m).wf = true) :
    Calls Try.prog 6 #[.slice a len cap, .int .u64 n, .int .u8 m] w fun e w' => e = .returned (.bool true) ∧ Below w.heap.size w w' := by
  obtain ⟨l, rfl, h256⟩ := came_bytes c
  obtain ⟨hn0, hn1⟩ := wf_u64 wn
  obtain ⟨hm0, hm1⟩ := wf_u8 wm
  have hc := c.1.2.1
  by_cases hg : E.gE l = 0
  · exact lebOnes_good w a len cap l c.1 h256 (by omega) n m hn0 hn1 hm0 hm1 hg
  · exact lebOnes_bad w a len cap l c.1 h256 (by omega) n m hn0 hn1 hm0 hm1 hg
end Go.Proofs.Ytnkpghoijdcohaa

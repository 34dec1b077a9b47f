/- The contract of crc's Open. -/
import Derived.Test.YtmobcabkaodjoaaH7a
import Derived.Test.YtmobcabkaodjoaaRU
namespace Go.Proofs.Ytmobcabkaodjoaa
set_option linter.unusedVariables false
open Go.RowKit

namespace K
/-- Open's bytes, and what is left; none beside an error. -/
def zX (most : Int) (b : List Nat) : List Nat := if oE most b = 0 then oX b else []
def zR (most : Int) (b : List Nat) : List Nat := if oE most b = 0 then oR b else []
theorem z_good {most : Int} {b : List Nat} (h : oE most b = 0) : zX most b = oX b ∧ zR most b = oR b := by unfold zX zR; rw [if_pos h, if_pos h]; exact ⟨rfl, rfl⟩
theorem z_bad {most : Int} {b : List Nat} (h : oE most b ≠ 0) : zX most b = [] ∧ zR most b = [] := by unfold zX zR; rw [if_neg h, if_neg h]; exact ⟨rfl, rfl⟩
end K
/-- What Open tells. -/
def OpenAns (most : Int) (l : List Nat) (w : World) (e : Ending) : Prop :=
  ∃ a1 c1 a2 c2, e = .returned (.tuple #[.slice a1 (K.zX most l).length c1, .slice a2 (K.zR most l).length c2, .int .i64 ((K.oE most l : Nat) : Int)]) ∧ Sl w .u8 a1 (K.zX most l).length c1 (ints (K.zX most l)) ∧ Sl w .u8 a2 (K.zR most l).length c2 (ints (K.zR most l))
theorem OpenAns.bad {most : Int} {l : List Nat} {w : World} {x : Int} (h : K.oE most l ≠ 0) (hx : ((K.oE most l : Nat) : Int) = x) : OpenAns most l w (.returned (.tuple #[.slice none 0 0, .slice none 0 0, .int .i64 x])) := by
  unfold OpenAns
  rw [(K.z_bad h).1, (K.z_bad h).2, hx]
  exact ⟨none, 0, none, 0, rfl, Sl.nil _ _, Sl.nil _ _⟩

def openTbl9 (a0 : Option Addr) (m c : Nat) (N : Nat) (l : List Nat) : List (Nat × V.Ent) :=
  [(0, V.Ent.is (.slice a0 m c)), (7, V.Ent.is (.int .u64 (N : Int))), (39, V.Ent.is (.slice a0 m c)), (40, V.Ent.is (.int .u64 (N : Int))), (41, V.Ent.is (.int .i64 (N : Int))), (42, V.Ent.is (.slice a0 N c)),
   (43, V.Ent.is (.slice a0 m c)), (44, V.Ent.is (.int .u64 (N : Int))), (45, V.Ent.is (.int .i64 (N : Int))), (46, V.Ent.sl (m - N) (l.drop N)), (10, V.Ent.is (.slice a0 N c)), (11, V.Ent.sl (m - N) (l.drop N))]

def openTbl12 (B : Nat) (s4 : List Nat) (a0 : Option Addr) (N c : Nat) (x : List Nat) (b : Bool) : List (Nat × V.Ent) :=
  [(12, V.Ent.is (.pointer (some ⟨B, 0, none⟩))), (10, V.Ent.is (.slice a0 N c)), (52, V.Ent.is (.agg (B8 s4).toArray)), (53, entTab K.row), (54, V.Ent.is (.slice a0 N c)), (55, V.Ent.is (.int .u32 ((K.crc x : Nat) : Int))), (56, V.Ent.is (.agg (B8 (K.le4 (K.crc x))).toArray)), (57, V.Ent.is (.bool b))]

set_option maxHeartbeats 1000000 in
theorem open_any (ao : Option Addr) (len cap : Nat) (l : List Nat) (most : Int) (w : World) (h : Sl w .u8 ao len cap (ints l)) (hm : len ≤ 140737488355328) (h256 : ∀ x ∈ l, x < 256) (hm0 : -9223372036854775808 ≤ most) (hm1 : most < 9223372036854775808) :
    Calls Try.prog 16 #[.slice ao len cap, .int .i64 most] w fun e w' => OpenAns most l w' e ∧ Below w.heap.size w w' := by
  obtain ⟨hz, hzi⟩ := zero_of_info Try.infoFour
  obtain ⟨Z4, hZ4⟩ : ∃ Z4 : List Value, four 0 0 0 0 = Z4.toArray := ⟨[.int .u8 0, .int .u8 0, .int .u8 0, .int .u8 0], rfl⟩
  have HZ4 : Hid (Z4.length = 4) := hide (by have := congrArg Array.size hZ4; simpa [four_size] using this.symm)
  rw [hZ4] at hz
  clear hZ4 hzi
  have H := hide h
  have H2 := hide h256
  have hll : l.length = len := by rw [← h.1, ints_length]
  have HLL := hide hll
  have hgN := E.gN_lt h256
  have HG0 := hide (fun h => E.gE_zero (l := l) h h256)
  have HE := hide (E.gE_le l)
  clear h h256 hll
  go_enter Try.func16, Try.ntmps16
  go_wp2_with fail
  refine (get_any _ _ _ l _ H.out H2.out hm).mono ?_
  rintro e w3 ⟨rfl, hb3⟩
  have H3 := hide (H.out.below hb3)
  obtain ⟨N, hN⟩ : ∃ N, E.gN l = N := ⟨_, rfl⟩
  obtain ⟨k, hk⟩ : ∃ k, E.gK l = k := ⟨_, rfl⟩
  obtain ⟨G, hG⟩ : ∃ G, E.gE l = G := ⟨_, rfl⟩
  rw [hN] at hgN
  rw [hG] at HE
  have HNN := hide hN
  have HKK := hide hk
  have HGG := hide hG
  obtain ⟨X, hX⟩ : ∃ X : Int, ((E.gN l : Nat) : Int) = X := ⟨_, rfl⟩
  obtain ⟨Y, hY⟩ : ∃ X : Int, ((E.gK l : Nat) : Int) = X := ⟨_, rfl⟩
  obtain ⟨Z, hZ⟩ : ∃ X : Int, ((E.gE l : Nat) : Int) = X := ⟨_, rfl⟩
  rw [hX, hY, hZ]
  have hX0 : 0 ≤ X := by omega
  have hX1 : X < 18446744073709551616 := by omega
  have HXX := hide (show X = (N : Int) by omega)
  have HYY := hide (show Y = (k : Int) by omega)
  have HZZ := hide (show ((G : Nat) : Int) = Z by omega)
  by_cases hg : G = 0
  · have hZ0 : Z = 0 := by omega
    subst hZ0
    have HGz := hide (show E.gE l = 0 by omega)
    obtain ⟨q1, q2, q3, q4, q5, q6⟩ := HG0.out HGz.out
    rw [HKK.out, HLL.out] at q1
    rw [HKK.out] at q2 q6
    have HQ := hide (And.intro q1 (And.intro q2 q6))
    clear q1 q2 q3 q4 q5 q6 hX hY hZ hN hk hG hgN hg HZZ
    by_cases hneg : most < 0
    · have HO := hide (K.oE_range (most := most) HGz.out (.inl hneg))
      go_wp2
      go_ret3
      exact ⟨OpenAns.bad (by rw [HO.out]; decide) (by rw [HO.out]; rfl), hb3⟩
    · by_cases hbig : most < X
      · have HO := hide (K.oE_range (most := most) HGz.out (.inr (by rw [HNN.out, ← HXX.out]; exact hbig)))
        go_wp2
        go_ret3
        exact ⟨OpenAns.bad (by rw [HO.out]; decide) (by rw [HO.out]; rfl), hb3⟩
      · have hY0 : 0 ≤ Y := by rw [HYY.out]; omega
        go_wp2_with (guard_target =~ wpList _ _ _ ((⟨some 32, _, _, _, _, _⟩ : Oper) :: _) _ _; refine wpList_rest rfl (.tmp 30) (.tmp 31) rfl ao len cap rfl Y rfl l H3.out hY0 (by rw [HYY.out, Int.toNat_natCast]; exact HQ.out.1) ?_)
        intro a0 c0 hs0
        obtain ⟨m, hme⟩ : ∃ m, len - Y.toNat = m := ⟨_, rfl⟩
        obtain ⟨lr, hlr⟩ : ∃ lr, l.drop Y.toNat = lr := ⟨_, rfl⟩
        rw [hme, hlr] at hs0
        rw [hme]
        have HMe := hide (show m = len - k by rw [← hme, HYY.out, Int.toNat_natCast])
        have HLr := hide (show lr = l.drop k by rw [← hlr, HYY.out, Int.toNat_natCast])
        have hmI : (m : Int) ≤ 140737488355328 := by omega
        have HS0 := hide hs0
        have hgt : decide (most < X) = false := by simp; omega
        have hlt0 : decide (most < 0) = false := by simp; omega
        clear hme hlr hs0 hm
        by_cases hsh : (m : Int) < X + 4
        · have HO := hide (K.oE_short (most := most) HGz.out hneg (by rw [HNN.out, ← HXX.out]; exact hbig) (by rw [HLL.out, HKK.out, HNN.out, ← HMe.out]; have := HXX.out; omega))
          go_wp2
          go_ret3
          exact ⟨OpenAns.bad (by rw [HO.out]; decide) (by rw [HO.out]; rfl), hb3⟩
        · go_wp2_with fail
          have HNm : Hid (N + 4 ≤ m) := hide (by have := HXX.out; omega)
          have hlrl : lr.length = m := by rw [← HS0.out.1, ints_length]
          refine V.wp_region2 (w0 := w3) [39, 40, 41, 42, 43, 44, 45, 46, 10, 11] [0, 7] (openTbl9 a0 m c0 N lr) rfl (by kernel_rfl) (by kernel_rfl) (Below.refl _ _) ?hb ?hs ?hd
          case hb =>
            intro d hd
            simp only [List.mem_cons, List.not_mem_nil, or_false] at hd
            rcases hd with rfl | rfl
            · rfl
            · show Value.int .u64 X = Value.int .u64 (N : Int)
              rw [HXX.out]
          case hs =>
            have hNi : (N : Int) < 9223372036854775808 := by have := HXX.out; omega
            have hcv : ∀ w : World, (convert 47 3 (.int .u64 (N : Int))).run Try.prog w = .ok (.int .i64 (N : Int)) w := fun w => by
              simp [go_sem, IntKind.wrap_i64]; omega
            have hNc : N ≤ c0 := by have := HS0.out.2.1; have := HNm.out; omega
            refine ⟨?_, ?_, ?_, ?_, ?_, ?_, ?_, ?_, ?_, ?_, trivial⟩
            · exact V.Step.move (.inl rfl) (.inl rfl) (.inl ⟨_, rfl⟩) (fun _ h => by cases h; rfl)
            · exact V.Step.move (.inl rfl) (.inl rfl) (.inl ⟨_, rfl⟩) (fun _ h => by cases h; rfl)
            · exact V.Step.conv (v := .int .i64 (N : Int)) (.inl rfl) rfl rfl hcv (fun _ h => by cases h; rfl)
            · exact V.Step.head (.inl rfl) rfl rfl rfl hNc (fun _ h => by cases h; rfl)
            · exact V.Step.move (.inl rfl) (.inl rfl) (.inl ⟨_, rfl⟩) (fun _ h => by cases h; rfl)
            · exact V.Step.move (.inl rfl) (.inl rfl) (.inl ⟨_, rfl⟩) (fun _ h => by cases h; rfl)
            · exact V.Step.conv (v := .int .i64 (N : Int)) (.inl rfl) rfl rfl hcv (fun _ h => by cases h; rfl)
            · exact V.Step.rest (.inl rfl) rfl rfl rfl HS0.out (by have := HNm.out; omega) (fun _ h => by cases h; rfl)
            · exact V.Step.move (.inl rfl) (.inr rfl) (.inl ⟨_, rfl⟩) (fun _ h => by cases h; rfl)
            · exact V.Step.move (.inl rfl) (.inr rfl) (.inl ⟨_, rfl⟩) (fun _ h => by cases h; rfl)
          case hd =>
            intro vs w4 hb4 hk
            have h10 : vs 10 = .slice a0 N c0 := hk 8 _ 10 rfl rfl
            obtain ⟨a5, c5, h11, hs5⟩ := hk 9 _ 11 rfl rfl
            have HB4 := hide (hb3.trans (hb4.mono hb3.size))
            have HX4 := hide ((HS0.out.below hb4).head N c0 (by have := HNm.out; omega) (by have := HNm.out; have := HS0.out.2.1; omega) (Nat.le_refl _))
            have HS5 := hide hs5
            clear hk hb4 hb3 hs5
            simp only [V.puts, List.foldl_cons, List.foldl_nil, h10, h11]
            clear h10 h11
            obtain ⟨m5, hm5⟩ : ∃ m5, m - N = m5 := ⟨_, rfl⟩
            rw [hm5] at HS5 ⊢
            have HM5 := hide (show 4 ≤ m5 by have := HNm.out; omega)
            obtain ⟨l5, hl5⟩ : ∃ l5, lr.drop N = l5 := ⟨_, rfl⟩
            rw [hl5] at HS5
            have HL5 := hide hl5
            have HLN := hide (show l5.length = m5 by rw [← HS5.out.1, ints_length])
            obtain ⟨cs, hcs⟩ : ∃ cs, B8 (l5.take 4) = cs := ⟨_, rfl⟩
            have HCS := hide hcs
            have HCL : Hid (cs.length = 4) := hide (by rw [← hcs, B8_length, List.length_take, HLN.out]; have := HM5.out; omega)
            have HSr := hide (((HS5.out.head 4 c5 HM5.out (by have := HS5.out.2.1; have := HM5.out; omega) (Nat.le_refl _))))
            have HMm := hide hm5
            clear hm5 hl5 hcs
            go_wp2_with (guard_target =~ wpList _ _ _ ((⟨some 50, _, _, _, _, _⟩ : Oper) :: _) _ _; refine wpList_copy_splice rfl (.tmp 48) (.tmp 49) 22 22 rfl 5 Try.underlying22 Try.sizeU8 _ _ _ _ _ _ rfl rfl w4.heap.size 0 Z4 50 (heap_alloc_new _ _) cs ?hn ?hpos ?hfit ?h1 w4.heap.size w4 ((Below.refl _ _).alloc (Nat.le_refl _) _) (Nat.le_refl _) ?_)
            case hn => rw [HCL.out]; show _ = min _ _; have := HM5.out; omega
            case hpos =>
              intro h
              rw [← HCS.out] at h ⊢
              have hs6 := HSr.out.below ((Below.refl w4.heap.size w4).alloc (Nat.le_refl _) (.cells Z4.toArray 50))
              rw [← ints_take] at hs6
              have := B8_src (p := ⟨a5, 4, c5, l5.take 4⟩) hs6 h
              first | exact this | exact ⟨rfl, this⟩
            case hfit => rw [HCL.out, HZ4.out]; omega
            case h1 => rw [← HCS.out]; exact B8_one _
            intro w5 HG5 hB5
            rw [HCL.out]
            have HG6 : Hid (w5.heap[w4.heap.size]? = some (.cells (B8 (l5.take 4)).toArray 50 (0, 0))) := hide (by
              have := HG5.out
              rw [splice_whole _ _ (by rw [HCL.out, HZ4.out]), ← HCS.out] at this
              exact this)
            have HS6 := hide (HS5.out.below hB5)
            have HB5 := hide (HB4.out.trans (hB5.mono HB4.out.size))
            have HX5 := hide (HX4.out.below hB5)
            obtain ⟨B, hBe⟩ : ∃ B, w4.heap.size = B := ⟨_, rfl⟩
            rw [hBe] at HG6 ⊢
            clear hB5 HG5 hBe
            go_wp2_with (guard_target =~ wpList _ _ _ ((⟨some 51, _, _, _, _, _⟩ : Oper) :: _) _ _; refine wpList_rest rfl (.tmp 47) (.tmp 50) rfl a5 m5 c5 rfl 4 rfl l5 HS6.out (by decide) HM5.out ?_)
            intro a6 c6 hs6
            have HS7 := hide hs6
            clear hs6
            obtain ⟨s4, hs4⟩ : ∃ s4, l5.take 4 = s4 := ⟨_, rfl⟩
            rw [hs4] at HG6
            have HS4 : Hid (s4.length = 4) := hide (by rw [← hs4, List.length_take, HLN.out]; have := HM5.out; omega)
            obtain ⟨x, hx⟩ : ∃ x, lr.take N = x := ⟨_, rfl⟩
            rw [← ints_take, hx] at HX5
            have HX2 : Hid (∀ y ∈ x, y < 256) := hide (by
              intro y hy
              rw [← hx, HLr.out] at hy
              exact H2.out y (List.mem_of_mem_drop (List.mem_of_mem_take hy)))
            -- what the document's Open says
            have HoX : Hid (K.oX l = x) := hide (by unfold K.oX; rw [HKK.out, HNN.out, ← HLr.out, hx])
            have HoS : Hid (K.oS l = s4) := hide (by unfold K.oS; rw [HKK.out, HNN.out, ← HLr.out, HL5.out, hs4])
            have HoR : Hid (K.oR l = l5.drop 4) := hide (by unfold K.oR; rw [HKK.out, HNN.out, ← HLr.out, HL5.out])
            have HOs := hide (K.oE_sum (most := most) HGz.out hneg (by rw [HNN.out, ← HXX.out]; exact hbig) (by rw [HLL.out, HKK.out, HNN.out, ← HMe.out]; exact HNm.out))
            rw [HoS.out, HoX.out] at HOs
            have hNx : x.length = N := by rw [← HX5.out.1, ints_length]
            have HNx := hide hNx
            have hN47 : N ≤ 140737488355328 := by have := HNm.out; omega
            clear hs4 hx hNx
            by_cases hb : s4 = K.le4 (K.crc x)
            · go_wp2_with fail
              refine V.wp_region2 (w0 := w5) [52, 53, 54, 55, 56, 57] [12, 10] (openTbl12 B s4 a0 N c0 x false) rfl (by kernel_rfl) (by kernel_rfl) (Below.refl _ _) ?hb ?hs ?hd
              case hb =>
                intro d hd
                simp only [List.mem_cons, List.not_mem_nil, or_false] at hd
                rcases hd with rfl | rfl <;> rfl
              case hs =>
                refine ⟨?_, ?_, ?_, ?_, ?_, ?_, trivial⟩
                · exact V.Step.load4 (.inl rfl) rfl rfl HG6.out (by simp [B8_length, HS4.out]) (fun _ h => by cases h; rfl)
                · refine V.Step.call0 (.inl rfl) rfl Try.func11 (by decide +kernel) rfl (fun w1 hw1 => ?_)
                  refine (table_any w1).mono ?_
                  rintro e w9 ⟨C, rfl, hC, hb9⟩
                  exact ⟨_, rfl, hb9, fun d h => by cases h; exact ⟨C, rfl, hC⟩⟩
                · exact V.Step.move (.inl rfl) (.inl rfl) (.inl ⟨_, rfl⟩) (fun _ h => by cases h; rfl)
                · refine V.Step.callR2 (.inl rfl) rfl Try.func13 (by decide +kernel) rfl (fun w1 v v2 hw1 hv hv2 => ?_)
                  obtain ⟨C, rfl, hC⟩ := hv
                  obtain rfl : v2 = .slice a0 N c0 := hv2
                  refine (sum_crc C a0 N c0 x w1 hC (HX5.out.below hw1) hN47 HX2.out).mono ?_
                  rintro e w9 ⟨rfl, hb9⟩
                  exact ⟨_, rfl, hb9, fun d h => by cases h; rfl⟩
                · refine V.Step.callR (.inl rfl) rfl Try.func23 (by decide +kernel) rfl (fun w1 v hw1 hv => ?_)
                  obtain rfl : v = .int .u32 ((K.crc x : Nat) : Int) := hv
                  refine (laid_any (K.crc x) w1 (K.crc_lt x)).mono ?_
                  rintro e w9 ⟨rfl, hb9⟩
                  exact ⟨_, rfl, hb9, fun d h => by cases h; rfl⟩
                · exact V.Step.bin (v := .bool false) (.inl rfl) rfl (.inl ⟨_, rfl⟩) (.inl ⟨_, rfl⟩) rfl rfl (fun w => ⟨four_guard _ _ _ _ w, by rw [four_neq s4 (K.le4 (K.crc x)) HS4.out (K.le4_length _) w]; simp [hb]⟩) (fun _ h => by cases h; rfl)
              case hd =>
                intro vs2 w8 hb8 hk
                have h57 : vs2 57 = .bool false := hk 5 _ 57 rfl rfl
                have HO : Hid (K.oE most l = 0) := hide (by rw [HOs.out, if_pos hb])
                have HB8 := hide (HB5.out.trans (hb8.mono HB5.out.size))
                have HX8 := hide (HX5.out.below hb8)
                have HS8 := hide (HS7.out.below hb8)
                simp only [V.puts, List.foldl_cons, List.foldl_nil, h57, Act.put, List.setIfInBounds_toArray, List.set_cons_zero, List.set_cons_succ]
                clear hk hb8 h57
                obtain ⟨m6, hm6⟩ : ∃ m6, m5 - 4 = m6 := ⟨_, rfl⟩
                obtain ⟨l6, hl6⟩ : ∃ l6, l5.drop 4 = l6 := ⟨_, rfl⟩
                rw [hm6, hl6] at HS8
                have HL6 := hide hl6
                have HM6 := hide (show l6.length = m6 by rw [← HS8.out.1, ints_length])
                have hm6b : m6 ≤ 140737488355328 := by have := HMm.out; omega
                rw [hm6]
                clear hm6 hl6
                go_wp2_with fail
                have p1 := Parts.lit1 (p := ⟨a0, N, c0, x⟩) (heap_alloc_new w8 (.cells #[.slice a0 N c0] 22)) (HX8.out.below ((Below.refl _ _).alloc (Nat.le_refl _) _))
                have t1 := tog_any w8.heap.size [⟨a0, N, c0, x⟩] 1 _ p1 (by simp) (by simp [cat, HNx.out]; exact hN47)
                rw [show cat [⟨a0, N, c0, x⟩] = x by simp [cat]] at t1
                refine t1.mono ?_
                rintro e w9 ⟨rfl, hg9, hb9⟩
                have HB9 := hide (HB8.out.trans ((((Below.refl w8.heap.size w8).alloc (Nat.le_refl _) (.cells #[.slice a0 N c0] 22)).trans (hb9.mono (by simp))).mono HB8.out.size))
                have HS9 := hide (HS8.out.below (((Below.refl w8.heap.size w8).alloc (Nat.le_refl _) (.cells #[.slice a0 N c0] 22)).trans (hb9.mono (by simp))))
                have HR9 := hide (Sl.of_row hg9 (by rw [HNx.out]; unfold maxLen; omega))
                clear hb9 hg9 p1 t1
                go_wp2_with fail
                have p2 := Parts.lit1 (p := ⟨a6, m6, c6, l6⟩) (heap_alloc_new w9 (.cells #[.slice a6 m6 c6] 22)) (HS9.out.below ((Below.refl _ _).alloc (Nat.le_refl _) _))
                have t2 := tog_any w9.heap.size [⟨a6, m6, c6, l6⟩] 1 _ p2 (by simp) (by simp [cat, HM6.out]; exact hm6b)
                rw [show cat [⟨a6, m6, c6, l6⟩] = l6 by simp [cat]] at t2
                refine t2.mono ?_
                rintro e w10 ⟨rfl, hg10, hb10⟩
                have HBa := hide (((Below.refl w9.heap.size w9).alloc (Nat.le_refl _) (.cells #[.slice a6 m6 c6] 22)).trans (hb10.mono (by simp)))
                have HR10 := hide (Sl.of_row hg10 (by rw [HM6.out]; unfold maxLen; omega))
                clear hb10 hg10 p2 t2
                go_wp2
                have r9 := HR9.out
                have r10 := HR10.out
                simp only [World.size_alloc] at r9 r10
                refine bodyPost_ret (v := .tuple #[.slice (some ⟨w8.heap.size + 1, 0, none⟩) x.length x.length, .slice (some ⟨w9.heap.size + 1, 0, none⟩) l6.length l6.length, .int .i64 0]) (by simp [results, Try.results16, go_sem]) rfl ⟨?_, HB9.out.trans (HBa.out.mono HB9.out.size)⟩
                unfold OpenAns
                rw [HO.out, (K.z_good HO.out).1, (K.z_good HO.out).2, HoX.out, HoR.out, HL6.out]
                exact ⟨_, _, _, _, rfl, r9.below HBa.out, r10⟩
            · go_wp2_with fail
              refine V.wp_region2 (w0 := w5) [52, 53, 54, 55, 56, 57] [12, 10] (openTbl12 B s4 a0 N c0 x true) rfl (by kernel_rfl) (by kernel_rfl) (Below.refl _ _) ?hb ?hs ?hd
              case hb =>
                intro d hd
                simp only [List.mem_cons, List.not_mem_nil, or_false] at hd
                rcases hd with rfl | rfl <;> rfl
              case hs =>
                refine ⟨?_, ?_, ?_, ?_, ?_, ?_, trivial⟩
                · exact V.Step.load4 (.inl rfl) rfl rfl HG6.out (by simp [B8_length, HS4.out]) (fun _ h => by cases h; rfl)
                · refine V.Step.call0 (.inl rfl) rfl Try.func11 (by decide +kernel) rfl (fun w1 hw1 => ?_)
                  refine (table_any w1).mono ?_
                  rintro e w9 ⟨C, rfl, hC, hb9⟩
                  exact ⟨_, rfl, hb9, fun d h => by cases h; exact ⟨C, rfl, hC⟩⟩
                · exact V.Step.move (.inl rfl) (.inl rfl) (.inl ⟨_, rfl⟩) (fun _ h => by cases h; rfl)
                · refine V.Step.callR2 (.inl rfl) rfl Try.func13 (by decide +kernel) rfl (fun w1 v v2 hw1 hv hv2 => ?_)
                  obtain ⟨C, rfl, hC⟩ := hv
                  obtain rfl : v2 = .slice a0 N c0 := hv2
                  refine (sum_crc C a0 N c0 x w1 hC (HX5.out.below hw1) hN47 HX2.out).mono ?_
                  rintro e w9 ⟨rfl, hb9⟩
                  exact ⟨_, rfl, hb9, fun d h => by cases h; rfl⟩
                · refine V.Step.callR (.inl rfl) rfl Try.func23 (by decide +kernel) rfl (fun w1 v hw1 hv => ?_)
                  obtain rfl : v = .int .u32 ((K.crc x : Nat) : Int) := hv
                  refine (laid_any (K.crc x) w1 (K.crc_lt x)).mono ?_
                  rintro e w9 ⟨rfl, hb9⟩
                  exact ⟨_, rfl, hb9, fun d h => by cases h; rfl⟩
                · exact V.Step.bin (v := .bool true) (.inl rfl) rfl (.inl ⟨_, rfl⟩) (.inl ⟨_, rfl⟩) rfl rfl (fun w => ⟨four_guard _ _ _ _ w, by rw [four_neq s4 (K.le4 (K.crc x)) HS4.out (K.le4_length _) w]; simp [hb]⟩) (fun _ h => by cases h; rfl)
              case hd =>
                intro vs2 w8 hb8 hk
                have h57 : vs2 57 = .bool true := hk 5 _ 57 rfl rfl
                have HO : Hid (K.oE most l = 5) := hide (by rw [HOs.out, if_neg hb])
                simp only [V.puts, List.foldl_cons, List.foldl_nil, h57, Act.put, List.setIfInBounds_toArray, List.set_cons_zero, List.set_cons_succ]
                clear hk
                go_wp2_with fail
                exact bodyPost_ret (v := .tuple #[.slice none 0 0, .slice none 0 0, .int .i64 5]) (by simp [results, Try.results16, go_sem]) rfl ⟨OpenAns.bad (by rw [HO.out]; decide) (by rw [HO.out]; rfl), HB5.out.trans (hb8.mono HB5.out.size)⟩
  · have HO : Hid (K.oE most l = G) := hide (by rw [K.oE_bad (by rw [HGG.out]; exact hg), HGG.out])
    have hZ0 : (Z == 0) = false := by simp; omega
    have hZ1 : (Z != 0) = true := by simp; omega
    clear hX hY hZ hN hk hG hgN
    go_wp2
    go_ret3
    exact ⟨OpenAns.bad (by rw [HO.out]; exact hg) (by rw [HO.out]; exact HZZ.out), hb3⟩
end Go.Proofs.Ytmobcabkaodjoaa

/- The contract of the reference's Open. -/
import Derived.Test.YtmobcabkaodjoaaJ3
import Derived.Test.YtmobcabkaodjoaaH7
namespace Go.Proofs.Ytmobcabkaodjoaa
set_option linter.unusedVariables false
open Go.RowKit

/-- Texts of unlike bytes are unlike. -/
theorem str_inj {a b : List Nat} (ha : ∀ x ∈ a, x < 256) (hb : ∀ x ∈ b, x < 256) (h : strOfNums (ints a) = strOfNums (ints b)) : a = b := by
  have h1 := congrArg (fun s : ByteArray => s.data.toList.map UInt8.toNat) h
  have key : ∀ l : List Nat, (∀ x ∈ l, x < 256) → (strOfNums (ints l)).data.toList.map UInt8.toNat = l := by
    intro l hl
    simp only [strOfNums, ints, List.map_map]
    conv => rhs; rw [← List.map_id l]
    apply List.map_congr_left
    intro x hx
    have := hl x hx
    simp
    omega
  simpa only [key a ha, key b hb] using h1

theorem str_ne {a b : List Nat} (ha : ∀ x ∈ a, x < 256) (hb : ∀ x ∈ b, x < 256) (h : a ≠ b) : ¬ (strOfNums (ints a)).toList = (strOfNums (ints b)).toList := by
  intro e
  rw [ByteArray.toList_eq, ByteArray.toList_eq] at e
  apply h
  apply str_inj ha hb
  have h1 : (strOfNums (ints a)).data = (strOfNums (ints b)).data := Array.toList_inj.1 e
  cases hx : strOfNums (ints a) with
  | mk da =>
    cases hy : strOfNums (ints b) with
    | mk db => rw [hx, hy] at h1; exact congrArg ByteArray.mk h1

/-- A part of bytes. -/
theorem wpList_part {w : World} {ops : Array Oper} {rest : List Oper} {o : Oper} {a : Act} {Q : Exit → Act → World → Prop} (hgd : o.guard = none) (s p q : Operand) (ho : o.op = .slice 22 s (some p) (some q) none)
    (ao : Option Addr) (len cap : Nat) (hs : a.eval s = .slice ao len cap) (i j : Int) (hp : a.eval p = .int .i64 i) (hq : a.eval q = .int .i64 j) (l : List Nat) (hsl : Sl w .u8 ao len cap (ints l)) (hi0 : 0 ≤ i) (hij : i ≤ j) (hj : j ≤ (len : Int))
    (h : ∀ ao' cap', Sl w .u8 ao' (j.toNat - i.toNat) cap' (ints ((l.take j.toNat).drop i.toNat)) → wpList Try.prog ops Q rest (a.put o.dst (.slice ao' (j.toNat - i.toNat) cap')) w) : wpList Try.prog ops Q (o :: rest) a w := by
  refine wpList_plain hgd fun K hK => ?_
  have hc := hsl.2.1
  have hr := run_slice_lh (P := Try.prog) w 22 ao len cap V.under_bytes .i64 .i64 i j hi0 hij (by omega)
  rw [V.elem_bytes, V.size_u8] at hr
  simp only [Result.andThen_ok, sliced] at hr
  have hr2 := run_sliceAt_slice (P := Try.prog) w 22 (.slice ao len cap) (some (.int .i64 i)) (some (.int .i64 j)) none V.under_bytes
  have hsl2 := hsl.part i.toNat j.toNat (by omega) (by omega)
  rw [← ints_take, ← ints_drop] at hsl2
  unfold Oper.wp
  simp only [execOp, ho, hs, hp, hq, Option.map_some, Option.map_none]
  simp only [Nat.mul_one] at hsl2
  simp [hr2, hr]
  exact hK _ _ (h _ _ hsl2)

theorem block_at (l : List Nat) (h256 : ∀ x ∈ l, x < 256) (hg : E.gE l = 0) (hn : E.gN l + 4 ≤ l.length - E.gK l) : (K.block (K.oX l)).length = E.gK l + E.gN l + 4 ∧ l.take (E.gK l + E.gN l + 4) = E.leb (E.gN l) ++ (K.oX l ++ K.oS l) ∧ (K.oX l).length = E.gN l ∧ l.drop (E.gK l + E.gN l + 4) = K.oR l ∧ (K.block (K.oX l) = l.take (E.gK l + E.gN l + 4) ↔ K.oS l = K.le4 (K.crc (K.oX l))) := by
  obtain ⟨z1, z2, _⟩ := E.gE_zero hg h256
  have ho := E.g_ones hg h256
  have hx : (K.oX l).length = E.gN l := by unfold K.oX; rw [List.length_take, List.length_drop]; omega
  have hk : (E.leb (E.gN l)).length = E.gK l := by rw [ho, List.length_take]; omega
  have ht : l.take (E.gK l + E.gN l + 4) = E.leb (E.gN l) ++ (K.oX l ++ K.oS l) := by
    unfold K.oX K.oS
    rw [ho, Nat.add_assoc, List.take_add, List.take_add]
  have hb : K.block (K.oX l) = E.leb (E.gN l) ++ (K.oX l ++ K.le4 (K.crc (K.oX l))) := by unfold K.block; rw [hx]
  refine ⟨by rw [K.block_length, hx, hk], ht, hx, ?_, ?_⟩
  · unfold K.oR; rw [List.drop_drop, List.drop_drop]; congr 1
  · rw [ht, hb]
    constructor
    · intro h
      have h1 := List.append_cancel_left h
      have h2 := List.append_cancel_left h1
      exact h2.symm
    · intro h; rw [h]
def ropenTbl10 (a3 : Option Addr) (n3 c3 : Nat) (ao : Option Addr) (len cap : Nat) (L1 L2 : List Nat) (b : Bool) : List (Nat × V.Ent) :=
  [(11, V.Ent.is (.slice a3 n3 c3)), (0, V.Ent.is (.slice ao len cap)), (46, V.Ent.is (.slice a3 n3 c3)), (47, V.Ent.is (.string (strOfNums (ints L1)))), (48, V.Ent.is (.slice ao len cap)), (49, V.Ent.is (.slice a3 n3 c3)), (50, V.Ent.is (.int .i64 (n3 : Int))), (51, V.Ent.is (.slice ao n3 cap)), (52, V.Ent.is (.string (strOfNums (ints L2)))), (53, V.Ent.is (.bool b))]
def ropenTbl12 (ax : Option Addr) (N cx : Nat) (a3 : Option Addr) (n3 c3 : Nat) (ao : Option Addr) (len cap : Nat) (l : List Nat) : List (Nat × V.Ent) :=
  [(10, V.Ent.is (.slice ax N cx)), (11, V.Ent.is (.slice a3 n3 c3)), (0, V.Ent.is (.slice ao len cap)), (54, V.Ent.is (.slice ax N cx)), (55, V.Ent.is (.slice ao len cap)), (56, V.Ent.is (.slice a3 n3 c3)), (57, V.Ent.is (.int .i64 (n3 : Int))), (58, V.Ent.sl (len - n3) (l.drop n3)), (4, V.Ent.is (.slice ax N cx)), (5, V.Ent.sl (len - n3) (l.drop n3)), (6, V.Ent.is (.int .i64 0))]

set_option maxHeartbeats 2000000 in
/-- The reference's Open. -/
theorem ropen_any (ao : Option Addr) (len cap : Nat) (l : List Nat) (most : Int) (w : World) (h : Sl w .u8 ao len cap (ints l)) (hm : len ≤ 140737488351232) (h256 : ∀ x ∈ l, x < 256) (hm0 : -9223372036854775808 ≤ most) (hm1 : most < 9223372036854775808) :
    Calls Try.prog 17 #[.slice ao len cap, .int .i64 most] w fun e w' => OpenAns most l w' e ∧ Below w.heap.size w w' := by
  have H := hide h
  have H2 := hide h256
  have hll : l.length = len := by rw [← h.1, ints_length]
  have HLL := hide hll
  have hgN := E.gN_lt h256
  have HG0 := hide (fun h => E.gE_zero (l := l) h h256)
  have HBA := hide (fun hg hn => block_at l h256 hg hn)
  clear h h256 hll
  go_enter Try.func17, Try.ntmps17
  go_wp2_with fail
  refine (rget_any _ _ _ l _ H.out H2.out (by omega)).mono ?_
  rintro e w3 ⟨rfl, rfl⟩
  obtain ⟨N, hN⟩ : ∃ N, E.gN l = N := ⟨_, rfl⟩
  obtain ⟨k, hk⟩ : ∃ k, E.gK l = k := ⟨_, rfl⟩
  obtain ⟨G, hG⟩ : ∃ G, E.gE l = G := ⟨_, rfl⟩
  rw [hN] at hgN
  have HNN := hide hN
  have HKK := hide hk
  have HGG := hide hG
  obtain ⟨X, hX⟩ : ∃ X : Int, ((E.gN l : Nat) : Int) = X := ⟨_, rfl⟩
  obtain ⟨Y, hY⟩ : ∃ X : Int, ((E.gK l : Nat) : Int) = X := ⟨_, rfl⟩
  obtain ⟨Z, hZ⟩ : ∃ X : Int, ((E.gE l : Nat) : Int) = X := ⟨_, rfl⟩
  rw [hX, hY, hZ]
  have hX0 : 0 ≤ X := by omega
  have hX1 : X < 18446744073709551616 := by omega
  have HXX := hide (show X = (N : Int) by omega)
  have HYY := hide (show Y = (k : Int) by omega)
  have HZZ := hide (show ((G : Nat) : Int) = Z by omega)
  by_cases hg : G = 0
  · have hZ0 : Z = 0 := by omega
    subst hZ0
    have HGz := hide (show E.gE l = 0 by omega)
    obtain ⟨q1, q2, q3, q4, q5, q6⟩ := HG0.out HGz.out
    rw [HKK.out, HLL.out] at q1
    rw [HKK.out] at q2 q6
    have hY0 : 0 ≤ Y := by omega
    have hYl : Y ≤ (len : Int) := by omega
    have hY10 : Y ≤ 10 := by omega
    clear q1 q2 q3 q4 q5 q6 hX hY hZ hN hk hG hgN hg HZZ
    by_cases hneg : most < 0
    · have HO := hide (K.oE_range (most := most) HGz.out (.inl hneg))
      go_wp2
      go_ret3
      exact ⟨OpenAns.bad (by rw [HO.out]; decide) (by rw [HO.out]; rfl), Below.refl _ _⟩
    · by_cases hbig : most < X
      · have HO := hide (K.oE_range (most := most) HGz.out (.inr (by rw [HNN.out, ← HXX.out]; exact hbig)))
        go_wp2
        go_ret3
        exact ⟨OpenAns.bad (by rw [HO.out]; decide) (by rw [HO.out]; rfl), Below.refl _ _⟩
      · have hgt : decide (most < X) = false := by simp; omega
        have hlt0 : decide (most < 0) = false := by simp; omega
        by_cases hsh : (len : Int) - Y < X + 4
        · have HO := hide (K.oE_short (most := most) HGz.out (by omega) (by rw [HNN.out, ← HXX.out]; omega) (by rw [HLL.out, HKK.out, HNN.out]; have := HXX.out; have := HYY.out; omega))
          go_wp2
          go_ret3
          exact ⟨OpenAns.bad (by rw [HO.out]; decide) (by rw [HO.out]; rfl), Below.refl _ _⟩
        · have hNm : N + 4 ≤ len - k := by have := HXX.out; have := HYY.out; omega
          have hba := HBA.out HGz.out (by rw [HNN.out, HLL.out, HKK.out]; exact hNm)
          rw [HKK.out, HNN.out] at hba
          obtain ⟨b1, b2, b3, b4, b5⟩ := hba
          have HOs := hide (K.oE_sum (most := most) HGz.out (by omega) (by rw [HNN.out, ← HXX.out]; omega) (by rw [HLL.out, HKK.out, HNN.out]; exact hNm))
          obtain ⟨x, hx⟩ : ∃ x, K.oX l = x := ⟨_, rfl⟩
          rw [hx] at b1 b2 b3 b5 HOs
          have HoX := hide hx
          have HB1 := hide b1
          have HB3 := hide b3
          have HB4 := hide b4
          have HB5 := hide b5
          have hxt : (l.take (Y + X).toNat).drop Y.toNat = x := by
            rw [← hx]; unfold K.oX
            rw [HKK.out, HNN.out, HYY.out, HXX.out, show ((k : Int) + (N : Int)).toNat = k + N by omega, Int.toNat_natCast, List.drop_take]
            congr 1; omega
          have hxn : (Y + X).toNat - Y.toNat = N := by rw [HYY.out, HXX.out]; omega
          have HX2 : Hid (∀ y ∈ x, y < 256) := hide (by
            intro y hy
            rw [← hxt] at hy
            exact H2.out y (List.mem_of_mem_take (List.mem_of_mem_drop hy)))
          have hYX : Y + X ≤ (len : Int) := by omega
          have hN47 : N ≤ 140737488351232 := by omega
          have HNm := hide hNm
          have HXT := hide hxt
          have HXN := hide hxn
          clear b1 b2 b3 b4 b5 hx hxt hxn hNm
          go_wp2_with (guard_target =~ wpList _ _ _ ((⟨some 43, _, _, _, _, _⟩ : Oper) :: _) _ _; refine wpList_part rfl (.tmp 37) (.tmp 38) (.tmp 42) rfl ao len cap rfl Y (Y + X) rfl rfl l H.out hY0 (by omega) hYX ?_)
          intro ax cx hsx
          rw [HXT.out, HXN.out] at hsx
          rw [HXN.out]
          have HSX := hide hsx
          clear hsx
          go_wp2_with fail
          refine (rblock_any ax N cx x w3 HSX.out hN47 HX2.out).mono ?_
          rintro e w5 ⟨v5, rfl, ho5, hb5⟩
          obtain ⟨n3, hn3⟩ : ∃ n3, (K.block x).length = n3 := ⟨_, rfl⟩
          obtain ⟨a3, c3, rfl, hs3⟩ := Sl.of_own ho5 hn3
          have HN3 := hide (show n3 = k + N + 4 by rw [← hn3]; exact HB1.out)
          have hn3l : n3 ≤ len := by have := HN3.out; have := HNm.out; have := HXX.out; have := HYY.out; omega
          have hn3c : n3 ≤ cap := by have := H.out.2.1; omega
          have HS3 := hide hs3
          have HSb := hide (H.out.below hb5)
          have HSx5 := hide (HSX.out.below hb5)
          have HSt := hide (HSb.out.head n3 cap hn3l hn3c (Nat.le_refl _))
          have HBw := hide hb5
          clear ho5 hn3 hs3 hb5
          by_cases hb : K.oS l = K.le4 (K.crc x)
          · have HO : Hid (K.oE most l = 0) := hide (by rw [HOs.out, if_pos hb])
            have heq : K.block x = l.take n3 := by rw [HN3.out]; exact HB5.out.2 hb
            have HEq := hide heq
            clear heq hb
            go_wp2_with fail
            refine V.wp_region2 (w0 := w5) [46, 47, 48, 49, 50, 51, 52, 53] [11, 0] (ropenTbl10 a3 n3 c3 ao len cap (K.block x) (K.block x) false) rfl (by kernel_rfl) (by kernel_rfl) (Below.refl _ _) ?hb ?hs ?hd
            case hb =>
              intro d hd
              simp only [List.mem_cons, List.not_mem_nil, or_false] at hd
              rcases hd with rfl | rfl <;> rfl
            case hs =>
              refine ⟨?_, ?_, ?_, ?_, ?_, ?_, ?_, ?_, trivial⟩
              · exact V.Step.move (.inl rfl) (.inl rfl) (.inl ⟨_, rfl⟩) (fun _ h => by cases h; rfl)
              · exact V.Step.strOld (.inl rfl) rfl rfl HS3.out (fun _ h => by cases h; rfl)
              · exact V.Step.move (.inl rfl) (.inl rfl) (.inl ⟨_, rfl⟩) (fun _ h => by cases h; rfl)
              · exact V.Step.move (.inl rfl) (.inl rfl) (.inl ⟨_, rfl⟩) (fun _ h => by cases h; rfl)
              · exact V.Step.len (.inl rfl) rfl (fun v w h => ⟨_, _, h⟩) (fun _ h => by cases h; rfl)
              · exact V.Step.head (.inl rfl) rfl rfl rfl hn3c (fun _ h => by cases h; rfl)
              · exact V.Step.strOld (l := K.block x) (.inl rfl) rfl rfl (by rw [HEq.out, ints_take]; exact HSt.out) (fun _ h => by cases h; rfl)
              · exact V.Step.bin (v := .bool false) (.inl rfl) rfl (.inl ⟨_, rfl⟩) (.inl ⟨_, rfl⟩) rfl rfl (fun w => ⟨rfl, by simp [go_sem]⟩) (fun _ h => by cases h; rfl)
            case hd =>
              intro vs w6 hb6 hk6
              have h53 : vs 53 = .bool false := hk6 7 _ 53 rfl rfl
              simp only [V.puts, List.foldl_cons, List.foldl_nil, h53, Act.put, List.setIfInBounds_toArray, List.set_cons_zero, List.set_cons_succ]
              have HS6 := hide (HSb.out.below hb6)
              have HSx6 := hide (HSx5.out.below hb6)
              have HB6 := hide (HBw.out.trans (hb6.mono HBw.out.size))
              clear hk6 hb6 h53
              go_wp2_with fail
              refine V.wp_region (w0 := w6) [10, 11, 0] (ropenTbl12 ax N cx a3 n3 c3 ao len cap l) (by kernel_rfl) (by kernel_rfl) (Below.refl _ _) ?hb ?hs ?hd
              case hb =>
                intro d hd
                simp only [List.mem_cons, List.not_mem_nil, or_false] at hd
                rcases hd with rfl | rfl | rfl <;> rfl
              case hs =>
                refine ⟨?_, ?_, ?_, ?_, ?_, ?_, ?_, ?_, trivial⟩
                · exact V.Step.move (.inl rfl) (.inl rfl) (.inl ⟨_, rfl⟩) (fun _ h => by cases h; rfl)
                · exact V.Step.move (.inl rfl) (.inl rfl) (.inl ⟨_, rfl⟩) (fun _ h => by cases h; rfl)
                · exact V.Step.move (.inl rfl) (.inl rfl) (.inl ⟨_, rfl⟩) (fun _ h => by cases h; rfl)
                · exact V.Step.len (.inl rfl) rfl (fun v w h => ⟨_, _, h⟩) (fun _ h => by cases h; rfl)
                · exact V.Step.rest (.inl rfl) rfl rfl rfl HS6.out hn3l (fun _ h => by cases h; rfl)
                · exact V.Step.move (.inl rfl) (.inr rfl) (.inl ⟨_, rfl⟩) (fun _ h => by cases h; rfl)
                · exact V.Step.move (.inl rfl) (.inr rfl) (.inl ⟨_, rfl⟩) (fun _ h => by cases h; rfl)
                · exact V.Step.move (.inl rfl) (.inr rfl) (.inr ⟨_, rfl⟩) (fun _ h => by cases h; rfl)
              case hd =>
                intro a0 w1 hw1 hdf hk
                have h4 := V.slot_of (show a0.eval (.tmp 4) = .slice ax N cx from hk 5 _ 4 rfl rfl)
                obtain ⟨a5, c5, h5', hs5⟩ := hk 6 _ 5 rfl rfl
                have h5 := V.slot_of h5'
                have h6 := V.slot_of (show a0.eval (.tmp 6) = .int .i64 0 from hk 7 _ 6 rfl rfl)
                go_wp2
                refine bodyPost_ret (v := .tuple #[.slice ax N cx, .slice a5 (len - n3) c5, .int .i64 0]) (by simp [results, Try.results17, h4, h5, h6, go_sem]) hdf ⟨?_, HB6.out.trans (hw1.mono HB6.out.size)⟩
                unfold OpenAns
                have hR : K.zR most l = l.drop n3 := by rw [(K.z_good HO.out).2, HN3.out]; exact HB4.out.symm
                have hRl : (l.drop n3).length = len - n3 := by rw [List.length_drop, HLL.out]
                rw [HO.out, (K.z_good HO.out).1, HoX.out, hR, HB3.out, hRl]
                exact ⟨_, _, _, _, rfl, HSx6.out.below hw1, hs5⟩
          · have HO : Hid (K.oE most l = 5) := hide (by rw [HOs.out, if_neg hb])
            have hne := str_ne (K.block_lt x HX2.out) (fun y hy => H2.out y (List.mem_of_mem_take hy)) (a := K.block x) (b := l.take n3) (fun e => by
              rw [HN3.out] at e
              exact hb (HB5.out.1 e))
            have HNe := hide hne
            clear hne
            go_wp2_with fail
            refine V.wp_region2 (w0 := w5) [46, 47, 48, 49, 50, 51, 52, 53] [11, 0] (ropenTbl10 a3 n3 c3 ao len cap (K.block x) (l.take n3) true) rfl (by kernel_rfl) (by kernel_rfl) (Below.refl _ _) ?hb ?hs ?hd
            case hb =>
              intro d hd
              simp only [List.mem_cons, List.not_mem_nil, or_false] at hd
              rcases hd with rfl | rfl <;> rfl
            case hs =>
              refine ⟨?_, ?_, ?_, ?_, ?_, ?_, ?_, ?_, trivial⟩
              · exact V.Step.move (.inl rfl) (.inl rfl) (.inl ⟨_, rfl⟩) (fun _ h => by cases h; rfl)
              · exact V.Step.strOld (.inl rfl) rfl rfl HS3.out (fun _ h => by cases h; rfl)
              · exact V.Step.move (.inl rfl) (.inl rfl) (.inl ⟨_, rfl⟩) (fun _ h => by cases h; rfl)
              · exact V.Step.move (.inl rfl) (.inl rfl) (.inl ⟨_, rfl⟩) (fun _ h => by cases h; rfl)
              · exact V.Step.len (.inl rfl) rfl (fun v w h => ⟨_, _, h⟩) (fun _ h => by cases h; rfl)
              · exact V.Step.head (.inl rfl) rfl rfl rfl hn3c (fun _ h => by cases h; rfl)
              · exact V.Step.strOld (l := l.take n3) (.inl rfl) rfl rfl (by rw [ints_take]; exact HSt.out) (fun _ h => by cases h; rfl)
              · exact V.Step.bin (v := .bool true) (.inl rfl) rfl (.inl ⟨_, rfl⟩) (.inl ⟨_, rfl⟩) rfl rfl (fun w => ⟨rfl, by simp [go_sem, HNe.out]⟩) (fun _ h => by cases h; rfl)
            case hd =>
              intro vs w6 hb6 hk6
              have h53 : vs 53 = .bool true := hk6 7 _ 53 rfl rfl
              simp only [V.puts, List.foldl_cons, List.foldl_nil, h53, Act.put, List.setIfInBounds_toArray, List.set_cons_zero, List.set_cons_succ]
              have HB6 := hide (HBw.out.trans (hb6.mono HBw.out.size))
              clear hk6 hb6 h53
              go_wp2_with fail
              exact bodyPost_ret (v := .tuple #[.slice none 0 0, .slice none 0 0, .int .i64 5]) (by simp [results, Try.results17, go_sem]) rfl ⟨OpenAns.bad (by rw [HO.out]; decide) (by rw [HO.out]; rfl), HB6.out⟩
  · have HO : Hid (K.oE most l = G) := hide (by rw [K.oE_bad (by rw [HGG.out]; exact hg), HGG.out])
    have hZ1 : (Z != 0) = true := by simp; omega
    clear hX hY hZ hN hk hG hgN
    go_wp2
    go_ret3
    exact ⟨OpenAns.bad (by rw [HO.out]; exact hg) (by rw [HO.out]; exact HZZ.out), Below.refl _ _⟩
end Go.Proofs.Ytmobcabkaodjoaa

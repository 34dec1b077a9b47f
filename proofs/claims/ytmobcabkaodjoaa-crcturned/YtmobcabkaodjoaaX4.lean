/- The walk of the statement: a block with bits turned is corrupt. -/
import Derived.Test.YtmobcabkaodjoaaK3
import Derived.Test.YtmobcabkaodjoaaH7
import Derived.Test.YtmobcabkaodjoaaX1
import Derived.Test.YtmobcabkaodjoaaV9
import Derived.Test.YtmobcabkaodjoaaRA
namespace Go.Proofs.Ytmobcabkaodjoaa
set_option linter.unusedVariables false
open Go.RowKit

def turnedTbl (g n hd : Nat) (u J c s y : Int) : List (Nat × V.Ent) :=
   [(8, V.Ent.is (.slice (some ⟨g, 0, none⟩) n n)),
    (9, V.Ent.is (.int .i64 (hd : Int))),
    (12, V.Ent.is (.int .i64 u)),
    (49, V.Ent.is (.slice (some ⟨g, 0, none⟩) n n)),
    (50, V.Ent.is (.int .i64 (hd : Int))),
    (51, V.Ent.is (.int .i64 u)),
    (52, V.Ent.is (.int .i64 (u / 8))),
    (53, V.Ent.is (.int .i64 J)),
    (54, V.Ent.is (.slice (some ⟨g, 0, none⟩) n n)),
    (55, V.Ent.is (.int .i64 (hd : Int))),
    (56, V.Ent.is (.int .i64 u)),
    (57, V.Ent.is (.int .i64 (u / 8))),
    (58, V.Ent.is (.int .i64 J)),
    (59, V.Ent.is (.pointer (some ⟨g, 0 + J.toNat, none⟩))),
    (60, V.Ent.is (.int .u8 c)),
    (61, V.Ent.is (.int .i64 u)),
    (62, V.Ent.is (.int .i64 (u % 8))),
    (63, V.Ent.is (.int .u8 s)),
    (64, V.Ent.is (.int .u8 y)),
    (65, V.Ent.is (.pointer (some ⟨g, 0 + J.toNat, none⟩)))]
theorem wrap_pow8 : ∀ k, k < 8 → IntKind.u8.wrap (2 ^ k) = ((2 ^ k : Nat) : Int) := by decide
theorem quo8 (u : Int) (w : World) (h0 : 0 ≤ u) (h1 : u < 65600) : (binOp .quo 3 (.int .i64 u) (.int .i64 8)).run Try.prog w = .ok (.int .i64 (u / 8)) w := by
  have e : u.tdiv 8 = u / 8 := Int.tdiv_eq_ediv_of_nonneg h0
  simp [go_sem, e, IntKind.wrap_i64]; omega
theorem rem8 (u : Int) (w : World) (h0 : 0 ≤ u) (h1 : u < 65600) : (binOp .rem 3 (.int .i64 u) (.int .i64 8)).run Try.prog w = .ok (.int .i64 (u % 8)) w := by
  have e : u.tmod 8 = u % 8 := Int.tmod_eq_emod_of_nonneg h0
  simp [go_sem, e]
theorem oE_at (len : Nat) (P : List Nat) (hl : len < 9223372036854775808) (hP : P.length = len + 4) : K.oE (len : Int) (E.leb len ++ P) = if P.drop len = K.le4 (K.crc (P.take len)) then 0 else 5 := by
  have e : E.leb len ++ P = E.leb len ++ (P.take len ++ (P.drop len ++ [])) := by rw [List.append_nil, List.take_append_drop]
  obtain ⟨p1, p2, p3, p4, p5, p6⟩ := K.o_parts len (by omega) (P.take len) (P.drop len) [] (by rw [List.length_take]; omega) (by rw [List.length_drop]; omega)
  rw [← e] at p1 p2 p3 p4 p6
  rw [K.oE_sum p1 (by omega) (by rw [p2]; exact Int.le_refl _) (by rw [p2, p6]; omega), p3, p4]
theorem Dt_any (a m k N : Nat) : (∃ p, p < N ∧ K.Dt a m (k + 1) p = true) ↔ (∃ p, p < N ∧ K.Dt a m k p = true) ∨ (a + k < N ∧ m.testBit k = true) := by
  constructor
  · rintro ⟨p, hp, h⟩
    rw [K.Dt_next] at h
    simp only [Bool.or_eq_true, Bool.and_eq_true, decide_eq_true_eq] at h
    rcases h with h | ⟨rfl, h⟩
    · exact .inl ⟨p, hp, h⟩
    · exact .inr ⟨hp, h⟩
  · rintro (⟨p, hp, h⟩ | ⟨hp, h⟩)
    · exact ⟨p, hp, by rw [K.Dt_next, h]; rfl⟩
    · exact ⟨a + k, hp, by rw [K.Dt_next]; simp [h]⟩

set_option maxHeartbeats 2000000 in
theorem crcTurned_in (w : World) (ao : Option Addr) (len cap : Nat) (l : List Nat) (at_ mask : Int) (hsl : Sl w .u8 ao len cap (ints l)) (hm : len ≤ 140737488351232) (h256 : ∀ x ∈ l, x < 256) (ha0 : 0 ≤ at_) (ha1 : at_ < 65536) (hm0 : 0 ≤ mask) (hm1 : mask < 4294967296) :
    Calls Try.prog 6 #[.slice ao len cap, .int .u16 at_, .int .u32 mask] w fun e w' => e = .returned (.bool true) ∧ Below w.heap.size w w' := by
  have HSL := hide hsl
  have H2 := hide h256
  have hll : l.length = len := by rw [← hsl.1, ints_length]
  have HLL := hide hll
  have hlp := E.leb_pos len
  have hlt := E.leb_ten len (by omega)
  have hbl := K.block_length l
  rw [hll] at hbl
  clear hsl h256 hll
  go_enter Try.func6, Try.ntmps6
  go_wp2_with fail
  refine (shown_any w).mono ?_
  rintro e w2 ⟨rfl, hb⟩
  go_wp2_with fail
  refine (block_any ao len cap l w2 (HSL.out.below hb) hm H2.out).mono ?_
  rintro e w3 ⟨g, rfl, hg, hBg, hb3⟩
  have HB3 := hide (hb.trans (hb3.mono hb.size))
  have HG := hide hg
  have HBg := hide (show w.heap.size ≤ g by have := hb.size; omega)
  have HSL3 := hide (HSL.out.below (w' := w3) HB3.out)
  clear hb hb3 hg hBg
  obtain ⟨hd, hhd⟩ : ∃ hd, (E.leb len).length = hd := ⟨_, rfl⟩
  rw [hhd] at hlp hlt hbl
  have HHD := hide hhd
  have HBL := hide hbl
  obtain ⟨n, hn⟩ : ∃ n, (K.block l).length = n := ⟨_, rfl⟩
  rw [hn] at hbl ⊢
  have HN := hide hn
  have HBn := hide hbl
  have hnl : len ≤ n := by omega
  have hnb : n ≤ 140737488351300 := by omega
  have hh : (n : Int) - (len : Int) - 4 = (hd : Int) := by omega
  have h1 : decide ((hd : Int) < 1) = false := by simp; omega
  clear hhd hn hbl
  go_wp2_with fail
  go_loopw [10, 11] (fun t i wr => ∃ (x : Int) (b : Bool) (P : List Nat), 0 ≤ x ∧ x ≤ 32 ∧ i = .int .i64 x ∧ t = .bool b ∧ Hid (K.Turn (K.Dt at_.toNat mask.toNat x.toNat) P (l ++ K.le4 (K.crc l)) ∧ (b = true ↔ ∃ p, p < 8 * (len + 4) ∧ K.Dt at_.toNat mask.toNat x.toNat p = true) ∧ wr.heap[g]? = some (.cells (B8 (E.leb len ++ P)).toArray 5 (0, 0)) ∧ Below w.heap.size w wr)) (fun _ i _ => 32 - (intOf i).toNat)
  case atStart =>
    refine ⟨0, false, l ++ K.le4 (K.crc l), by omega, by omega, rfl, rfl, hide ⟨K.Turn.zero _ _ _ ?_, ?_, ?_, HB3.out⟩⟩
    · intro y hy
      rcases List.mem_append.1 hy with h | h
      · exact H2.out y h
      · exact K.le4_lt _ y h
    · simp only [Bool.false_eq_true, false_iff, not_exists, not_and]
      intro p _
      rw [show (0 : Int).toNat = 0 from rfl, K.Dt_zero]; simp
    · rw [HG.out]; unfold K.block; rw [HLL.out]
  case round =>
    obtain ⟨x, b, P, hx0, hx1, rfl, rfl, HR⟩ := hrel
    by_cases hlt2 : x < 32
    · have hq0 : 0 ≤ mask / 2 ^ x.toNat := Int.ediv_nonneg hm0 (by have := Int.pow_pos (n := 2) (m := x.toNat) (by omega); omega)
      have hq1 : mask / 2 ^ x.toNat < 4294967296 := Int.lt_of_le_of_lt (Int.ediv_le_self _ hm0) hm1
      have hqn : (mask / 2 ^ x.toNat).toNat = mask.toNat / 2 ^ x.toNat := by
        obtain ⟨M, rfl⟩ := Int.eq_ofNat_of_zero_le hm0
        rw [Int.toNat_natCast, ← pow_int, ← Int.natCast_ediv, Int.toNat_natCast]
      obtain ⟨mq, hy⟩ : ∃ y, mask / 2 ^ x.toNat = y := ⟨_, rfl⟩
      rw [hy] at hq0 hq1 hqn
      have e1 := u32_and mq 1 hq0 hq1 (by omega) (by omega)
      rw [show (1 : Int).toNat = 1 from rfl, Nat.and_one_is_mod, hqn] at e1
      have HT := hide (Nat.testBit_eq_decide_div_mod_eq (x := mask.toNat) (i := x.toNat))
      obtain ⟨z, hz⟩ : ∃ z : Int, ((mask.toNat / 2 ^ x.toNat % 2 : Nat) : Int) = z := ⟨_, rfl⟩
      rw [hz] at e1
      have HTz : Hid (mask.toNat.testBit x.toNat = decide (z = 1)) := hide (by
        rw [HT.out, ← hz]
        generalize mask.toNat / 2 ^ x.toNat % 2 = M
        rw [decide_eq_decide]; omega)
      obtain ⟨u, hu⟩ : ∃ u, at_ + x = u := ⟨_, rfl⟩
      have hu0 : 0 ≤ u := by omega
      have hu1 : u < 65600 := by omega
      have HU := hide (show at_.toNat + x.toNat = u.toNat by omega)
      have HX1 := hide (show (x + 1).toNat = x.toNat + 1 by omega)
      have HQL : Hid ((l ++ K.le4 (K.crc l)).length = len + 4) := hide (by rw [List.length_append, HLL.out, K.le4_length])
      clear hqn hz
      by_cases hbit : z = 1
      · subst hbit
        have HTB : Hid (mask.toNat.testBit x.toNat = true) := hide (by rw [HTz.out]; rfl)
        by_cases hin : (hd : Int) + u / 8 < (n : Int)
        · go_wp2_with fail
          obtain ⟨J, hJ⟩ : ∃ J : Int, (hd : Int) + u / 8 = J := ⟨_, rfl⟩
          rw [hJ] at hin
          have hJ0 : 0 ≤ J := by omega
          have hJ1 : J < (n : Int) := hin
          obtain ⟨r1, r2, r3, r4⟩ := HR.out
          have hPl : P.length = len + 4 := by rw [r1.1]; exact HQL.out
          have hJn : J.toNat = hd + u.toNat / 8 := by omega
          have hu8 : u.toNat / 8 < len + 4 := by have := HBn.out; omega
          have hcell : wr.cell? ⟨g, 0 + J.toNat, none⟩ = some (.int .u8 ((P.getD (u.toNat / 8) 0 : Nat) : Int)) := by
            rw [cell_of_row wr g _ _ 5 (0, 0) r3, Nat.zero_add, B8_at _ _ (by rw [List.length_append, HHD.out, hPl]; omega)]
            congr 3
            simp [List.getD, List.getElem?_append_right, HHD.out, hJn]
          have hcl := getD_lt8 r1.2.1 (u.toNat / 8)
          obtain ⟨c, hc⟩ : ∃ c : Int, ((P.getD (u.toNat / 8) 0 : Nat) : Int) = c := ⟨_, rfl⟩
          rw [hc] at hcell
          have hsw : IntKind.u8.wrap (2 ^ (u % 8).toNat) = ((2 ^ (u.toNat % 8) : Nat) : Int) := by
            rw [show (u % 8).toNat = u.toNat % 8 by omega]
            exact wrap_pow8 _ (by omega)
          have hs8 : 2 ^ (u.toNat % 8) < 2 ^ 8 := Nat.pow_lt_pow_right (by omega) (by omega)
          obtain ⟨S, hSS⟩ : ∃ S : Nat, 2 ^ (u.toNat % 8) = S := ⟨_, rfl⟩
          have hS8 : S < 256 := by rw [← hSS]; exact hs8
          obtain ⟨s, hs⟩ : ∃ s : Int, ((2 ^ (u.toNat % 8) : Nat) : Int) = s := ⟨_, rfl⟩
          have hsS : s = (S : Int) := by rw [← hs, hSS]
          clear hs8
          have hxy := u8_xor c s (by omega) (by omega) (by rw [hsS]; omega) (by rw [hsS]; omega)
          obtain ⟨y, hye⟩ : ∃ y : Int, ((c.toNat ^^^ s.toNat : Nat) : Int) = y := ⟨_, rfl⟩
          rw [hye] at hxy
          have hyn : y = ((P.getD (u.toNat / 8) 0 ^^^ 2 ^ (u.toNat % 8) : Nat) : Int) := by
            rw [← hye, ← hc, ← hs, Int.toNat_natCast, Int.toNat_natCast]
          have hgs : g < wr.heap.size := lt_of_block r3
          have hquo := fun w : World => quo8 u w hu0 hu1
          have hrem := fun w : World => rem8 u w hu0 hu1
          have hadd : ∀ w : World, (binOp .add 3 (.int .i64 (hd : Int)) (.int .i64 (u / 8))).run Try.prog w = .ok (.int .i64 J) w := fun w => by
            simp [go_sem, IntKind.wrap_i64]; omega
          have hshl : ∀ w : World, (binOp .shl 5 (.int .u8 1) (.int .i64 (u % 8))).run Try.prog w = .ok (.int .u8 s) w := fun w => by
            have h0 : 0 ≤ u % 8 := by omega
            have h8 : u % 8 < 8 := by omega
            simp [go_sem, hsw, hs]
          have hxor : ∀ w : World, (binOp .xor 5 (.int .u8 c) (.int .u8 s)).run Try.prog w = .ok (.int .u8 y) w := fun w => by
            simp [go_sem, hxy]
          refine V.wp_region_byte (w0 := wr) [49, 50, 51, 52, 53, 54, 55, 56, 57, 58, 59, 60, 61, 62, 63, 64, 65] [8, 9, 12] (turnedTbl g n hd u J c s y) 65 64 g (0 + J.toNat) y c rfl rfl (by kernel_rfl) (by kernel_rfl) (by kernel_rfl) rfl rfl (by kernel_rfl) rfl rfl hgs hcell (by simp [World.frozen?, r3]) (Below.refl _ _) ?hb ?hs ?hd
          case hb =>
            intro d hd
            simp only [List.mem_cons, List.not_mem_nil, or_false] at hd
            rcases hd with rfl | rfl | rfl <;> rfl
          case hs =>
            refine ⟨?_, ?_, ?_, ?_, ?_, ?_, ?_, ?_, ?_, ?_, ?_, ?_, ?_, ?_, ?_, ?_, ?_, trivial⟩
            · exact V.Step.move (.inl rfl) (.inl rfl) (.inl ⟨_, rfl⟩) (fun _ h => by cases h; rfl)
            · exact V.Step.move (.inl rfl) (.inl rfl) (.inl ⟨_, rfl⟩) (fun _ h => by cases h; rfl)
            · exact V.Step.move (.inl rfl) (.inl rfl) (.inl ⟨_, rfl⟩) (fun _ h => by cases h; rfl)
            · exact V.Step.bin (v := .int .i64 (u / 8)) (.inl rfl) rfl (.inl ⟨_, rfl⟩) (.inr ⟨_, rfl⟩) rfl rfl (fun w => ⟨rfl, hquo w⟩) (fun _ h => by cases h; rfl)
            · exact V.Step.bin (v := .int .i64 J) (.inl rfl) rfl (.inl ⟨_, rfl⟩) (.inl ⟨_, rfl⟩) rfl rfl (fun w => ⟨rfl, hadd w⟩) (fun _ h => by cases h; rfl)
            · exact V.Step.move (.inl rfl) (.inl rfl) (.inl ⟨_, rfl⟩) (fun _ h => by cases h; rfl)
            · exact V.Step.move (.inl rfl) (.inl rfl) (.inl ⟨_, rfl⟩) (fun _ h => by cases h; rfl)
            · exact V.Step.move (.inl rfl) (.inl rfl) (.inl ⟨_, rfl⟩) (fun _ h => by cases h; rfl)
            · exact V.Step.bin (v := .int .i64 (u / 8)) (.inl rfl) rfl (.inl ⟨_, rfl⟩) (.inr ⟨_, rfl⟩) rfl rfl (fun w => ⟨rfl, hquo w⟩) (fun _ h => by cases h; rfl)
            · exact V.Step.bin (v := .int .i64 J) (.inl rfl) rfl (.inl ⟨_, rfl⟩) (.inl ⟨_, rfl⟩) rfl rfl (fun w => ⟨rfl, hadd w⟩) (fun _ h => by cases h; rfl)
            · exact V.Step.at (i := J) (.inl rfl) rfl rfl (.inl ⟨_, rfl⟩) rfl hJ0 hJ1 (fun _ h => by cases h; rfl)
            · exact V.Step.byte (.inl rfl) rfl rfl hgs hcell (fun _ h => by cases h; rfl)
            · exact V.Step.move (.inl rfl) (.inl rfl) (.inl ⟨_, rfl⟩) (fun _ h => by cases h; rfl)
            · exact V.Step.bin (v := .int .i64 (u % 8)) (.inl rfl) rfl (.inl ⟨_, rfl⟩) (.inr ⟨_, rfl⟩) rfl rfl (fun w => ⟨rfl, hrem w⟩) (fun _ h => by cases h; rfl)
            · exact V.Step.bin (v := .int .u8 s) (.inl rfl) rfl (.inr ⟨_, rfl⟩) (.inl ⟨_, rfl⟩) rfl rfl (fun w => ⟨rfl, hshl w⟩) (fun _ h => by cases h; rfl)
            · exact V.Step.bin (v := .int .u8 y) (.inl rfl) rfl (.inl ⟨_, rfl⟩) (.inl ⟨_, rfl⟩) rfl rfl (fun w => ⟨rfl, hxor w⟩) (fun _ h => by cases h; rfl)
            · exact V.Step.at (i := J) (.inl rfl) rfl rfl (.inl ⟨_, rfl⟩) rfl hJ0 hJ1 (fun _ h => by cases h; rfl)
          case hd =>
            intro vs w5 hb5 hk
            have hg5 : w5.heap[g]? = some (.cells (B8 (E.leb len ++ P)).toArray 5 (0, 0)) := by rw [hb5.block g hgs]; exact r3
            simp only [V.puts, List.foldl_cons, List.foldl_nil, Act.put, List.setIfInBounds_toArray, List.set_cons_zero, List.set_cons_succ]
            have HNew : Hid (K.Turn (K.Dt at_.toNat mask.toNat (x + 1).toNat) (P.set (u.toNat / 8) (P.getD (u.toNat / 8) 0 ^^^ 2 ^ (u.toNat % 8))) (l ++ K.le4 (K.crc l)) ∧ (true = true ↔ ∃ p, p < 8 * (len + 4) ∧ K.Dt at_.toNat mask.toNat (x + 1).toNat p = true) ∧ (w5.setCell ⟨g, 0 + J.toNat, none⟩ (.int .u8 y)).heap[g]? = some (.cells (B8 (E.leb len ++ P.set (u.toNat / 8) (P.getD (u.toNat / 8) 0 ^^^ 2 ^ (u.toNat % 8)))).toArray 5 (0, 0)) ∧ Below w.heap.size w (w5.setCell ⟨g, 0 + J.toNat, none⟩ (.int .u8 y))) := hide (by
              refine ⟨?_, ?_, ?_, ?_⟩
              · have := r1.flip HTB.out (by rw [HU.out, HQL.out]; exact hu8)
                rw [HU.out] at this
                rw [HX1.out]
                exact this
              · rw [HX1.out, Dt_any]
                exact ⟨fun _ => .inr ⟨by rw [HU.out]; omega, HTB.out⟩, fun _ => rfl⟩
              · rw [heap_setCell_row hg5, hyn, V.row_set]
                congr 4
                rw [Nat.zero_add, hJn, List.set_append_right _ _ (by rw [HHD.out]; omega), HHD.out]
                congr 2; omega
              · exact (r4.trans (hb5.mono r4.size)).setCell (p := ⟨g, 0 + J.toNat, none⟩) HBg.out _)
            obtain ⟨w6, hw6⟩ : ∃ w6, w5.setCell ⟨g, 0 + J.toNat, none⟩ (.int .u8 y) = w6 := ⟨_, rfl⟩
            rw [hw6] at HNew ⊢
            clear hk hg5 hw6 r1 r2 r3 r4 hquo hrem hadd hshl hxor hcell
            go_wp2_with fail
            go_roundw
            case rel => exact ⟨x + 1, true, _, by omega, by omega, rfl, rfl, HNew⟩
            case measure => simp [intOf]; omega
        · have HR2 : Hid (K.Turn (K.Dt at_.toNat mask.toNat (x + 1).toNat) P (l ++ K.le4 (K.crc l)) ∧ (b = true ↔ ∃ p, p < 8 * (len + 4) ∧ K.Dt at_.toNat mask.toNat (x + 1).toNat p = true) ∧ wr.heap[g]? = some (.cells (B8 (E.leb len ++ P)).toArray 5 (0, 0)) ∧ Below w.heap.size w wr) := hide (by
            obtain ⟨r1, r2, r3, r4⟩ := HR.out
            have hfar : len + 4 ≤ u.toNat / 8 := by have := HBn.out; omega
            refine ⟨?_, ?_, r3, r4⟩
            · rw [HX1.out]; exact r1.skip (.inr (by rw [HU.out, HQL.out]; exact hfar))
            · rw [HX1.out, Dt_any, r2]
              exact ⟨fun h => .inl h, fun h => h.elim id fun h => by have := h.1; rw [HU.out] at this; omega⟩)
          go_wp2
          go_roundw
          case rel => exact ⟨x + 1, b, P, by omega, by omega, rfl, rfl, HR2⟩
          case measure => simp [intOf]; omega
      · have hzb : (z == 1) = false := by simp [hbit]
        have HR2 : Hid (K.Turn (K.Dt at_.toNat mask.toNat (x + 1).toNat) P (l ++ K.le4 (K.crc l)) ∧ (b = true ↔ ∃ p, p < 8 * (len + 4) ∧ K.Dt at_.toNat mask.toNat (x + 1).toNat p = true) ∧ wr.heap[g]? = some (.cells (B8 (E.leb len ++ P)).toArray 5 (0, 0)) ∧ Below w.heap.size w wr) := hide (by
          obtain ⟨r1, r2, r3, r4⟩ := HR.out
          have htb : mask.toNat.testBit x.toNat = false := by rw [HTz.out]; simp [hbit]
          refine ⟨?_, ?_, r3, r4⟩
          · rw [HX1.out]; exact r1.skip (.inl htb)
          · rw [HX1.out, Dt_any, r2]
            exact ⟨fun h => .inl h, fun h => h.elim id fun h => by rw [htb] at h; simp at h⟩)
        go_wp2
        go_roundw
        case rel => exact ⟨x + 1, b, P, by omega, by omega, rfl, rfl, HR2⟩
        case measure => simp [intOf]; omega
    · obtain rfl : x = 32 := by omega
      obtain ⟨r1, r2, r3, r4⟩ := HR.out
      have hPl : P.length = len + 4 := by rw [r1.1, List.length_append, HLL.out, K.le4_length]
      have hLn : (E.leb len ++ P).length = n := by rw [List.length_append, HHD.out, hPl]; have := HBn.out; omega
      have hsf : Sl wr .u8 (some ⟨g, 0, none⟩) n n (ints (E.leb len ++ P)) := by
        have := Sl.of_row r3 (by rw [hLn]; unfold maxLen; omega)
        rwa [hLn] at this
      have hL2 : ∀ y ∈ E.leb len ++ P, y < 256 := by
        intro y hy
        rcases List.mem_append.1 hy with h | h
        · exact E.leb_lt _ y h
        · exact r1.2.1 y h
      have hoE := oE_at len P (by omega) hPl
      have hB : Hid (Below w.heap.size w wr) := hide r4
      cases b with
      | false =>
        have hP : P = l ++ K.le4 (K.crc l) := r1.same (fun y hy => by
          rcases List.mem_append.1 hy with h | h
          · exact H2.out y h
          · exact K.le4_lt _ y h) (fun k hk => by
          rw [List.length_append, HLL.out, K.le4_length] at hk
          cases hD : K.Dt at_.toNat mask.toNat (32 : Int).toNat k with
          | false => rfl
          | true => exact absurd (r2.2 ⟨k, by omega, hD⟩) (by simp))
        have hbk : E.leb len ++ P = K.block l ++ [] := by rw [hP, List.append_nil]; unfold K.block; rw [HLL.out]
        obtain ⟨o1, o2, o3⟩ := K.o_block l [] (by rw [HLL.out]; omega) (len : Int) (by rw [HLL.out]; exact Int.le_refl _)
        rw [← hbk] at o1 o2 o3
        have HO1 := hide o1
        have HO2 := hide (show K.zX (len : Int) (E.leb len ++ P) = l by rw [(K.z_good o1).1, o2])
        have HSF := hide hsf
        have HL2 := hide hL2
        clear hP hbk o1 o2 o3 r1 r2 r3 r4 hoE hsf hL2 hPl hLn
        go_wp2_with fail
        refine (open_any _ n n (E.leb len ++ P) (len : Int) wr HSF.out (by omega) HL2.out (by omega) (by omega)).mono ?_
        rintro e w5 ⟨⟨a1, c1, a2, c2, rfl, s1, s2⟩, hb5⟩
        rw [HO1.out]
        rw [HO2.out] at s1 ⊢
        have q1 := str_of s1
        have q2 := str_of (HSL.out.below (w' := w5) (hB.out.trans (hb5.mono hB.out.size)))
        rw [HLL.out] at q1 ⊢
        obtain ⟨n2, hn2⟩ : ∃ n2, (K.zR (len : Int) (E.leb len ++ P)).length = n2 := ⟨_, rfl⟩
        rw [hn2]
        clear s1 s2 hn2
        go_wp2
        go_ret
        exact ⟨rfl, hB.out.trans (hb5.mono hB.out.size)⟩
      | true =>
        have hne : P.drop len ≠ K.le4 (K.crc (P.take len)) := by
          obtain ⟨k, hk, hD⟩ := r2.1 rfl
          have := K.turned_sum l H2.out _ P r1 at_.toNat (fun k hk => K.Dt_in hk) ⟨k, by rw [HLL.out]; exact hk, hD⟩
          rwa [HLL.out] at this
        rw [if_neg hne] at hoE
        have HO1 := hide hoE
        have HO2 := hide (show K.zX (len : Int) (E.leb len ++ P) = [] by rw [(K.z_bad (by rw [hoE]; decide)).1])
        have HSF := hide hsf
        have HL2 := hide hL2
        clear r1 r2 r3 r4 hoE hsf hL2 hPl hLn hne
        go_wp2_with fail
        refine (open_any _ n n (E.leb len ++ P) (len : Int) wr HSF.out (by omega) HL2.out (by omega) (by omega)).mono ?_
        rintro e w5 ⟨⟨a1, c1, a2, c2, rfl, s1, s2⟩, hb5⟩
        rw [HO1.out, HO2.out]
        obtain ⟨n2, hn2⟩ : ∃ n2, (K.zR (len : Int) (E.leb len ++ P)).length = n2 := ⟨_, rfl⟩
        rw [hn2]
        clear s1 s2 hn2
        go_wp2
        go_ret
        exact ⟨rfl, hB.out.trans (hb5.mono hB.out.size)⟩

theorem crcTurned_walk (w : World) (a : Option Addr) (len cap : Nat) (z : List Int) (c : Came .u8 w a len cap z) (hr : cap * 1 ≤ 140737488351232) (at_ : Int) (wa : (Lit.int .u16 at_).wf = true) (mask : Int) (wm : (Lit.int .u32 mask).wf = true) :
    Calls Try.prog 6 #[.slice a len cap, .int .u16 at_, .int .u32 mask] w fun e w' => e = .returned (.bool true) ∧ Below w.heap.size w w' := by
  obtain ⟨l, rfl, h256⟩ := came_bytes c
  obtain ⟨h0, h1⟩ := wf_u16 wa
  obtain ⟨h2, h3⟩ := wf_u32 wm
  have hc := c.1.2.1
  exact crcTurned_in w a len cap l at_ mask c.1 (by omega) h256 h0 h1 h2 h3
end Go.Proofs.Ytmobcabkaodjoaa

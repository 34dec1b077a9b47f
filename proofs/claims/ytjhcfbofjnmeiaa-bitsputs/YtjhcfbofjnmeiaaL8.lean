/- The walk of the statement: whatever is put and got is as the document says. -/
import Derived.Test.YtjhcfbofjnmeiaaF7
import Derived.Test.YtjhcfbofjnmeiaaL5
import Derived.Deep.RegionWith
import Derived.Deep.CutBlock
import Derived.Deep.DeepCutAuto
namespace Go.Proofs.Ytjhcfbofjnmeiaa
set_option linter.unusedVariables false
open Go.RowKit

/-- What a Put leaves of the bits' row, and of what was there before the statement. -/
theorem puts_step {w wr w3 : World} {p : Nat} {vW v3 v9 : Value} {bs : List Bool} {n : Nat} {xs : List Value} (hp : w.heap.size ≤ p) (hw : Wr wr p vW bs) (ho : wr.ownsRow w.heap.size 4 1 v9 n xs) (hb : Below w.heap.size w wr) (hs : WS p wr vW w3 v3) :
    w3.ownsRow w.heap.size 4 1 v9 n xs ∧ Below w.heap.size w w3 := by
  have hsz := hb.size
  constructor
  · refine owns_of_block ho fun g hg => hs.1.block g (owns_lt ho hg).2 ?_
    rintro (rfl | h)
    · exact owns_ne_block ho hw.1 (by decide) hg
    · exact owns_ne hw.2 ho (by decide) h hg
  · refine hb.trans (hs.1.below hsz ?_)
    rintro x (rfl | h)
    · exact hp
    · have := (owns_lt hw.2 h).1; omega

/-- Get and Left, what is left under one name. -/
theorem rget_r (ao : Option Addr) (len cap : Nat) (bs : List Bool) (k : Int) (R : Nat) (w : World) (h : Sb w ao len cap bs) (hk0 : 0 ≤ k) (hk : k ≤ 64) (hR : k.toNat + R = len) :
    Calls Try.prog 19 #[.slice ao len cap, .int .i64 k] w fun e w' => ∃ ao' cap', e = .returned (.tuple #[.int .u64 ((A.valOf (bs.take k.toNat) : Nat) : Int), .slice ao' R cap', .int .i64 0]) ∧ Sb w' ao' R cap' (bs.drop k.toNat) ∧ (∀ x, ao' = some x → ∃ y, ao = some y ∧ x.block = y.block) ∧ Kept (fun _ => False) w w' := by
  obtain ⟨j, rfl⟩ := Int.eq_ofNat_of_zero_le hk0
  rw [Int.toNat_natCast] at hR ⊢
  refine (rget_any ao len cap bs j w h h.2.2.1 (by omega) (by omega)).mono ?_
  rintro e w' ⟨ao', cap', he, hs, _, hb, hk'⟩
  rw [show len - j = R by omega] at he hs
  exact ⟨ao', cap', he, hs, hb, hk'⟩
theorem rget_s (ao : Option Addr) (len cap : Nat) (k : Int) (w : World) (hk0 : 0 ≤ k) (hk : k ≤ 64) (h : len < k.toNat) :
    Calls Try.prog 19 #[.slice ao len cap, .int .i64 k] w fun e w' => e = .returned (.tuple #[.int .u64 0, .slice ao len cap, .int .i64 3]) ∧ w' = w := by
  obtain ⟨j, rfl⟩ := Int.eq_ofNat_of_zero_le hk0
  rw [Int.toNat_natCast] at h
  exact rget_short ao len cap j w (by omega) h
theorem get_s (p : Nat) (v : Value) (l : List Nat) (pos : Nat) (k : Int) (w : World) (hr : Rd w p v l pos) (hp : pos ≤ 8 * l.length) (hl : l.length ≤ 140737488355328) (hk0 : 0 ≤ k) (hk : k ≤ 64) (hs : 8 * l.length < pos + k.toNat) :
    Calls Try.prog 18 #[.pointer (some ⟨p, 0, none⟩), .int .i64 k] w fun e w' => e = .returned (.tuple #[.int .u64 0, .int .i64 3]) ∧ Rd w' p v l pos ∧ Kept (fun _ => False) w w' := by
  obtain ⟨j, rfl⟩ := Int.eq_ofNat_of_zero_le hk0
  rw [Int.toNat_natCast] at hs
  exact get_short p v l pos j w hr hp hl (by omega) hs
theorem get_g (p : Nat) (v : Value) (l : List Nat) (pos : Nat) (k : Int) (w : World) (hr : Rd w p v l pos) (hl : l.length ≤ 140737488355328) (h256 : ∀ x ∈ l, x < 256) (hk0 : 0 ≤ k) (hk : k ≤ 64) (hs : pos + k.toNat ≤ 8 * l.length) :
    Calls Try.prog 18 #[.pointer (some ⟨p, 0, none⟩), .int .i64 k] w fun e w' => e = .returned (.tuple #[.int .u64 ((getV l pos k.toNat : Nat) : Int), .int .i64 0]) ∧ Rd w' p v l (pos + k.toNat) ∧ Kept (fun x => x = p) w w' := by
  obtain ⟨j, rfl⟩ := Int.eq_ofNat_of_zero_le hk0
  rw [Int.toNat_natCast] at hs ⊢
  exact get_yes p v l pos j w hr hl h256 (by omega) hs
theorem left_r (p : Nat) (v : Value) (l : List Nat) (pos R : Nat) (w : World) (hr : Rd w p v l pos) (hR : pos + R = 8 * l.length) (hl : l.length ≤ 140737488355328) :
    Calls Try.prog 20 #[.pointer (some ⟨p, 0, none⟩)] w fun e w' => e = .returned (.int .i64 ((R : Nat) : Int)) ∧ Rd w' p v l pos ∧ Kept (fun _ => False) w w' := by
  have h := left_any p v l pos w hr (by omega) hl
  rw [show 8 * l.length - pos = R by omega] at h
  exact h

set_option maxHeartbeats 4000000 in
set_option maxRecDepth 100000 in
theorem bitsPuts_walk (w : World) (a : Option Addr) (len cap : Nat) (l : List (Int × Int)) (hsl : Sp w a len cap l) (hin : InP l) (hr : cap * 16 ≤ 140737488351232) (a1 : Option Addr) (len1 cap1 : Nat) (z : List Int) (cz : Came .u8 w a1 len1 cap1 z) (hr1 : cap1 * 1 ≤ 140737488351232) (a2 : Option Addr) (len2 cap2 : Nat) (ws : List Int) (cw : Came .i64 w a2 len2 cap2 ws) (hr2 : cap2 * 8 ≤ 140737488351232) :
    Calls Try.prog 3 #[.slice a len cap, .slice a1 len1 cap1, .slice a2 len2 cap2] w fun e w' => e = .returned (.bool true) ∧ Below w.heap.size w w' := by
  obtain ⟨B, rfl, h256⟩ := came_bytes cz
  have hlc := hsl.2.1
  have hlc1 := cz.1.2.1
  have hlc2 := cw.1.2.1
  have HSL := hide hsl
  have HIN := hide hin
  have HSB := hide cz.1
  have HSW := hide cw.1
  have HWF := hide cw.2
  have H2 := hide h256
  clear hsl hin cz cw h256
  go_enter Try.func3, Try.ntmps3
  go_wp2_with fail
  refine (shown_any w).mono ?_
  rintro e w2 ⟨rfl, hb⟩
  have hs := hb.size
  go_upto_block 0 with fail
  go_cut [9] (fun v9 wx => ∃ vW bs, bs.length ≤ 6400 ∧ Wr wx w2.heap.size vW bs ∧ wx.ownsRow w.heap.size 4 1 v9 bs.length (Vb bs) ∧ Below w.heap.size w wx)
  case first =>
    go_wp2_with fail
    go_loopw [9, 10] (fun v9 v10 wr => ∃ j : Nat, j ≤ len ∧ j ≤ 100 ∧ v10 = .int .i64 j ∧ (∃ vW bs, bs.length ≤ j * 64 ∧ Wr wr w2.heap.size vW bs ∧ wr.ownsRow w.heap.size 4 1 v9 bs.length (Vb bs)) ∧ Below w.heap.size w wr) (fun _ v10 _ => len - (intOf v10).toNat)
    case atStart => exact ⟨0, Nat.zero_le _, by omega, rfl, ⟨_, [], by simp, Wr.fresh w2, World.ownsRow_nil _ _ _ _⟩, hb.alloc hs _⟩
    case round =>
      obtain ⟨j, hj, hj2, rfl, ⟨vW, bs, hbl, hw, hown⟩, hbr⟩ := hrel
      have hsr := hbr.size
      obtain ⟨ao9, cap9, hv9, hsb9, _⟩ := Sb.of_owns hown
      have HSB9 := hide hsb9
      clear hsb9
      subst hv9
      rcases (show (j < len ∧ j < 100) ∨ (len ≤ j) ∨ (j < len ∧ 100 ≤ j) by omega) with ⟨hlt, hlt2⟩ | hlt | ⟨hlt, hlt2⟩
      case inl =>
        obtain ⟨b, off, hao, hblt, hc⟩ : ∃ b off, a = some ⟨b, off, none⟩ ∧ b < w.heap.size ∧ ∀ i, i < len → w.cell? ⟨b, off + i * 2, none⟩ = some (.int .u64 (l.getD i (0, 0)).1) ∧ w.cell? ⟨b, off + i * 2 + 1, none⟩ = some (.int .i64 (l.getD i (0, 0)).2) := by
          rcases HSL.out.2.2.2.2 with h | h
          · omega
          · exact h
        have hll : j < l.length := by rw [HSL.out.1]; exact hlt
        obtain ⟨hc0, hc1⟩ := hc j hlt
        obtain ⟨q0, q1, q2, q3⟩ := HIN.out.getD j hll
        obtain ⟨n, k, hx⟩ : ∃ n k, l.getD j (0, 0) = (n, k) := ⟨_, _, rfl⟩
        rw [hx] at hc0 hc1 q0 q1 q2 q3
        simp only at hc0 hc1 q0 q1 q2 q3
        have d0 : wr.cell? ⟨b, off + j * 2, none⟩ = some (.int .u64 n) := by rw [hbr.cell (p := ⟨b, off + j * 2, none⟩) hblt]; exact hc0
        have d1 : wr.cell? ⟨b, off + j * 2 + 1, none⟩ = some (.int .i64 k) := by rw [hbr.cell (p := ⟨b, off + j * 2 + 1, none⟩) hblt]; exact hc1
        have HW := hide hw
        have HO := hide hown
        have HB := hide hbr
        clear hc hx hll hw hown hbr hc0 hc1 hb
        subst hao
        by_cases ho : okP (n, k) = true
        · have HK := hide ho
          obtain ⟨k0, k1, _⟩ := (okP_iff n k).1 ho
          obtain ⟨bs', hbs'⟩ : ∃ bs', bs ++ A.bitsOf n.toNat k.toNat = bs' := ⟨_, rfl⟩
          have HBS := hide hbs'
          have HBL : Hid (bs'.length ≤ (j + 1) * 64) := by
            show bs'.length ≤ (j + 1) * 64
            rw [← hbs', List.length_append, A.bitsOf_length]; omega
          clear ho hbs'
          go_wp2_with fail
          go_region_with (go_at_call 11; refine (put_i _ vW _ _ _ _ (by exact HW.out) (by omega) q0 q1 HK.out).mono ?_; rintro e w3 ⟨rfl, v3, hw3, hs3⟩)
          all_goals
            obtain ⟨ho3, hb3⟩ := puts_step (wr := wr.drew) hs (by exact HW.out) (by exact HO.out) HB.out.drew hs3
            have hs4 := hb3.size
            have d0' : w3.cell? ⟨b, off + j * 2, none⟩ = some (.int .u64 n) := by rw [hb3.cell (p := ⟨b, off + j * 2, none⟩) hblt, ← HB.out.cell (p := ⟨b, off + j * 2, none⟩) hblt]; exact d0
            have d1' : w3.cell? ⟨b, off + j * 2 + 1, none⟩ = some (.int .i64 k) := by rw [hb3.cell (p := ⟨b, off + j * 2 + 1, none⟩) hblt, ← HB.out.cell (p := ⟨b, off + j * 2 + 1, none⟩) hblt]; exact d1
            rw [HBS.out] at hw3
            have HW3 := hide hw3
            have HB3 := hide hb3
            have HSB3 := hide (Sb.of_slice rfl ho3)
            clear hs3 d0 d1 hw3 hb3 ho3
            go_wp2_with fail
            go_region_with (go_at_call 12; refine (rput_i _ _ _ bs _ _ _ (by exact HSB3.out) (by omega) q0 q1 HK.out).mono ?_; rintro e w5 ⟨v5, rfl, ho5, hb5⟩)
          all_goals
            rw [HBS.out] at ho5
            have HW5 : Hid (Wr w5 w2.heap.size v3 bs') := Wr.kept (w := w3.drew) (by exact HW3.out) (Kept.of_below hb5 (fun _ => False)) (by simp) (by simp)
            have HB5 : Hid (Below w.heap.size w w5) := HB3.out.drew.trans (hb5.mono hs4)
            have HO5 := hide (owns_base (base' := w.heap.size) ho5 (fun g hg => by have := (owns_lt ho5 hg).1; have : w.heap.size ≤ w3.drew.heap.size := hs4; omega))
            obtain ⟨ao5, cap5, hv5, _, _⟩ := Sb.of_owns ho5
            clear ho5 hb5 d0' d1'
            subst hv5
            go_wp2_with fail
            refine (len_any _ v3 bs' _ HW5.out).mono ?_
            rintro e w6 ⟨rfl, rfl⟩
            go_wp2
            go_roundw
            case rel => exact ⟨j + 1, by omega, by omega, by go_num, ⟨v3, bs', HBL.out, HW5.out, HO5.out⟩, HB5.out⟩
            case measure => simp [intOf]; omega
        · have ho' : okP (n, k) = false := by simpa using ho
          have HK := hide ho'
          clear ho ho'
          go_wp2_with fail
          go_region_with (go_at_call 11; refine (put_n _ _ _ _ q0 q1 HK.out).mono ?_; rintro e w3 ⟨rfl, rfl⟩)
          all_goals
            go_wp2_with fail
            go_region_with (go_at_call 12; refine (rput_no _ _ _ _ _ _ q0 q1 HK.out).mono ?_; rintro e w5 ⟨rfl, rfl⟩)
          all_goals
            go_wp2_with fail
            refine (len_any _ vW bs _ (by exact HW.out)).mono ?_
            rintro e w6 ⟨rfl, rfl⟩
            go_wp2
            go_roundw
            case rel => exact ⟨j + 1, by omega, by omega, by go_num, ⟨vW, bs, by omega, HW.out, HO.out⟩, HB.out.drew.drew⟩
            case measure => simp [intOf]; omega
      all_goals
        have HW := hide hw
        have HO := hide hown
        have HB := hide hbr
        clear hw hown hbr hb
        go_wp2_with fail
        go_meet
        exact ⟨vW, bs, by omega, HW.out, HO.out, HB.out⟩
  case rest =>
    obtain ⟨vW, bs, hbl, hw, hown, hbr⟩ := hcut
    have hsr := hbr.size
    obtain ⟨ao9, cap9, hv9, hsb9, _⟩ := Sb.of_owns hown
    have HSB9 := hide hsb9
    have HW := hide hw
    have HB := hide hbr
    obtain ⟨d, hdd⟩ : ∃ d : Bool, decide ((5000 : Int) < (len1 : Int)) = d := ⟨_, rfl⟩
    clear hsb9 hw hown hbr hb
    subst hv9
    go_upto_region 12 with fail
    go_cut [84] (fun c wx => c = .bool d ∧ Below w.heap.size w wx)
    case first =>
      go_region_with (first
        | (go_at_call 14; refine (bytes_any _ vW bs _ (by exact HW.out) (by omega)).mono ?_; rintro e w5 ⟨v5, rfl, ho5, hb5⟩; obtain ⟨aob, capb, hvb, hslb, _⟩ := Sl.of_bytes ho5; subst hvb; have hcvA := str_of hslb)
        | (go_at_call 15; refine (rbytes_any _ _ _ bs _ (Sb.below (w := wc.drew) (by exact HSB9.out) hb5) (by omega)).mono ?_; rintro e w6 ⟨v6, rfl, ho6, hb6⟩; obtain ⟨aoc, capc, hvc, hslc, _⟩ := Sl.of_bytes ho6; subst hvc; have hcvA' := str_of (hslb.below hb6); have hcvB := str_of hslc))
      all_goals
        have hbx : Below w.heap.size w w6 := (HB.out.drew.trans (hb5.mono hsr)).trans (hb6.mono (Nat.le_trans hsr hb5.size))
        have HBX := hide hbx
        clear hcvA hcvA' hcvB hb5 hb6 ho5 ho6 hslb hslc hbx
        go_wp2_with fail
        go_meet
        exact ⟨rfl, HBX.out⟩
    case rest =>
      obtain ⟨rfl, hbw⟩ := hcut
      cases d with
      | true =>
        have HBW := hide hbw
        go_wp2
        go_ret
        exact ⟨rfl, HBW.out⟩
      | false =>
        have hle1 : len1 ≤ 5000 := by have := of_decide_eq_false hdd; omega
        have hBL : B.length = len1 := by rw [← ints_length]; exact HSB.out.1
        have hsw := hbw.size
        have HBW := hide hbw
        have HBL := hide hBL
        have HSB1 := hide (HSB.out.below hbw)
        clear hbw hBL
        go_wp2_with fail
        refine (from_any _ _ _ B _ HSB1.out (by omega)).mono ?_
        rintro e w3 ⟨pr, vr, rfl, hrd, hpr, hvr, hb3⟩
        have hb4 := HBW.out.trans (hb3.mono hsw)
        have hs4 := hb4.size
        have HRD := hide hrd
        have HB4 := hide hb4
        have hplt := hrd.lt
        have HPV : Hid (∀ g, vr.ownBlock = some g → g < w3.heap.size) := fun g hg => (owns_lt hrd.2.1 hg).2
        clear hrd hb3 hb4
        go_wp2_with fail
        refine (rbits_any _ _ _ B _ (HSB.out.below HB4.out) (by omega) H2.out).mono ?_
        rintro e w5 ⟨v15, rfl, ho15, hb5⟩
        have hb6 := HB4.out.trans (hb5.mono hs4)
        have hs6 := hb6.size
        obtain ⟨ao15, cap15, hv15, hsb15, hob15⟩ := Sb.of_owns ho15
        have hbbl : (A.bitsB B).length = 8 * len1 := by rw [A.bitsB_length, HBL.out]
        rw [hbbl] at hv15 hsb15
        have HSB15 := hide hsb15
        have HRD5 : Hid (Rd w5 pr vr B 0) := HRD.out.kept (Kept.of_below hb5 (fun _ => False)) (by simp) (by simp)
        have HNE : Hid (∀ x, ao15 = some x → x.block ≠ pr) := by
          intro x hx
          have : v15.ownBlock = some x.block := by rw [hob15, hx]; rfl
          have := (owns_lt ho15 this).1
          omega
        have HB6 := hide hb6
        have HBB := hide hbbl
        clear hsb15 hb5 hb6 ho15 hob15 hbbl
        subst hv15
        have HDR : Hid ((A.bitsB B).drop 0 = A.bitsB B) := List.drop_zero
        go_wp2_with fail
        go_loopw [15, 16] (fun v15 v16 wr => ∃ j : Nat, j ≤ len2 ∧ j ≤ 100 ∧ v16 = .int .i64 j ∧ (∃ pos R ao cp, pos + R = 8 * len1 ∧ v15 = .slice ao R cp ∧ Rd wr pr vr B pos ∧ Sb wr ao R cp ((A.bitsB B).drop pos) ∧ (∀ x, ao = some x → x.block ≠ pr)) ∧ Below w.heap.size w wr) (fun _ v16 _ => len2 - (intOf v16).toNat)
        case atStart => exact ⟨0, Nat.zero_le _, by omega, rfl, ⟨0, 8 * len1, ao15, cap15, by omega, rfl, HRD5.out, by rw [HDR.out]; exact HSB15.out, HNE.out⟩, HB6.out⟩
        case round =>
          obtain ⟨j, hj, hj2, rfl, ⟨pos, R, ao, cp, hpR, rfl, hrd, hsb, hne⟩, hbr⟩ := hrel
          have hsr2 := hbr.size
          rcases (show (j < len2 ∧ j < 100) ∨ (len2 ≤ j) ∨ (j < len2 ∧ 100 ≤ j) by omega) with ⟨hlt, hlt2⟩ | hlt | ⟨hlt, hlt2⟩
          case inl =>
            obtain ⟨b, off, hao, hblt, hc⟩ : ∃ b off, a2 = some ⟨b, off, none⟩ ∧ b < w.heap.size ∧ ∀ i, i < len2 → w.cell? ⟨b, off + i, none⟩ = some (.int .i64 (ws.getD i 0)) := by
              rcases HSW.out.2.2.2.2 with h | h
              · omega
              · exact h
            have d0 : wr.cell? ⟨b, off + j, none⟩ = some (.int .i64 (ws.getD j 0)) := by rw [hbr.cell (p := ⟨b, off + j, none⟩) hblt]; exact hc j hlt
            obtain ⟨k, hke⟩ : ∃ k, ws.getD j 0 = k := ⟨_, rfl⟩
            rw [hke] at d0
            have HRD2 := hide hrd
            have HSB2 := hide hsb
            have HNE2 := hide hne
            have HBR := hide hbr
            have HPR := hide hpR
            clear hc hke hrd hsb hne hbr hpR
            subst hao
            rcases (show (k < 0 ∨ 64 < k) ∨ (0 ≤ k ∧ k ≤ 64 ∧ R < k.toNat) ∨ (0 ≤ k ∧ k ≤ 64 ∧ k.toNat ≤ R) by omega) with hk | ⟨hk0, hk1, hk2⟩ | ⟨hk0, hk1, hk2⟩
            · go_wp2_with fail
              refine (get_no pr k wr hk).mono ?_
              rintro e w7 ⟨rfl, rfl⟩
              go_wp2_with fail
              refine (rget_arg _ _ _ k _ hk).mono ?_
              rintro e w8 ⟨rfl, rfl⟩
              go_wp2_with fail
              refine (left_r pr vr B pos R _ HRD2.out (by have := HPR.out; have := HBL.out; omega) (by have := HBL.out; omega)).mono ?_
              rintro e w9 ⟨rfl, hrd9, hk9⟩
              have hb9 := HBR.out.trans (hk9.below hsr2 (by simp))
              go_wp2
              go_roundw
              case rel => exact ⟨j + 1, by omega, by omega, by go_num, ⟨pos, R, ao, cp, HPR.out, rfl, hrd9, HSB2.out.kept hk9 (by simp), HNE2.out⟩, hb9⟩
              case measure => simp [intOf]; omega
            · go_wp2_with fail
              refine (get_s pr vr B pos k _ HRD2.out (by have := HPR.out; have := HBL.out; omega) (by have := HBL.out; omega) hk0 hk1 (by have := HPR.out; have := HBL.out; omega)).mono ?_
              rintro e w7 ⟨rfl, hrd7, hk7⟩
              have hb7 := HBR.out.trans (hk7.below hsr2 (by simp))
              have hs7 := hb7.size
              have d1 : w7.cell? ⟨b, off + j, none⟩ = some (.int .i64 k) := by rw [hb7.cell (p := ⟨b, off + j, none⟩) hblt, ← HBR.out.cell (p := ⟨b, off + j, none⟩) hblt]; exact d0
              go_wp2_with fail
              refine (rget_s _ _ _ k _ hk0 hk1 hk2).mono ?_
              rintro e w8 ⟨rfl, rfl⟩
              go_wp2_with fail
              refine (left_r pr vr B pos R _ hrd7 (by have := HPR.out; have := HBL.out; omega) (by have := HBL.out; omega)).mono ?_
              rintro e w9 ⟨rfl, hrd9, hk9⟩
              have hb9 := hb7.trans (hk9.below hs7 (by simp))
              go_wp2
              go_roundw
              case rel => exact ⟨j + 1, by omega, by omega, by go_num, ⟨pos, R, ao, cp, HPR.out, rfl, hrd9, (HSB2.out.kept hk7 (by simp)).kept hk9 (by simp), HNE2.out⟩, hb9⟩
              case measure => simp [intOf]; omega
            · obtain ⟨R', hR'⟩ : ∃ R', k.toNat + R' = R := ⟨R - k.toNat, by omega⟩
              have HR' := hide hR'
              go_wp2_with fail
              refine (get_g pr vr B pos k _ HRD2.out (by have := HBL.out; omega) H2.out hk0 hk1 (by have := HPR.out; have := HBL.out; omega)).mono ?_
              rintro e w7 ⟨rfl, hrd7, hk7⟩
              have hb7 := HBR.out.trans (hk7.below hsr2 (by intro x hx; omega))
              have hs7 := hb7.size
              have d1 : w7.cell? ⟨b, off + j, none⟩ = some (.int .i64 k) := by rw [hb7.cell (p := ⟨b, off + j, none⟩) hblt, ← HBR.out.cell (p := ⟨b, off + j, none⟩) hblt]; exact d0
              have HSB7 := hide (HSB2.out.kept hk7 HNE2.out)
              clear hR'
              go_wp2_with fail
              refine (rget_r _ _ _ _ k R' _ HSB7.out hk0 hk1 HR'.out).mono ?_
              rintro e w8 ⟨ao8, cp8, rfl, hsb8, hbl8, hk8⟩
              have hrd8 := hrd7.kept hk8 (by simp) (by simp)
              have hb8 := hb7.trans (hk8.below hs7 (by simp))
              have hs8 := hb8.size
              rw [getV_drop]
              go_wp2_with fail
              refine (left_r pr vr B (pos + k.toNat) R' _ hrd8 (by have := HPR.out; have := HBL.out; have := HR'.out; omega) (by have := HBL.out; omega)).mono ?_
              rintro e w9 ⟨rfl, hrd9, hk9⟩
              have hb9 := hb8.trans (hk9.below hs8 (by simp))
              go_wp2
              go_roundw
              case rel =>
                refine ⟨j + 1, by omega, by omega, by go_num, ⟨pos + k.toNat, R', ao8, cp8, by have := HPR.out; have := HR'.out; omega, rfl, hrd9, ?_, ?_⟩, hb9⟩
                · rw [← List.drop_drop]; exact hsb8.kept hk9 (by simp)
                · intro x hx
                  obtain ⟨y, hy, hxy⟩ := hbl8 x hx
                  rw [hxy]; exact HNE2.out y hy
              case measure => simp [intOf]; omega
          all_goals
            have HBR := hide hbr
            clear hrd hsb hne hbr
            go_wp2
            go_ret
            exact ⟨rfl, HBR.out⟩
end Go.Proofs.Ytjhcfbofjnmeiaa

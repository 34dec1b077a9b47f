/- The contracts of the document's answer for bits: Width, Pack. -/
import Derived.Test.YtkcpfgjkplailaaBdB
import Derived.Test.YtkcpfgjkplailaaBdR
namespace Go.Proofs.Ytkcpfgjkplailaa
set_option linter.unusedVariables false
set_option maxRecDepth 10000
open Go.RowKit

theorem fits_iff (x : Int) (k : Nat) (h0 : 0 ≤ x) : (sh x.toNat k == 0) = decide (x < (2 : Int) ^ k) := by
  have hp : 0 < 2 ^ k := Nat.two_pow_pos k
  rw [Bool.eq_iff_iff, beq_iff_eq, decide_eq_true_iff, ← pow_int]
  unfold sh
  constructor
  · intro h
    rcases Nat.div_eq_zero_iff.1 h with h1 | h1 <;> omega
  · intro h
    exact Nat.div_eq_of_lt (by omega)

/-- Fits, of a number as it lies in memory. -/
theorem rfits_i (x : Int) (k : Int) (b : Bool) (w : World) (h0 : 0 ≤ x) (hn : x < 18446744073709551616) (hk0 : 0 ≤ k) (hk : k ≤ 64) (hb : decide (x < (2 : Int) ^ k.toNat) = b) :
    Calls Try.prog 54 #[.int .u64 x, .int .i64 k] w fun e w' => e = .returned (.bool b) ∧ w' = w := by
  have hb2 := fits_iff x k.toNat h0
  obtain ⟨n, rfl⟩ := Int.eq_ofNat_of_zero_le h0
  obtain ⟨j, rfl⟩ := Int.eq_ofNat_of_zero_le hk0
  simp only [Int.toNat_natCast] at hb hb2
  exact rfits_any n j b w hn (by omega) (hb2.trans hb)

set_option maxHeartbeats 1000000 in
theorem rwidth_any (ao : Option Addr) (len cap : Nat) (l : List Int) (w : World) (h : Sl w .u64 ao len cap l) (hm : len ≤ 140737488355328) (hin : In64 l) :
    Calls Try.prog 27 #[.slice ao len cap] w fun e w' => e = .returned (.int .i64 ((wid l : Nat) : Int)) ∧ w' = w := by
  have hwl := wid_le l hin
  have HF : Hid (∀ k, Fit l k ↔ wid l ≤ k) := fun k => fit_wid l k hin
  have HSL := hide h
  have HIN := hide hin
  have HL := hide h.1
  clear h hin
  go_enter Try.func27, Try.ntmps27
  go_wp2_with fail
  go_loop [3] (fun v3 => ∃ q : Nat, q ≤ wid l ∧ v3 = .int .i64 q) (fun v3 => 64 - (intOf v3).toNat)
  case atStart => exact ⟨0, Nat.zero_le _, rfl⟩
  case round =>
    obtain ⟨q, hq, rfl⟩ := hrel
    by_cases hq64 : q < 64
    · go_wp2_with fail
      go_loop [4, 5] (fun v4 v5 => ∃ j : Nat, j ≤ len ∧ v5 = .int .i64 j ∧ v4 = .bool (allFit l q j)) (fun _ v5 => len - (intOf v5).toNat)
      case atStart => exact ⟨0, Nat.zero_le _, rfl, rfl⟩
      case round =>
        obtain ⟨j, hj, rfl, rfl⟩ := hrel
        by_cases hlt : j < len
        · obtain ⟨b, off, hao, hblt, hc⟩ : ∃ b off, ao = some ⟨b, off, none⟩ ∧ b < w.heap.size ∧ ∀ i, i < len → w.cell? ⟨b, off + i, none⟩ = some (.int .u64 (l.getD i 0)) := by
            rcases HSL.out.2.2.2.2 with h | h
            · omega
            · exact h
          have hck := hc j hlt
          obtain ⟨x0, x1⟩ := HIN.out.getD j
          have HS := hide (allFit_succ l q j (by rw [HL.out]; exact hlt))
          obtain ⟨x, hxe⟩ : ∃ x, l.getD j 0 = x := ⟨_, rfl⟩
          rw [hxe] at hck x0 x1 HS
          obtain ⟨t, hte⟩ : ∃ t, decide (x < (2 : Int) ^ q) = t := ⟨_, rfl⟩
          rw [hte] at HS
          have HT := hide hte
          obtain ⟨s, hse⟩ : ∃ s, allFit l q j = s := ⟨_, rfl⟩
          rw [hse] at HS ⊢
          clear hc hxe hte hse
          subst hao
          cases s with
          | true =>
            go_wp2_with fail
            refine (rfits_i x q t w x0 x1 (by omega) (by omega) (by rw [Int.toNat_natCast]; exact HT.out)).mono ?_
            rintro e w' ⟨rfl, rfl⟩
            go_wp2
            go_round
            case rel => exact ⟨j + 1, by omega, by go_num, by rw [HS.out]; cases t <;> rfl⟩
            case measure => simp [intOf]; omega
          | false =>
            go_wp2_with fail
            refine (rfits_i x q t w x0 x1 (by omega) (by omega) (by rw [Int.toNat_natCast]; exact HT.out)).mono ?_
            rintro e w' ⟨rfl, rfl⟩
            go_wp2
            go_round
            case rel => exact ⟨j + 1, by omega, by go_num, by rw [HS.out]; rfl⟩
            case measure => simp [intOf]; omega
        · have hjl : j = l.length := by rw [HL.out]; omega
          subst hjl
          have ha := allFit_all l q
          rw [HF.out q] at ha
          by_cases hw : wid l ≤ q
          · rw [ha.2 hw]
            have hqw : q = wid l := by omega
            subst hqw
            go_wp2
            go_ret
            exact ⟨rfl, rfl⟩
          · rw [show allFit l q l.length = false by rw [← Bool.not_eq_true]; exact fun h => hw (ha.1 h)]
            clear ha
            go_wp2
            go_round
            case rel => exact ⟨q + 1, by omega, by go_num⟩
            case measure => simp [intOf]; omega
    · have hqw : wid l = 64 := by omega
      go_wp2
      go_ret
      refine ⟨?_, rfl⟩
      first
        | rfl
        | rw [hqw]
end Go.Proofs.Ytkcpfgjkplailaa
/- The contract of the document's answer for bits: Pack. -/
namespace Go.Proofs.Ytkcpfgjkplailaa
set_option linter.unusedVariables false
set_option maxRecDepth 10000
open Go.RowKit

/-- The bits of the first numbers, and some of the next one. -/
def bt (l : List Int) (k j q : Nat) : List Bool := bitsAll (l.take j) k ++ A.bitsOf (l.getD j 0).toNat q
theorem bt_zero (l : List Int) (k j : Nat) : bt l k j 0 = bitsAll (l.take j) k := by simp [bt, A.bitsOf]
theorem bt_next (l : List Int) (k j : Nat) (h : j < l.length) : bt l k (j + 1) 0 = bt l k j k := by
  rw [bt_zero, take_snocD l j h, bitsAll_snoc]; rfl
theorem bt_succ (l : List Int) (k j q : Nat) : bt l k j (q + 1) = bt l k j q ++ [sh (l.getD j 0).toNat q % 2 == 1] := by
  unfold bt; rw [sh_bit, List.append_assoc]
theorem bt_le (l : List Int) (k j q : Nat) (hk : k ≤ 64) (hq : q ≤ k) : (bt l k j q).length ≤ l.length * 64 + 64 := by
  unfold bt
  have := bitsAll_le l k j hk
  rw [List.length_append, A.bitsOf_length]; omega

set_option maxHeartbeats 400000 in
theorem rpack_arg (ao : Option Addr) (len cap : Nat) (k : Int) (w : World) (h : k < 0 ∨ 64 < k) :
    Calls Try.prog 30 #[.slice ao len cap, .int .i64 k] w fun e w' => e = .returned (.tuple #[.slice none 0 0, .int .i64 1]) ∧ w' = w := by
  rcases (show k < 0 ∨ (0 ≤ k ∧ 64 < k) by omega) with h1 | ⟨h1, h2⟩
  all_goals
    clear h
    go_enter Try.func30, Try.ntmps30
    go_wp2
    go_ret2
    exact ⟨rfl, rfl⟩

set_option maxHeartbeats 1000000 in
theorem rpack_any (ao : Option Addr) (len cap : Nat) (l : List Int) (k : Nat) (w : World) (h : Sl w .u64 ao len cap l) (hm : len * 64 + 64 < 1099511627776) (hin : In64 l) (hk : k ≤ 64) :
    Calls Try.prog 30 #[.slice ao len cap, .int .i64 k] w fun e w' =>
      (Fit l k ∧ ∃ v', e = .returned (.tuple #[v', .int .i64 0]) ∧ w'.ownsRow w.heap.size 5 1 v' (A.bytesOf (bitsAll l k)).length (B8 (A.bytesOf (bitsAll l k))) ∧ Below w.heap.size w w') ∨
      (¬ Fit l k ∧ e = .returned (.tuple #[.slice none 0 0, .int .i64 1]) ∧ Below w.heap.size w w') := by
  obtain ⟨i0, hi, hz0, hz1, hz2⟩ := info_parts Try.infoBool
  have HSL := hide h
  have HIN := hide hin
  have HL := hide h.1
  have HBT : Hid (∀ j q, q ≤ k → (bt l k j q).length ≤ len * 64 + 64) := fun j q hq => by have := bt_le l k j q hk hq; have := h.1; omega
  have hd : decide ((k : Int) < 0) = false := by simp
  clear h hin
  go_enter Try.func30, Try.ntmps30
  go_wp2_with fail
  go_loopw [6, 7] (fun v6 v7 wr => ∃ j : Nat, j ≤ len ∧ v7 = .int .i64 j ∧ Fit (l.take j) k ∧ wr.ownsRow w.heap.size 4 1 v6 (bt l k j 0).length (Vb (bt l k j 0)) ∧ Below w.heap.size w wr) (fun _ v7 _ => len - (intOf v7).toNat)
  case atStart => exact ⟨0, Nat.zero_le _, rfl, by intro x hx; simp at hx, World.ownsRow_nil _ _ _ _, Below.refl _ _⟩
  case round =>
    obtain ⟨j, hj, rfl, hfit, hown, hbr⟩ := hrel
    by_cases hlt : j < len
    · obtain ⟨b, off, hao, hblt, hc⟩ : ∃ b off, ao = some ⟨b, off, none⟩ ∧ b < w.heap.size ∧ ∀ i, i < len → w.cell? ⟨b, off + i, none⟩ = some (.int .u64 (l.getD i 0)) := by
        rcases HSL.out.2.2.2.2 with h | h
        · omega
        · exact h
      have hjl : j < l.length := by rw [HL.out]; exact hlt
      have hck : wr.cell? ⟨b, off + j, none⟩ = some (.int .u64 (l.getD j 0)) := by rw [hbr.cell (p := ⟨b, off + j, none⟩) hblt]; exact hc j hlt
      obtain ⟨x0, x1⟩ := HIN.out.getD j
      have HF : Hid (l.getD j 0 < (2 : Int) ^ k → Fit (l.take (j + 1)) k) := fun hx => hfit.snoc hjl hx
      have HM : Hid (l.getD j 0 ∈ l) := by
        have : l.getD j 0 = l[j] := by simp [List.getD, hjl]
        show l.getD j 0 ∈ l
        rw [this]; exact List.getElem_mem _
      have HN := hide (bt_next l k j hjl)
      have HS : Hid (∀ q, bt l k j (q + 1) = bt l k j q ++ [sh (l.getD j 0).toNat q % 2 == 1]) := bt_succ l k j
      obtain ⟨x, hxe⟩ : ∃ x, l.getD j 0 = x := ⟨_, rfl⟩
      rw [hxe] at hck x0 x1 HF HM HS
      clear hc hxe hjl hfit
      subst hao
      by_cases hx : x < (2 : Int) ^ k
      · have HX := hide hx
        have HD : Hid (decide (x < (2 : Int) ^ (k : Int).toNat) = true) := by show _ = _; rw [Int.toNat_natCast]; exact decide_eq_true hx
        clear hx
        go_wp2_with fail
        refine (rfits_i x k true wr x0 x1 (by omega) (by omega) HD.out).mono ?_
        rintro e w' ⟨rfl, rfl⟩
        go_wp2_with fail
        go_loopw [6, 8, 9] (fun v6 v8 v9 wq => ∃ q : Nat, q ≤ k ∧ v9 = .int .i64 q ∧ v8 = .int .u64 ((sh x.toNat q : Nat) : Int) ∧ wq.ownsRow w.heap.size 4 1 v6 (bt l k j q).length (Vb (bt l k j q)) ∧ Below w.heap.size w wq) (fun _ _ v9 _ => k - (intOf v9).toNat)
        case atStart => exact ⟨0, by omega, rfl, by rw [sh_zero]; go_num, hown, hbr⟩
        case round =>
          obtain ⟨q, hq, rfl, rfl, hown2, hbr2⟩ := hrel
          have hsz := hbr2.size
          have hsl := sh_le x.toNat q
          have hle := HBT.out j q hq
          by_cases hqk : q < k
          · have HQ := hide (HS.out q)
            have HSH := hide (sh_succ x.toNat q)
            obtain ⟨c, hce⟩ : ∃ c : Bool, (((sh x.toNat q : Nat) : Int) % 2 == 1) = c := ⟨_, rfl⟩
            have HC : Hid ((sh x.toNat q % 2 == 1) = c) := by
              show _ = _
              rw [← hce, Bool.eq_iff_iff, beq_iff_eq, beq_iff_eq]; omega
            go_wp2_with (at_builtin; refine wpList_append_to rfl (.tmp 38) (.tmp 42) 84 rfl w.heap.size 4 i0 (.bool false) 1 1 Try.underlying84 hi hz0 hz1 hz2 rfl (by decide) _ _ _ rfl (hown2.alloc _) (some ⟨wr.heap.size, 0, none⟩) 1 1 [.bool c] rfl (by simp) rfl (newsB _ _) (oneB _) (by unfold maxLen; omega) (by omega) (by simp; omega) ?_)
            intro v' w' hown' has'
            have hbn : Below w.heap.size w w' := (hbr2.alloc hsz _).trans (has'.below (by simp; omega) (fun k hk => (owns_lt hown2 hk).1))
            clear has' hce
            go_wp2
            go_roundw
            case rel => exact ⟨q + 1, by omega, by go_num, by rw [HSH.out]; go_num, by rw [HQ.out, HC.out, Vb_append, List.length_append]; exact hown', hbn⟩
            case measure => simp [intOf]; omega
          · have hq' : q = k := by omega
            subst hq'
            go_wp2
            go_roundw
            case rel => exact ⟨j + 1, by omega, by go_num, HF.out HX.out, by rw [HN.out]; exact hown2, hbr2⟩
            case measure => simp [intOf]; omega
      · have HX := hide (Int.not_lt.1 hx)
        have HD : Hid (decide (x < (2 : Int) ^ (k : Int).toNat) = false) := by show _ = _; rw [Int.toNat_natCast]; exact decide_eq_false hx
        clear hx
        go_wp2_with fail
        refine (rfits_i x k false wr x0 x1 (by omega) (by omega) HD.out).mono ?_
        rintro e w' ⟨rfl, rfl⟩
        go_wp2
        go_ret2
        exact .inr ⟨fun hf => Int.not_lt.2 HX.out (hf x HM.out), rfl, hbr⟩
    · have hjl : j = l.length := by rw [HL.out]; omega
      rw [bt_zero, hjl, List.take_length] at hown
      rw [hjl, List.take_length] at hfit
      have hle := HBT.out l.length 0 (by omega)
      rw [bt_zero, List.take_length] at hle
      obtain ⟨ao6, cap6, hv6, hsb6, _⟩ := Sb.of_owns hown
      have HSB := hide hsb6
      have HF := hide hfit
      have hsz := hbr.size
      clear hown hfit hsb6 hjl
      subst hv6
      go_wp2_with fail
      refine (brbytes_any _ _ _ (bitsAll l k) _ HSB.out (by omega)).mono ?_
      rintro e w5 ⟨v5, rfl, ho5, hb5⟩
      go_wp2
      go_ret2
      exact .inl ⟨HF.out, v5, rfl, owns_base ho5 fun g hg => by have := (owns_lt ho5 hg).1; omega, hbr.trans (hb5.mono hsz)⟩
end Go.Proofs.Ytkcpfgjkplailaa
/- The contracts of the document's answer for bits: Get, Unpack. -/
namespace Go.Proofs.Ytkcpfgjkplailaa
set_option linter.unusedVariables false
set_option maxRecDepth 10000
open Go.RowKit

/-- The number of so many bits' last ones. -/
def topV (bs : List Bool) (k j : Nat) : Nat := A.valOf ((bs.take k).drop (k - j))
theorem topV_zero (bs : List Bool) (k : Nat) : topV bs k 0 = 0 := by
  unfold topV; rw [List.drop_of_length_le (by rw [List.length_take]; omega)]; rfl
theorem topV_all (bs : List Bool) (k : Nat) : topV bs k k = A.valOf (bs.take k) := by unfold topV; simp
theorem topV_succ (bs : List Bool) (k j : Nat) (hk : k ≤ bs.length) (hj : j < k) : topV bs k (j + 1) = 2 * topV bs k j + (bs.getD (k - 1 - j) false).toNat := by
  unfold topV
  have hl : k - (j + 1) < (bs.take k).length := by rw [List.length_take]; omega
  rw [← List.getElem_cons_drop (h := hl), show k - (j + 1) + 1 = k - j by omega]
  simp only [A.valOf]
  have e : (bs.take k)[k - (j + 1)] = bs.getD (k - 1 - j) false := by
    simp [List.getD, show k - 1 - j < bs.length by omega, show k - (j + 1) = k - 1 - j by omega]
  rw [e]; omega
theorem topV_lt (bs : List Bool) (k j : Nat) (hj : j ≤ k) : topV bs k j < 2 ^ j := by
  unfold topV
  have h1 := A.valOf_lt ((bs.take k).drop (k - j))
  have h2 : ((bs.take k).drop (k - j)).length ≤ j := by rw [List.length_drop, List.length_take]; omega
  exact Nat.lt_of_lt_of_le h1 (Nat.pow_le_pow_right (by omega) h2)

set_option maxHeartbeats 400000 in
theorem brget_arg (ao : Option Addr) (len cap : Nat) (k : Int) (w : World) (h : k < 0 ∨ 64 < k) :
    Calls Try.prog 61 #[.slice ao len cap, .int .i64 k] w fun e w' => e = .returned (.tuple #[.int .u64 0, .slice ao len cap, .int .i64 1]) ∧ w' = w := by
  rcases (show k < 0 ∨ (0 ≤ k ∧ 64 < k) by omega) with h1 | ⟨h1, h2⟩
  all_goals
    clear h
    go_enter Try.func61, Try.ntmps61
    go_wp2
    go_ret3
    exact ⟨rfl, rfl⟩

set_option maxHeartbeats 400000 in
theorem brget_short (ao : Option Addr) (len cap : Nat) (k : Nat) (w : World) (hk : k ≤ 64) (h : len < k) :
    Calls Try.prog 61 #[.slice ao len cap, .int .i64 k] w fun e w' => e = .returned (.tuple #[.int .u64 0, .slice ao len cap, .int .i64 3]) ∧ w' = w := by
  go_enter Try.func61, Try.ntmps61
  go_wp2
  go_ret3
  exact ⟨rfl, rfl⟩

set_option maxHeartbeats 400000 in
theorem brget_zero (ao : Option Addr) (len cap : Nat) (w : World) (hlc : len ≤ cap) (hm : cap ≤ maxLen) :
    Calls Try.prog 61 #[.slice ao len cap, .int .i64 0] w fun e w' => e = .returned (.tuple #[.int .u64 0, .slice ao len cap, .int .i64 0]) ∧ Kept (fun _ => False) w w' := by
  unfold maxLen at hm
  go_enter Try.func61, Try.ntmps61
  go_wp2_with fail
  go_loop [7, 8] (fun v7 v8 => v7 = .int .u64 0 ∧ v8 = .int .i64 (-1)) (fun _ _ => 0)
  case atStart => exact ⟨rfl, rfl⟩
  case round =>
    obtain ⟨rfl, rfl⟩ := hrel
    go_wp2
    go_region
    all_goals go_wp2
    all_goals
      go_ret3
      exact ⟨rfl, (Kept.refl _ _).drew⟩

set_option maxHeartbeats 1000000 in
theorem brget_some (b off len cap : Nat) (bs : List Bool) (k : Nat) (w : World) (hl : bs.length = len) (hlc : len ≤ cap) (hm : cap ≤ maxLen) (hb : b < w.heap.size) (hc : ∀ i, i < len → w.cell? ⟨b, off + i, none⟩ = some (.bool (bs.getD i false))) (hk0 : 0 < k) (hk : k ≤ 64) (hkl : k ≤ len) :
    Calls Try.prog 61 #[.slice (some ⟨b, off, none⟩) len cap, .int .i64 k] w fun e w' => e = .returned (.tuple #[.int .u64 ((A.valOf (bs.take k) : Nat) : Int), .slice (if cap = k then some ⟨b, off, none⟩ else some ⟨b, off + k, none⟩) (len - k) (cap - k), .int .i64 0]) ∧ Kept (fun _ => False) w w' := by
  unfold maxLen at hm
  have HL := hide hl
  have hd1 : decide ((k : Int) < 0) = false := by simp
  have hd2 : decide ((len : Int) < (k : Int)) = false := by simp; omega
  clear hl
  go_enter Try.func61, Try.ntmps61
  go_wp2_with fail
  go_loop [7, 8] (fun v7 v8 => ∃ j : Nat, j ≤ k ∧ v8 = .int .i64 ((k : Int) - 1 - j) ∧ v7 = .int .u64 ((topV bs k j : Nat) : Int)) (fun _ v8 => (intOf v8 + 1).toNat)
  case atStart => exact ⟨0, Nat.zero_le _, by go_num, by rw [topV_zero]; rfl⟩
  case round =>
    obtain ⟨j, hj, rfl, rfl⟩ := hrel
    by_cases hlt : j < k
    · have hck := hc (k - 1 - j) (by omega)
      have HS := hide (topV_succ bs k j (by rw [HL.out]; exact hkl) hlt)
      have hv := topV_lt bs k j hj
      have hp : 2 ^ j ≤ 2 ^ 63 := Nat.pow_le_pow_right (by omega) (by omega)
      obtain ⟨T, hT, hT0, hT1⟩ : ∃ T : Int, ((topV bs k j : Nat) : Int) = T ∧ 0 ≤ T ∧ T < 9223372036854775808 := ⟨_, rfl, by omega, by omega⟩
      obtain ⟨t, hte⟩ : ∃ t, bs.getD (k - 1 - j) false = t := ⟨_, rfl⟩
      rw [hte] at hck HS
      have HT := hide hT
      rw [hT]
      have e1 : ((k : Int) - 1 - j).toNat = k - 1 - j := by omega
      clear hc hte hv hp hT
      cases t with
      | false =>
        go_wp2
        go_round
        case rel => exact ⟨j + 1, by omega, by go_num, by rw [HS.out, Int.natCast_add, Int.natCast_mul, HT.out]; simp⟩
        case measure => simp [intOf]; omega
      | true =>
        go_wp2
        go_round
        case rel => exact ⟨j + 1, by omega, by go_num, by rw [HS.out, Int.natCast_add, Int.natCast_mul, HT.out]; go_num⟩
        case measure => simp [intOf]; omega
    · have hjk : j = k := by omega
      subst hjk
      rw [topV_all]
      clear hc
      go_wp2
      go_region
      all_goals go_wp2
      all_goals
        go_ret3
        exact ⟨rfl, (Kept.refl _ _).drew⟩

/-- The document's Get, where there are enough bits. -/
theorem brget_any (ao : Option Addr) (len cap : Nat) (bs : List Bool) (k : Nat) (w : World) (h : Sb w ao len cap bs) (hm : cap ≤ maxLen) (hk : k ≤ 64) (hkl : k ≤ len) :
    Calls Try.prog 61 #[.slice ao len cap, .int .i64 k] w fun e w' => ∃ ao' cap', e = .returned (.tuple #[.int .u64 ((A.valOf (bs.take k) : Nat) : Int), .slice ao' (len - k) cap', .int .i64 0]) ∧ Sb w' ao' (len - k) cap' (bs.drop k) ∧ cap' ≤ cap ∧ (∀ x, ao' = some x → ∃ y, ao = some y ∧ x.block = y.block) ∧ Kept (fun _ => False) w w' := by
  have h0 := h
  obtain ⟨h1, h2, h3, h4, h5⟩ := h
  by_cases hk0 : k = 0
  · subst hk0
    refine (brget_zero ao len cap w h2 hm).mono ?_
    rintro e w' ⟨rfl, hkp⟩
    exact ⟨ao, cap, rfl, h0.kept hkp (by simp), Nat.le_refl _, fun x hx => ⟨x, hx, rfl⟩, hkp⟩
  · rcases h5 with h5 | ⟨b, off, rfl, hlt, h5⟩
    · omega
    · refine (brget_some b off len cap bs k w h1 h2 hm hlt h5 (by omega) hk hkl).mono ?_
      rintro e w' ⟨rfl, hkp⟩
      refine ⟨_, cap - k, rfl, ?_, by omega, ?_, hkp⟩
      · refine ⟨by rw [List.length_drop]; omega, by omega, by omega, by intro h; split at h <;> simp at h, ?_⟩
        by_cases hck : cap = k
        · exact .inl (by omega)
        · right
          refine ⟨b, off + k, by rw [if_neg hck], by have := hkp.size; omega, fun i hi => ?_⟩
          rw [hkp.cell (p := ⟨b, off + k + i, none⟩) hlt (by simp), Nat.add_assoc, h5 (k + i) (by omega)]
          simp [List.getD]
      · intro x hx
        refine ⟨_, rfl, ?_⟩
        split at hx <;> (obtain rfl := Option.some.inj hx; rfl)
end Go.Proofs.Ytkcpfgjkplailaa
/- The contract of the document's answer for bits: Unpack. -/
namespace Go.Proofs.Ytkcpfgjkplailaa
set_option linter.unusedVariables false
set_option maxRecDepth 10000
open Go.RowKit

theorem tail_false (l : List Nat) (n : Nat) (hl : l.length = (n + 7) / 8) (hj : jb l n = 0) (i : Nat) (h1 : n ≤ i) (h2 : i < 8 * l.length) : (A.bitsB l).getD i false = false := by
  have hz := (jb_zero hj).2 (by omega)
  have h3 := A.bitsB_getD l i h2
  have e1 : i / 8 = (n + 7) / 8 - 1 := by omega
  have e2 : i % 8 = n % 8 + (i - n) := by omega
  rw [e1, e2] at h3
  have h4 : l.getD ((n + 7) / 8 - 1) 0 < 2 ^ (n % 8) := by
    rcases Nat.lt_or_ge (l.getD ((n + 7) / 8 - 1) 0) (2 ^ (n % 8)) with h | h
    · exact h
    · have := Nat.div_pos h (Nat.two_pow_pos (n % 8)); omega
  have h5 : l.getD ((n + 7) / 8 - 1) 0 / 2 ^ (n % 8 + (i - n)) = 0 := Nat.div_eq_of_lt (Nat.lt_of_lt_of_le h4 (Nat.pow_le_pow_right (by omega) (by omega)))
  rw [h3, h5]; rfl

theorem tail_zero (l : List Nat) (n : Nat) (hl : l.length = (n + 7) / 8) (h256 : ∀ x ∈ l, x < 256) (h : ∀ i, n ≤ i → i < 8 * l.length → (A.bitsB l).getD i false = false) : jb l n = 0 := by
  unfold jb
  rw [if_neg (by omega), if_neg (by omega), if_neg]
  rintro ⟨h8, hy⟩
  have hlast : (n + 7) / 8 - 1 < l.length := by omega
  have hy256 : l.getD ((n + 7) / 8 - 1) 0 < 256 := by
    have : l.getD ((n + 7) / 8 - 1) 0 = l[(n + 7) / 8 - 1] := by simp [List.getD, hlast]
    rw [this]; exact h256 _ (List.getElem_mem _)
  generalize hY : l.getD ((n + 7) / 8 - 1) 0 = y at hy hy256
  have hge : 2 ^ (n % 8) ≤ y := by
    rcases Nat.lt_or_ge y (2 ^ (n % 8)) with h' | h'
    · exact absurd (Nat.div_eq_of_lt h') hy
    · exact h'
  have hy0 : y ≠ 0 := by have := Nat.two_pow_pos (n % 8); omega
  have hlog : y.log2 < 8 := (Nat.log2_lt hy0).2 (by omega)
  have hlg : n % 8 ≤ y.log2 := (Nat.le_log2 hy0).2 hge
  have hb := h (n - n % 8 + y.log2) (by omega) (by omega)
  rw [A.bitsB_getD l _ (by omega)] at hb
  have e1 : (n - n % 8 + y.log2) / 8 = (n + 7) / 8 - 1 := by omega
  have e2 : (n - n % 8 + y.log2) % 8 = y.log2 := by omega
  rw [e1, e2, hY] at hb
  have hs := Nat.log2_self_le hy0
  have ht : y < 2 ^ (y.log2 + 1) := Nat.lt_log2_self
  have hd : y / 2 ^ y.log2 = 1 := by
    rw [Nat.pow_succ] at ht
    have hp := Nat.two_pow_pos y.log2
    have h1 : 1 ≤ y / 2 ^ y.log2 := (Nat.le_div_iff_mul_le hp).2 (by omega)
    have h2 : y / 2 ^ y.log2 < 2 := (Nat.div_lt_iff_lt_mul hp).2 (by omega)
    omega
  rw [hd] at hb
  simp at hb

set_option maxHeartbeats 400000 in
theorem runpack_arg (ao : Option Addr) (len cap : Nat) (n k : Int) (w : World) (h : k < 0 ∨ 64 < k ∨ n < 0 ∨ 1048576 < n) :
    Calls Try.prog 37 #[.slice ao len cap, .int .i64 n, .int .i64 k] w fun e w' => e = .returned (.tuple #[.slice none 0 0, .int .i64 1]) ∧ w' = w := by
  rcases (show n < 0 ∨ (0 ≤ n ∧ 1048576 < n) ∨ (0 ≤ n ∧ n ≤ 1048576 ∧ k < 0) ∨ (0 ≤ n ∧ n ≤ 1048576 ∧ 0 ≤ k ∧ 64 < k) by omega) with h1 | ⟨h1, h2⟩ | ⟨h1, h2, h3⟩ | ⟨h1, h2, h3, h4⟩
  all_goals
    clear h
    go_enter Try.func37, Try.ntmps37
    go_wp2
    go_ret2
    exact ⟨rfl, rfl⟩

set_option maxHeartbeats 400000 in
theorem runpack_len (ao : Option Addr) (len cap : Nat) (l : List Nat) (n k : Nat) (w : World) (hl : l.length = len) (hm : len ≤ 140737488355328) (hn : n ≤ 1048576) (hk : k ≤ 64) (h : len ≠ (n * k + 7) / 8) :
    Calls Try.prog 37 #[.slice ao len cap, .int .i64 n, .int .i64 k] w fun e w' => e = .returned (.tuple #[.slice none 0 0, .int .i64 ((jb l (n * k) : Nat) : Int)]) ∧ w' = w := by
  have hnk : n * k ≤ 1048576 * 64 := Nat.mul_le_mul hn hk
  have hi : (n : Int) * (k : Int) = ((n * k : Nat) : Int) := (Int.natCast_mul n k).symm
  generalize n * k = N at *
  rcases (show len < (N + 7) / 8 ∨ (N + 7) / 8 < len by omega) with h1 | h1
  · have hj : jb l N = 3 := by unfold jb; rw [hl, if_pos h1]
    rw [hj]
    clear h hl hj
    go_enter Try.func37, Try.ntmps37
    go_wp2
    go_ret2
    exact ⟨rfl, rfl⟩
  · have hj : jb l N = 4 := by unfold jb; rw [hl, if_neg (by omega), if_pos h1]
    rw [hj]
    clear h hl hj
    go_enter Try.func37, Try.ntmps37
    go_wp2
    go_ret2
    exact ⟨rfl, rfl⟩
end Go.Proofs.Ytkcpfgjkplailaa

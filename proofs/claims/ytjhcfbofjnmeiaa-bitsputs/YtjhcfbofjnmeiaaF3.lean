/- The contract of the document's answer for bits: Pack. -/
import Derived.Test.YtjhcfbofjnmeiaaF2
namespace Go.Proofs.Ytjhcfbofjnmeiaa
set_option linter.unusedVariables false
open Go.RowKit

/-- The bits of the first numbers, and some of the next one. -/
def bt (l : List Int) (k j q : Nat) : List Bool := bitsAll (l.take j) k ++ A.bitsOf (l.getD j 0).toNat q
theorem bt_zero (l : List Int) (k j : Nat) : bt l k j 0 = bitsAll (l.take j) k := by simp [bt, A.bitsOf]
theorem bt_next (l : List Int) (k j : Nat) (h : j < l.length) : bt l k (j + 1) 0 = bt l k j k := by
  rw [bt_zero, take_snocD l j h, bitsAll_snoc]; rfl
theorem bt_succ (l : List Int) (k j q : Nat) : bt l k j (q + 1) = bt l k j q ++ [sh (l.getD j 0).toNat q % 2 == 1] := by
  unfold bt; rw [sh_bit, List.append_assoc]
theorem bt_le (l : List Int) (k j q : Nat) (hk : k ≤ 64) (hq : q ≤ k) : (bt l k j q).length ≤ l.length * 64 + 64 := by
  unfold bt
  have := bitsAll_le l k j hk
  rw [List.length_append, A.bitsOf_length]; omega

set_option maxHeartbeats 400000 in
theorem rpack_arg (ao : Option Addr) (len cap : Nat) (k : Int) (w : World) (h : k < 0 ∨ 64 < k) :
    Calls Try.prog 22 #[.slice ao len cap, .int .i64 k] w fun e w' => e = .returned (.tuple #[.slice none 0 0, .int .i64 1]) ∧ w' = w := by
  rcases (show k < 0 ∨ (0 ≤ k ∧ 64 < k) by omega) with h1 | ⟨h1, h2⟩
  all_goals
    clear h
    go_enter Try.func22, Try.ntmps22
    go_wp2
    go_ret2
    exact ⟨rfl, rfl⟩

set_option maxHeartbeats 1000000 in
theorem rpack_any (ao : Option Addr) (len cap : Nat) (l : List Int) (k : Nat) (w : World) (h : Sl w .u64 ao len cap l) (hm : len * 64 + 64 < 1099511627776) (hin : In64 l) (hk : k ≤ 64) :
    Calls Try.prog 22 #[.slice ao len cap, .int .i64 k] w fun e w' =>
      (Fit l k ∧ ∃ v', e = .returned (.tuple #[v', .int .i64 0]) ∧ w'.ownsRow w.heap.size 5 1 v' (A.bytesOf (bitsAll l k)).length (B8 (A.bytesOf (bitsAll l k))) ∧ Below w.heap.size w w') ∨
      (¬ Fit l k ∧ e = .returned (.tuple #[.slice none 0 0, .int .i64 1]) ∧ Below w.heap.size w w') := by
  obtain ⟨i0, hi, hz0, hz1, hz2⟩ := info_parts Try.infoBool
  have HSL := hide h
  have HIN := hide hin
  have HL := hide h.1
  have HBT : Hid (∀ j q, q ≤ k → (bt l k j q).length ≤ len * 64 + 64) := fun j q hq => by have := bt_le l k j q hk hq; have := h.1; omega
  have hd : decide ((k : Int) < 0) = false := by simp
  clear h hin
  go_enter Try.func22, Try.ntmps22
  go_wp2_with fail
  go_loopw [6, 7] (fun v6 v7 wr => ∃ j : Nat, j ≤ len ∧ v7 = .int .i64 j ∧ Fit (l.take j) k ∧ wr.ownsRow w.heap.size 4 1 v6 (bt l k j 0).length (Vb (bt l k j 0)) ∧ Below w.heap.size w wr) (fun _ v7 _ => len - (intOf v7).toNat)
  case atStart => exact ⟨0, Nat.zero_le _, rfl, by intro x hx; simp at hx, World.ownsRow_nil _ _ _ _, Below.refl _ _⟩
  case round =>
    obtain ⟨j, hj, rfl, hfit, hown, hbr⟩ := hrel
    by_cases hlt : j < len
    · obtain ⟨b, off, hao, hblt, hc⟩ : ∃ b off, ao = some ⟨b, off, none⟩ ∧ b < w.heap.size ∧ ∀ i, i < len → w.cell? ⟨b, off + i, none⟩ = some (.int .u64 (l.getD i 0)) := by
        rcases HSL.out.2.2.2.2 with h | h
        · omega
        · exact h
      have hjl : j < l.length := by rw [HL.out]; exact hlt
      have hck : wr.cell? ⟨b, off + j, none⟩ = some (.int .u64 (l.getD j 0)) := by rw [hbr.cell (p := ⟨b, off + j, none⟩) hblt]; exact hc j hlt
      obtain ⟨x0, x1⟩ := HIN.out.getD j
      have HF : Hid (l.getD j 0 < (2 : Int) ^ k → Fit (l.take (j + 1)) k) := fun hx => hfit.snoc hjl hx
      have HM : Hid (l.getD j 0 ∈ l) := by
        have : l.getD j 0 = l[j] := by simp [List.getD, hjl]
        show l.getD j 0 ∈ l
        rw [this]; exact List.getElem_mem _
      have HN := hide (bt_next l k j hjl)
      have HS : Hid (∀ q, bt l k j (q + 1) = bt l k j q ++ [sh (l.getD j 0).toNat q % 2 == 1]) := bt_succ l k j
      obtain ⟨x, hxe⟩ : ∃ x, l.getD j 0 = x := ⟨_, rfl⟩
      rw [hxe] at hck x0 x1 HF HM HS
      clear hc hxe hjl hfit
      subst hao
      by_cases hx : x < (2 : Int) ^ k
      · have HX := hide hx
        have HD : Hid (decide (x < (2 : Int) ^ (k : Int).toNat) = true) := by show _ = _; rw [Int.toNat_natCast]; exact decide_eq_true hx
        clear hx
        go_wp2_with fail
        refine (rfits_i x k true wr x0 x1 (by omega) (by omega) HD.out).mono ?_
        rintro e w' ⟨rfl, rfl⟩
        go_wp2_with fail
        go_loopw [6, 8, 9] (fun v6 v8 v9 wq => ∃ q : Nat, q ≤ k ∧ v9 = .int .i64 q ∧ v8 = .int .u64 ((sh x.toNat q : Nat) : Int) ∧ wq.ownsRow w.heap.size 4 1 v6 (bt l k j q).length (Vb (bt l k j q)) ∧ Below w.heap.size w wq) (fun _ _ v9 _ => k - (intOf v9).toNat)
        case atStart => exact ⟨0, by omega, rfl, by rw [sh_zero]; go_num, hown, hbr⟩
        case round =>
          obtain ⟨q, hq, rfl, rfl, hown2, hbr2⟩ := hrel
          have hsz := hbr2.size
          have hsl := sh_le x.toNat q
          have hle := HBT.out j q hq
          by_cases hqk : q < k
          · have HQ := hide (HS.out q)
            have HSH := hide (sh_succ x.toNat q)
            obtain ⟨c, hce⟩ : ∃ c : Bool, (((sh x.toNat q : Nat) : Int) % 2 == 1) = c := ⟨_, rfl⟩
            have HC : Hid ((sh x.toNat q % 2 == 1) = c) := by
              show _ = _
              rw [← hce, Bool.eq_iff_iff, beq_iff_eq, beq_iff_eq]; omega
            go_wp2_with (at_builtin; refine wpList_append_to rfl (.tmp 38) (.tmp 42) 29 rfl w.heap.size 4 i0 (.bool false) 1 1 Try.underlying29 hi hz0 hz1 hz2 rfl (by decide) _ _ _ rfl (hown2.alloc _) (some ⟨wr.heap.size, 0, none⟩) 1 1 [.bool c] rfl (by simp) rfl (newsB _ _) (oneB _) (by unfold maxLen; omega) (by omega) (by simp; omega) ?_)
            intro v' w' hown' has'
            have hbn : Below w.heap.size w w' := (hbr2.alloc hsz _).trans (has'.below (by simp; omega) (fun k hk => (owns_lt hown2 hk).1))
            clear has' hce
            go_wp2
            go_roundw
            case rel => exact ⟨q + 1, by omega, by go_num, by rw [HSH.out]; go_num, by rw [HQ.out, HC.out, Vb_append, List.length_append]; exact hown', hbn⟩
            case measure => simp [intOf]; omega
          · have hq' : q = k := by omega
            subst hq'
            go_wp2
            go_roundw
            case rel => exact ⟨j + 1, by omega, by go_num, HF.out HX.out, by rw [HN.out]; exact hown2, hbr2⟩
            case measure => simp [intOf]; omega
      · have HX := hide (Int.not_lt.1 hx)
        have HD : Hid (decide (x < (2 : Int) ^ (k : Int).toNat) = false) := by show _ = _; rw [Int.toNat_natCast]; exact decide_eq_false hx
        clear hx
        go_wp2_with fail
        refine (rfits_i x k false wr x0 x1 (by omega) (by omega) HD.out).mono ?_
        rintro e w' ⟨rfl, rfl⟩
        go_wp2
        go_ret2
        exact .inr ⟨fun hf => Int.not_lt.2 HX.out (hf x HM.out), rfl, hbr⟩
    · have hjl : j = l.length := by rw [HL.out]; omega
      rw [bt_zero, hjl, List.take_length] at hown
      rw [hjl, List.take_length] at hfit
      have hle := HBT.out l.length 0 (by omega)
      rw [bt_zero, List.take_length] at hle
      obtain ⟨ao6, cap6, hv6, hsb6, _⟩ := Sb.of_owns hown
      have HSB := hide hsb6
      have HF := hide hfit
      have hsz := hbr.size
      clear hown hfit hsb6 hjl
      subst hv6
      go_wp2_with fail
      refine (rbytes_any _ _ _ (bitsAll l k) _ HSB.out (by omega)).mono ?_
      rintro e w5 ⟨v5, rfl, ho5, hb5⟩
      go_wp2
      go_ret2
      exact .inl ⟨HF.out, v5, rfl, owns_base ho5 fun g hg => by have := (owns_lt ho5 hg).1; omega, hbr.trans (hb5.mono hsz)⟩
end Go.Proofs.Ytjhcfbofjnmeiaa

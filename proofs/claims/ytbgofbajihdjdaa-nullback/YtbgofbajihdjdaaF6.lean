/- The contract of the document's answer for bits: Unpack, where the bytes are as many as needed. -/
import Derived.Test.YtbgofbajihdjdaaF5
namespace Go.Proofs.Ytbgofbajihdjdaa
set_option linter.unusedVariables false
open Go.RowKit

theorem getV_drop (l : List Nat) (pos k : Nat) : A.valOf (((A.bitsB l).drop pos).take k) = getV l pos k := rfl

/-- What stands from a place on. -/
theorem Sb.cut_end {w : World} {ao : Option Addr} {n M : Nat} {bs : List Bool} (h : Sb w ao n M bs) : Sb w ao (n - M) 0 (bs.drop M) := by
  obtain ⟨h1, h2, h3, h4, h5⟩ := h
  exact ⟨by rw [List.length_drop]; omega, by omega, by simp [maxLen], fun _ => rfl, .inl (by omega)⟩
theorem Sb.cut_in {w : World} {ao : Option Addr} {n cap M : Nat} {bs : List Bool} (h : Sb w ao n cap bs) (hM : M ≤ n) : Sb w (Option.map (fun x => x.add M) ao) (n - M) (cap - M) (bs.drop M) := by
  obtain ⟨h1, h2, h3, h4, h5⟩ := h
  refine ⟨by rw [List.length_drop]; omega, by omega, by omega, by intro h; cases ao with | none => have := h4 rfl; omega | some x => simp at h, ?_⟩
  by_cases h0 : n - M = 0
  · exact .inl h0
  · rcases h5 with h5 | ⟨b, off, rfl, hlt, h5⟩
    · omega
    · refine .inr ⟨b, off + M, by simp [Addr.add], hlt, fun i hi => ?_⟩
      rw [Nat.add_assoc, h5 (M + i) (by omega)]
      simp [List.getD]

set_option maxHeartbeats 1000000 in
theorem runpack_rest (ao : Option Addr) (len cap : Nat) (l : List Nat) (n k : Nat) (w : World) (h : Sl w .u8 ao len cap (ints l)) (h256 : ∀ x ∈ l, x < 256) (hm : len ≤ 1099511627776) (hn : n ≤ 1048576) (hk : k ≤ 64) (hlen : len = (n * k + 7) / 8) :
    Calls Try.prog 26 #[.slice ao len cap, .int .i64 n, .int .i64 k] w fun e w' =>
      (jb l (n * k) = 0 ∧ ∃ v', e = .returned (.tuple #[v', .int .i64 0]) ∧ w'.ownsRow w.heap.size 56 1 v' n ((nums l n k).map (Value.int .u64)) ∧ Below w.heap.size w w') ∨
      (jb l (n * k) = 4 ∧ e = .returned (.tuple #[.slice none 0 0, .int .i64 4]) ∧ Below w.heap.size w w') := by
  obtain ⟨i0, hi0, hz0, hz1, hz2⟩ := info_parts Try.infoU64
  have hnk : n * k ≤ 1048576 * 64 := Nat.mul_le_mul hn hk
  have hll : l.length = len := by rw [← h.1, ints_length]
  have HJ : Hid (∀ j, j < n → j * k + k ≤ n * k) := by
    intro j hj
    have : (j + 1) * k ≤ n * k := Nat.mul_le_mul_right k hj
    rw [Nat.add_mul] at this
    omega
  have hd : decide ((n : Int) < 0) = false := by simp
  have hd2 : decide ((1048576 : Int) < (n : Int)) = false := by simp; omega
  have hd3 : decide ((k : Int) < 0) = false := by simp
  have hi : (n : Int) * (k : Int) = ((n * k : Nat) : Int) := (Int.natCast_mul n k).symm
  obtain ⟨N, hN⟩ : ∃ N, n * k = N := ⟨_, rfl⟩
  rw [hN] at hnk HJ hlen hi ⊢
  have H := hide h
  have H2 := hide h256
  have HLL := hide hll
  have HN := hide hN
  have HT0 : Hid (∀ j, j < n → j * k + k ≤ 8 * len) := fun j hj => by have := HJ.out j hj; omega
  have hge : N ≤ 8 * len := by omega
  have hle : 8 * len < N + 8 := by omega
  have HLEN := hide hlen
  clear h h256 hll hN hlen
  go_enter Try.func26, Try.ntmps26
  go_wp2_with fail
  refine (rbits_any _ _ _ l _ H.out hm H2.out).mono ?_
  rintro e w1 ⟨vR, rfl, hoR, hb1⟩
  have hbl : (A.bitsB l).length = 8 * len := by rw [A.bitsB_length, HLL.out]
  obtain ⟨aoR, capR, hvR, hsbR, _⟩ := Sb.of_owns hoR
  rw [hbl] at hvR hsbR hoR
  have HBL := hide hbl
  have hcm := hsbR.2.2.1
  have hcl := hsbR.2.1
  clear hsbR hbl
  subst hvR
  go_wp2_with fail
  go_loopw [9, 10] (fun v9 v10 wr => ∃ j : Nat, j ≤ n ∧ v10 = .int .i64 j ∧ wr.ownsRow w.heap.size 56 1 v9 j ((nums l j k).map (Value.int .u64)) ∧ wr.ownsRow w.heap.size 4 1 (.slice aoR (8 * len) capR) (8 * len) (Vb (A.bitsB l)) ∧ Below w.heap.size w wr) (fun _ v10 _ => n - (intOf v10).toNat)
  case atStart => exact ⟨0, Nat.zero_le _, rfl, World.ownsRow_nil _ _ _ _, hoR, hb1⟩
  case round =>
    obtain ⟨j, hj, rfl, hown, hoR2, hbr⟩ := hrel
    have hsz := hbr.size
    by_cases hlt : j < n
    · have hM := HT0.out j hlt
      have hij : (j : Int) * (k : Int) = ((j * k : Nat) : Int) := (Int.natCast_mul j k).symm
      obtain ⟨M, hMe⟩ : ∃ M, j * k = M := ⟨_, rfl⟩
      rw [hMe] at hM hij
      have HM := hide hMe
      have HSB := hide (Sb.of_slice HBL.out hoR2)
      have HO := hide hown
      have HOR := hide hoR2
      have HB := hide hbr
      clear hMe hown hoR2 hbr hoR hb1
      have hkM : k ≤ 8 * len - M := by omega
      have HNS := hide (nums_succ l j k)
      by_cases hcM : capR = M
      case pos =>
        subst hcM
        have hz : 8 * len - capR = 0 := by omega
        have HC := hide (Sb.cut_end HSB.out)
        rw [hz] at HC hkM
        clear hz
        go_wp2_with fail
        refine (rget_any _ _ _ _ k _ HC.out HC.out.2.2.1 hk hkM).mono ?_
        rintro e w2 ⟨aoG, capG, rfl, _, _, _, hkp⟩
        have ho2 := owns_of_block HO.out (fun g hg => hkp.block g (owns_lt HO.out hg).2 (by simp))
        have hoR3 := owns_of_block HOR.out (fun g hg => hkp.block g (owns_lt HOR.out hg).2 (by simp))
        have hb2 : Below w.heap.size w w2 := HB.out.trans (hkp.below hsz (by simp))
        have hs2 := hb2.size
        rw [getV_drop]
        have HOR3 := hide hoR3
        clear hkp hoR3
        go_wp2_with (at_builtin; refine wpList_append_to rfl (.tmp 62) (.tmp 64) 53 rfl w.heap.size 56 i0 (.int .u64 0) 1 8 Try.underlying53 hi0 hz0 hz1 hz2 rfl (by decide) _ _ _ rfl (ho2.alloc _) (some ⟨w2.heap.size, 0, none⟩) 1 1 [.int .u64 ((getV l capR k : Nat) : Int)] rfl (by simp) rfl (Sl.news1 _ _) (one_oneCell _ _) (by unfold maxLen; omega) (by omega) (by simp; omega) ?_)
        intro v' w3 hown3 has3
        have hk3 := ((Kept.refl (fun g => u9.ownBlock = some g) w2).alloc _).trans has3.1
        have ho3 := owns_of_block HOR3.out (fun g hg => hk3.block g (owns_lt HOR3.out hg).2 (owns_ne HOR3.out ho2 (by decide) hg))
        have hb3 : Below w.heap.size w w3 := hb2.trans (hk3.below hs2 (fun g hg => (owns_lt ho2 hg).1))
        clear has3 hk3
        go_wp2
        go_roundw
        case rel => exact ⟨j + 1, by omega, by go_num, by rw [HNS.out, HM.out, List.map_append]; exact hown3, ho3, hb3⟩
        case measure => simp [intOf]; omega
      case neg =>
        have HC := hide (HSB.out.cut_in (M := M) (by omega))
        go_wp2_with fail
        refine (rget_any _ _ _ _ k _ HC.out HC.out.2.2.1 hk hkM).mono ?_
        rintro e w2 ⟨aoG, capG, rfl, _, _, _, hkp⟩
        have ho2 := owns_of_block HO.out (fun g hg => hkp.block g (owns_lt HO.out hg).2 (by simp))
        have hoR3 := owns_of_block HOR.out (fun g hg => hkp.block g (owns_lt HOR.out hg).2 (by simp))
        have hb2 : Below w.heap.size w w2 := HB.out.trans (hkp.below hsz (by simp))
        have hs2 := hb2.size
        rw [getV_drop]
        have HOR3 := hide hoR3
        clear hkp hoR3
        go_wp2_with (at_builtin; refine wpList_append_to rfl (.tmp 62) (.tmp 64) 53 rfl w.heap.size 56 i0 (.int .u64 0) 1 8 Try.underlying53 hi0 hz0 hz1 hz2 rfl (by decide) _ _ _ rfl (ho2.alloc _) (some ⟨w2.heap.size, 0, none⟩) 1 1 [.int .u64 ((getV l M k : Nat) : Int)] rfl (by simp) rfl (Sl.news1 _ _) (one_oneCell _ _) (by unfold maxLen; omega) (by omega) (by simp; omega) ?_)
        intro v' w3 hown3 has3
        have hk3 := ((Kept.refl (fun g => u9.ownBlock = some g) w2).alloc _).trans has3.1
        have ho3 := owns_of_block HOR3.out (fun g hg => hk3.block g (owns_lt HOR3.out hg).2 (owns_ne HOR3.out ho2 (by decide) hg))
        have hb3 : Below w.heap.size w w3 := hb2.trans (hk3.below hs2 (fun g hg => (owns_lt ho2 hg).1))
        clear has3 hk3
        go_wp2
        go_roundw
        case rel => exact ⟨j + 1, by omega, by go_num, by rw [HNS.out, HM.out, List.map_append]; exact hown3, ho3, hb3⟩
        case measure => simp [intOf]; omega
    · have hjn : j = n := by omega
      subst hjn
      have HSB := hide (Sb.of_slice HBL.out hoR2)
      have HO := hide hown
      have HB := hide hbr
      clear hown hoR2 hbr hoR hb1
      have hsz := HB.out.size
      go_wp2_with fail
      go_loop [14] (fun v14 => ∃ i : Nat, N ≤ i ∧ i ≤ 8 * len ∧ v14 = .int .i64 i ∧ Hid (∀ t, N ≤ t → t < i → (A.bitsB l).getD t false = false)) (fun v14 => 8 * len - (intOf v14).toNat)
      case atStart => exact ⟨N, Nat.le_refl _, hge, rfl, fun t h1 h2 => by omega⟩
      case round =>
        obtain ⟨i, hi1, hi2, rfl, hall⟩ := hrel
        by_cases hlt2 : i < 8 * len
        · obtain ⟨b, off, hao, hblt, hc⟩ : ∃ b off, aoR = some ⟨b, off, none⟩ ∧ b < wr.heap.size ∧ ∀ t, t < 8 * len → wr.cell? ⟨b, off + t, none⟩ = some (.bool ((A.bitsB l).getD t false)) := by
            rcases HSB.out.2.2.2.2 with h | h
            · omega
            · exact h
          have hck := hc i hlt2
          obtain ⟨t, hte⟩ : ∃ t, (A.bitsB l).getD i false = t := ⟨_, rfl⟩
          rw [hte] at hck
          have HTE := hide hte
          clear hc hte
          subst hao
          cases t with
          | false =>
            go_wp2
            go_round
            case rel =>
              refine ⟨i + 1, by omega, by omega, by go_num, fun t h1 h2 => ?_⟩
              by_cases hti : t = i
              · subst hti; exact HTE.out
              · exact hall t h1 (by omega)
            case measure => simp [intOf]; omega
          | true =>
            go_wp2
            go_ret2
            refine .inr ⟨?_, rfl, HB.out⟩
            have hL : l.length = (N + 7) / 8 := by rw [HLL.out, ← HLEN.out]
            refine jb_four l N hL fun hj0 => ?_
            have := tail_false l N hL hj0 i hi1 (by rw [HLL.out]; exact hlt2)
            rw [HTE.out] at this
            exact absurd this (by simp)
        · have hie : i = 8 * len := by omega
          subst hie
          go_wp2
          go_ret2
          refine .inl ⟨?_, _, rfl, HO.out, HB.out⟩
          have hL : l.length = (N + 7) / 8 := by rw [HLL.out, ← HLEN.out]
          exact tail_zero l N hL H2.out fun t h1 h2 => hall t h1 (by rw [← HLL.out]; exact h2)

/-- The document's Unpack. -/
theorem runpack_any (ao : Option Addr) (len cap : Nat) (l : List Nat) (n k : Nat) (w : World) (h : Sl w .u8 ao len cap (ints l)) (h256 : ∀ x ∈ l, x < 256) (hm : len ≤ 1099511627776) (hn : n ≤ 1048576) (hk : k ≤ 64) :
    Calls Try.prog 26 #[.slice ao len cap, .int .i64 n, .int .i64 k] w fun e w' =>
      (jb l (n * k) = 0 ∧ ∃ v', e = .returned (.tuple #[v', .int .i64 0]) ∧ w'.ownsRow w.heap.size 56 1 v' n ((nums l n k).map (Value.int .u64)) ∧ Below w.heap.size w w') ∨
      (jb l (n * k) ≠ 0 ∧ e = .returned (.tuple #[.slice none 0 0, .int .i64 ((jb l (n * k) : Nat) : Int)]) ∧ Below w.heap.size w w') := by
  have hll : l.length = len := by rw [← h.1, ints_length]
  by_cases hlen : len = (n * k + 7) / 8
  · refine (runpack_rest ao len cap l n k w h h256 hm hn hk hlen).mono ?_
    rintro e w' (h1 | ⟨h1, h2, h3⟩)
    · exact .inl h1
    · refine .inr ⟨by rw [h1]; omega, ?_, h3⟩
      rw [h1]; exact h2
  · refine (runpack_len ao len cap l n k w hll hm hn hk hlen).mono ?_
    rintro e w' ⟨rfl, rfl⟩
    refine .inr ⟨fun h0 => hlen ?_, rfl, Below.refl _ _⟩
    rw [← hll]; exact (jb_zero h0).1
end Go.Proofs.Ytbgofbajihdjdaa

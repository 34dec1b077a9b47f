/- The contracts of the document's answer for bits: Get, Unpack. -/
import Derived.Test.YtmhfpipeoojacaaGreatBdZM
import Derived.Test.YtmhfpipeoojacaaGreatBdB
import Derived.Test.YtmhfpipeoojacaaGreatBdZL
import Derived.Test.YtmhfpipeoojacaaGreatBdZJ
namespace Go.Proofs.YtmhfpipeoojacaaGreat
set_option linter.unusedVariables false
set_option maxRecDepth 10000
open Go.RowKit

/-- The number of so many bits' last ones. -/
def topV (bs : List Bool) (k j : Nat) : Nat := A.valOf ((bs.take k).drop (k - j))
theorem topV_zero (bs : List Bool) (k : Nat) : topV bs k 0 = 0 := by
  unfold topV; rw [List.drop_of_length_le (by rw [List.length_take]; omega)]; rfl
theorem topV_all (bs : List Bool) (k : Nat) : topV bs k k = A.valOf (bs.take k) := by unfold topV; simp
theorem topV_succ (bs : List Bool) (k j : Nat) (hk : k ≤ bs.length) (hj : j < k) : topV bs k (j + 1) = 2 * topV bs k j + (bs.getD (k - 1 - j) false).toNat := by
  unfold topV
  have hl : k - (j + 1) < (bs.take k).length := by rw [List.length_take]; omega
  rw [← List.getElem_cons_drop (h := hl), show k - (j + 1) + 1 = k - j by omega]
  simp only [A.valOf]
  have e : (bs.take k)[k - (j + 1)] = bs.getD (k - 1 - j) false := by
    simp [List.getD, show k - 1 - j < bs.length by omega, show k - (j + 1) = k - 1 - j by omega]
  rw [e]; omega
theorem topV_lt (bs : List Bool) (k j : Nat) (hj : j ≤ k) : topV bs k j < 2 ^ j := by
  unfold topV
  have h1 := A.valOf_lt ((bs.take k).drop (k - j))
  have h2 : ((bs.take k).drop (k - j)).length ≤ j := by rw [List.length_drop, List.length_take]; omega
  exact Nat.lt_of_lt_of_le h1 (Nat.pow_le_pow_right (by omega) h2)

set_option maxHeartbeats 400000 in
theorem brget_arg (ao : Option Addr) (len cap : Nat) (k : Int) (w : World) (h : k < 0 ∨ 64 < k) :
    Calls Tryz.prog 74 #[.slice ao len cap, .int .i64 k] w fun e w' => e = .returned (.tuple #[.int .u64 0, .slice ao len cap, .int .i64 1]) ∧ w' = w := by
  rcases (show k < 0 ∨ (0 ≤ k ∧ 64 < k) by omega) with h1 | ⟨h1, h2⟩
  all_goals
    clear h
    go_enter Tryz.func74, Tryz.ntmps74
    go_wp2
    go_ret3
    exact ⟨rfl, rfl⟩

set_option maxHeartbeats 400000 in
theorem brget_short (ao : Option Addr) (len cap : Nat) (k : Nat) (w : World) (hk : k ≤ 64) (h : len < k) :
    Calls Tryz.prog 74 #[.slice ao len cap, .int .i64 k] w fun e w' => e = .returned (.tuple #[.int .u64 0, .slice ao len cap, .int .i64 3]) ∧ w' = w := by
  go_enter Tryz.func74, Tryz.ntmps74
  go_wp2
  go_ret3
  exact ⟨rfl, rfl⟩

set_option maxHeartbeats 400000 in
theorem brget_zero (ao : Option Addr) (len cap : Nat) (w : World) (hlc : len ≤ cap) (hm : cap ≤ maxLen) :
    Calls Tryz.prog 74 #[.slice ao len cap, .int .i64 0] w fun e w' => e = .returned (.tuple #[.int .u64 0, .slice ao len cap, .int .i64 0]) ∧ Kept (fun _ => False) w w' := by
  unfold maxLen at hm
  go_enter Tryz.func74, Tryz.ntmps74
  go_wp2_with fail
  go_loop [7, 8] (fun v7 v8 => v7 = .int .u64 0 ∧ v8 = .int .i64 (-1)) (fun _ _ => 0)
  case atStart => exact ⟨rfl, rfl⟩
  case round =>
    obtain ⟨rfl, rfl⟩ := hrel
    go_wp2
    go_region
    all_goals go_wp2
    all_goals
      go_ret3
      exact ⟨rfl, (Kept.refl _ _).drew⟩

set_option maxHeartbeats 1000000 in
theorem brget_some (b off len cap : Nat) (bs : List Bool) (k : Nat) (w : World) (hl : bs.length = len) (hlc : len ≤ cap) (hm : cap ≤ maxLen) (hb : b < w.heap.size) (hc : ∀ i, i < len → w.cell? ⟨b, off + i, none⟩ = some (.bool (bs.getD i false))) (hk0 : 0 < k) (hk : k ≤ 64) (hkl : k ≤ len) :
    Calls Tryz.prog 74 #[.slice (some ⟨b, off, none⟩) len cap, .int .i64 k] w fun e w' => e = .returned (.tuple #[.int .u64 ((A.valOf (bs.take k) : Nat) : Int), .slice (if cap = k then some ⟨b, off, none⟩ else some ⟨b, off + k, none⟩) (len - k) (cap - k), .int .i64 0]) ∧ Kept (fun _ => False) w w' := by
  unfold maxLen at hm
  have HL := hide hl
  have hd1 : decide ((k : Int) < 0) = false := by simp
  have hd2 : decide ((len : Int) < (k : Int)) = false := by simp; omega
  clear hl
  go_enter Tryz.func74, Tryz.ntmps74
  go_wp2_with fail
  go_loop [7, 8] (fun v7 v8 => ∃ j : Nat, j ≤ k ∧ v8 = .int .i64 ((k : Int) - 1 - j) ∧ v7 = .int .u64 ((topV bs k j : Nat) : Int)) (fun _ v8 => (intOf v8 + 1).toNat)
  case atStart => exact ⟨0, Nat.zero_le _, by go_num, by rw [topV_zero]; rfl⟩
  case round =>
    obtain ⟨j, hj, rfl, rfl⟩ := hrel
    by_cases hlt : j < k
    · have hck := hc (k - 1 - j) (by omega)
      have HS := hide (topV_succ bs k j (by rw [HL.out]; exact hkl) hlt)
      have hv := topV_lt bs k j hj
      have hp : 2 ^ j ≤ 2 ^ 63 := Nat.pow_le_pow_right (by omega) (by omega)
      obtain ⟨T, hT, hT0, hT1⟩ : ∃ T : Int, ((topV bs k j : Nat) : Int) = T ∧ 0 ≤ T ∧ T < 9223372036854775808 := ⟨_, rfl, by omega, by omega⟩
      obtain ⟨t, hte⟩ : ∃ t, bs.getD (k - 1 - j) false = t := ⟨_, rfl⟩
      rw [hte] at hck HS
      have HT := hide hT
      rw [hT]
      have e1 : ((k : Int) - 1 - j).toNat = k - 1 - j := by omega
      clear hc hte hv hp hT
      cases t with
      | false =>
        go_wp2
        go_round
        case rel => exact ⟨j + 1, by omega, by go_num, by rw [HS.out, Int.natCast_add, Int.natCast_mul, HT.out]; simp⟩
        case measure => simp [intOf]; omega
      | true =>
        go_wp2
        go_round
        case rel => exact ⟨j + 1, by omega, by go_num, by rw [HS.out, Int.natCast_add, Int.natCast_mul, HT.out]; go_num⟩
        case measure => simp [intOf]; omega
    · have hjk : j = k := by omega
      subst hjk
      rw [topV_all]
      clear hc
      go_wp2
      go_region
      all_goals go_wp2
      all_goals
        go_ret3
        exact ⟨rfl, (Kept.refl _ _).drew⟩

/-- The document's Get, where there are enough bits. -/
theorem brget_any (ao : Option Addr) (len cap : Nat) (bs : List Bool) (k : Nat) (w : World) (h : Sb w ao len cap bs) (hm : cap ≤ maxLen) (hk : k ≤ 64) (hkl : k ≤ len) :
    Calls Tryz.prog 74 #[.slice ao len cap, .int .i64 k] w fun e w' => ∃ ao' cap', e = .returned (.tuple #[.int .u64 ((A.valOf (bs.take k) : Nat) : Int), .slice ao' (len - k) cap', .int .i64 0]) ∧ Sb w' ao' (len - k) cap' (bs.drop k) ∧ cap' ≤ cap ∧ (∀ x, ao' = some x → ∃ y, ao = some y ∧ x.block = y.block) ∧ Kept (fun _ => False) w w' := by
  have h0 := h
  obtain ⟨h1, h2, h3, h4, h5⟩ := h
  by_cases hk0 : k = 0
  · subst hk0
    refine (brget_zero ao len cap w h2 hm).mono ?_
    rintro e w' ⟨rfl, hkp⟩
    exact ⟨ao, cap, rfl, h0.kept hkp (by simp), Nat.le_refl _, fun x hx => ⟨x, hx, rfl⟩, hkp⟩
  · rcases h5 with h5 | ⟨b, off, rfl, hlt, h5⟩
    · omega
    · refine (brget_some b off len cap bs k w h1 h2 hm hlt h5 (by omega) hk hkl).mono ?_
      rintro e w' ⟨rfl, hkp⟩
      refine ⟨_, cap - k, rfl, ?_, by omega, ?_, hkp⟩
      · refine ⟨by rw [List.length_drop]; omega, by omega, by omega, by intro h; split at h <;> simp at h, ?_⟩
        by_cases hck : cap = k
        · exact .inl (by omega)
        · right
          refine ⟨b, off + k, by rw [if_neg hck], by have := hkp.size; omega, fun i hi => ?_⟩
          rw [hkp.cell (p := ⟨b, off + k + i, none⟩) hlt (by simp), Nat.add_assoc, h5 (k + i) (by omega)]
          simp [List.getD]
      · intro x hx
        refine ⟨_, rfl, ?_⟩
        split at hx <;> (obtain rfl := Option.some.inj hx; rfl)
end Go.Proofs.YtmhfpipeoojacaaGreat
/- The contract of the document's answer for bits: Unpack. -/
namespace Go.Proofs.YtmhfpipeoojacaaGreat
set_option linter.unusedVariables false
set_option maxRecDepth 10000
open Go.RowKit

theorem tail_false (l : List Nat) (n : Nat) (hl : l.length = (n + 7) / 8) (hj : jb l n = 0) (i : Nat) (h1 : n ≤ i) (h2 : i < 8 * l.length) : (A.bitsB l).getD i false = false := by
  have hz := (jb_zero hj).2 (by omega)
  have h3 := A.bitsB_getD l i h2
  have e1 : i / 8 = (n + 7) / 8 - 1 := by omega
  have e2 : i % 8 = n % 8 + (i - n) := by omega
  rw [e1, e2] at h3
  have h4 : l.getD ((n + 7) / 8 - 1) 0 < 2 ^ (n % 8) := by
    rcases Nat.lt_or_ge (l.getD ((n + 7) / 8 - 1) 0) (2 ^ (n % 8)) with h | h
    · exact h
    · have := Nat.div_pos h (Nat.two_pow_pos (n % 8)); omega
  have h5 : l.getD ((n + 7) / 8 - 1) 0 / 2 ^ (n % 8 + (i - n)) = 0 := Nat.div_eq_of_lt (Nat.lt_of_lt_of_le h4 (Nat.pow_le_pow_right (by omega) (by omega)))
  rw [h3, h5]; rfl

theorem tail_zero (l : List Nat) (n : Nat) (hl : l.length = (n + 7) / 8) (h256 : ∀ x ∈ l, x < 256) (h : ∀ i, n ≤ i → i < 8 * l.length → (A.bitsB l).getD i false = false) : jb l n = 0 := by
  unfold jb
  rw [if_neg (by omega), if_neg (by omega), if_neg]
  rintro ⟨h8, hy⟩
  have hlast : (n + 7) / 8 - 1 < l.length := by omega
  have hy256 : l.getD ((n + 7) / 8 - 1) 0 < 256 := by
    have : l.getD ((n + 7) / 8 - 1) 0 = l[(n + 7) / 8 - 1] := by simp [List.getD, hlast]
    rw [this]; exact h256 _ (List.getElem_mem _)
  generalize hY : l.getD ((n + 7) / 8 - 1) 0 = y at hy hy256
  have hge : 2 ^ (n % 8) ≤ y := by
    rcases Nat.lt_or_ge y (2 ^ (n % 8)) with h' | h'
    · exact absurd (Nat.div_eq_of_lt h') hy
    · exact h'
  have hy0 : y ≠ 0 := by have := Nat.two_pow_pos (n % 8); omega
  have hlog : y.log2 < 8 := (Nat.log2_lt hy0).2 (by omega)
  have hlg : n % 8 ≤ y.log2 := (Nat.le_log2 hy0).2 hge
  have hb := h (n - n % 8 + y.log2) (by omega) (by omega)
  rw [A.bitsB_getD l _ (by omega)] at hb
  have e1 : (n - n % 8 + y.log2) / 8 = (n + 7) / 8 - 1 := by omega
  have e2 : (n - n % 8 + y.log2) % 8 = y.log2 := by omega
  rw [e1, e2, hY] at hb
  have hs := Nat.log2_self_le hy0
  have ht : y < 2 ^ (y.log2 + 1) := Nat.lt_log2_self
  have hd : y / 2 ^ y.log2 = 1 := by
    rw [Nat.pow_succ] at ht
    have hp := Nat.two_pow_pos y.log2
    have h1 : 1 ≤ y / 2 ^ y.log2 := (Nat.le_div_iff_mul_le hp).2 (by omega)
    have h2 : y / 2 ^ y.log2 < 2 := (Nat.div_lt_iff_lt_mul hp).2 (by omega)
    omega
  rw [hd] at hb
  simp at hb

set_option maxHeartbeats 400000 in
theorem runpack_arg (ao : Option Addr) (len cap : Nat) (n k : Int) (w : World) (h : k < 0 ∨ 64 < k ∨ n < 0 ∨ 1048576 < n) :
    Calls Tryz.prog 36 #[.slice ao len cap, .int .i64 n, .int .i64 k] w fun e w' => e = .returned (.tuple #[.slice none 0 0, .int .i64 1]) ∧ w' = w := by
  rcases (show n < 0 ∨ (0 ≤ n ∧ 1048576 < n) ∨ (0 ≤ n ∧ n ≤ 1048576 ∧ k < 0) ∨ (0 ≤ n ∧ n ≤ 1048576 ∧ 0 ≤ k ∧ 64 < k) by omega) with h1 | ⟨h1, h2⟩ | ⟨h1, h2, h3⟩ | ⟨h1, h2, h3, h4⟩
  all_goals
    clear h
    go_enter Tryz.func36, Tryz.ntmps36
    go_wp2
    go_ret2
    exact ⟨rfl, rfl⟩

set_option maxHeartbeats 400000 in
theorem runpack_len (ao : Option Addr) (len cap : Nat) (l : List Nat) (n k : Nat) (w : World) (hl : l.length = len) (hm : len ≤ 140737488355328) (hn : n ≤ 1048576) (hk : k ≤ 64) (h : len ≠ (n * k + 7) / 8) :
    Calls Tryz.prog 36 #[.slice ao len cap, .int .i64 n, .int .i64 k] w fun e w' => e = .returned (.tuple #[.slice none 0 0, .int .i64 ((jb l (n * k) : Nat) : Int)]) ∧ w' = w := by
  have hnk : n * k ≤ 1048576 * 64 := Nat.mul_le_mul hn hk
  have hi : (n : Int) * (k : Int) = ((n * k : Nat) : Int) := (Int.natCast_mul n k).symm
  generalize n * k = N at *
  rcases (show len < (N + 7) / 8 ∨ (N + 7) / 8 < len by omega) with h1 | h1
  · have hj : jb l N = 3 := by unfold jb; rw [hl, if_pos h1]
    rw [hj]
    clear h hl hj
    go_enter Tryz.func36, Tryz.ntmps36
    go_wp2
    go_ret2
    exact ⟨rfl, rfl⟩
  · have hj : jb l N = 4 := by unfold jb; rw [hl, if_neg (by omega), if_pos h1]
    rw [hj]
    clear h hl hj
    go_enter Tryz.func36, Tryz.ntmps36
    go_wp2
    go_ret2
    exact ⟨rfl, rfl⟩
end Go.Proofs.YtmhfpipeoojacaaGreat
/- The contract of the document's answer for bits: Unpack, where the bytes are as many as needed. -/
namespace Go.Proofs.YtmhfpipeoojacaaGreat
set_option linter.unusedVariables false
set_option maxRecDepth 10000
open Go.RowKit

theorem getV_drop (l : List Nat) (pos k : Nat) : A.valOf (((A.bitsB l).drop pos).take k) = getV l pos k := rfl

/-- What stands from a place on. -/
theorem Sb.cut_end {w : World} {ao : Option Addr} {n M : Nat} {bs : List Bool} (h : Sb w ao n M bs) : Sb w ao (n - M) 0 (bs.drop M) := by
  obtain ⟨h1, h2, h3, h4, h5⟩ := h
  exact ⟨by rw [List.length_drop]; omega, by omega, by simp [maxLen], fun _ => rfl, .inl (by omega)⟩
theorem Sb.cut_in {w : World} {ao : Option Addr} {n cap M : Nat} {bs : List Bool} (h : Sb w ao n cap bs) (hM : M ≤ n) : Sb w (Option.map (fun x => x.add M) ao) (n - M) (cap - M) (bs.drop M) := by
  obtain ⟨h1, h2, h3, h4, h5⟩ := h
  refine ⟨by rw [List.length_drop]; omega, by omega, by omega, by intro h; cases ao with | none => have := h4 rfl; omega | some x => simp at h, ?_⟩
  by_cases h0 : n - M = 0
  · exact .inl h0
  · rcases h5 with h5 | ⟨b, off, rfl, hlt, h5⟩
    · omega
    · refine .inr ⟨b, off + M, by simp [Addr.add], hlt, fun i hi => ?_⟩
      rw [Nat.add_assoc, h5 (M + i) (by omega)]
      simp [List.getD]

set_option maxHeartbeats 1000000 in
theorem runpack_rest (ao : Option Addr) (len cap : Nat) (l : List Nat) (n k : Nat) (w : World) (h : Sl w .u8 ao len cap (ints l)) (h256 : ∀ x ∈ l, x < 256) (hm0 : len ≤ 140737488355328) (hn : n ≤ 1048576) (hk : k ≤ 64) (hlen : len = (n * k + 7) / 8) :
    Calls Tryz.prog 36 #[.slice ao len cap, .int .i64 n, .int .i64 k] w fun e w' =>
      (jb l (n * k) = 0 ∧ ∃ v', e = .returned (.tuple #[v', .int .i64 0]) ∧ w'.ownsRow w.heap.size 48 1 v' n ((nums l n k).map (Value.int .u64)) ∧ Below w.heap.size w w') ∨
      (jb l (n * k) = 4 ∧ e = .returned (.tuple #[.slice none 0 0, .int .i64 4]) ∧ Below w.heap.size w w') := by
  obtain ⟨i0, hi0, hz0, hz1, hz2⟩ := info_parts Tryz.infoU64
  have hnk : n * k ≤ 1048576 * 64 := Nat.mul_le_mul hn hk
  have hm : len ≤ 1099511627776 := by omega
  have hll : l.length = len := by rw [← h.1, ints_length]
  have HJ : Hid (∀ j, j < n → j * k + k ≤ n * k) := by
    intro j hj
    have : (j + 1) * k ≤ n * k := Nat.mul_le_mul_right k hj
    rw [Nat.add_mul] at this
    omega
  have hd : decide ((n : Int) < 0) = false := by simp
  have hd2 : decide ((1048576 : Int) < (n : Int)) = false := by simp; omega
  have hd3 : decide ((k : Int) < 0) = false := by simp
  have hi : (n : Int) * (k : Int) = ((n * k : Nat) : Int) := (Int.natCast_mul n k).symm
  obtain ⟨N, hN⟩ : ∃ N, n * k = N := ⟨_, rfl⟩
  rw [hN] at hnk HJ hlen hi ⊢
  have H := hide h
  have H2 := hide h256
  have HLL := hide hll
  have HN := hide hN
  have HT0 : Hid (∀ j, j < n → j * k + k ≤ 8 * len) := fun j hj => by have := HJ.out j hj; omega
  have hge : N ≤ 8 * len := by omega
  have hle : 8 * len < N + 8 := by omega
  have HLEN := hide hlen
  clear h h256 hll hN hlen
  go_enter Tryz.func36, Tryz.ntmps36
  go_wp2_with fail
  refine (brbits_any _ _ _ l _ H.out hm H2.out).mono ?_
  rintro e w1 ⟨vR, rfl, hoR, hb1⟩
  have hbl : (A.bitsB l).length = 8 * len := by rw [A.bitsB_length, HLL.out]
  obtain ⟨aoR, capR, hvR, hsbR, _⟩ := Sb.of_owns hoR
  rw [hbl] at hvR hsbR hoR
  have HBL := hide hbl
  have hcm := hsbR.2.2.1
  have hcl := hsbR.2.1
  clear hsbR hbl
  subst hvR
  go_wp2_with fail
  go_loopw [9, 10] (fun v9 v10 wr => ∃ j : Nat, j ≤ n ∧ v10 = .int .i64 j ∧ wr.ownsRow w.heap.size 48 1 v9 j ((nums l j k).map (Value.int .u64)) ∧ wr.ownsRow w.heap.size 4 1 (.slice aoR (8 * len) capR) (8 * len) (Vb (A.bitsB l)) ∧ Below w.heap.size w wr) (fun _ v10 _ => n - (intOf v10).toNat)
  case atStart => exact ⟨0, Nat.zero_le _, rfl, World.ownsRow_nil _ _ _ _, hoR, hb1⟩
  case round =>
    obtain ⟨j, hj, rfl, hown, hoR2, hbr⟩ := hrel
    have hsz := hbr.size
    by_cases hlt : j < n
    · have hM := HT0.out j hlt
      have hij : (j : Int) * (k : Int) = ((j * k : Nat) : Int) := (Int.natCast_mul j k).symm
      obtain ⟨M, hMe⟩ : ∃ M, j * k = M := ⟨_, rfl⟩
      rw [hMe] at hM hij
      have HM := hide hMe
      have HSB := hide (Sb.of_slice HBL.out hoR2)
      have HO := hide hown
      have HOR := hide hoR2
      have HB := hide hbr
      clear hMe hown hoR2 hbr hoR hb1
      have hkM : k ≤ 8 * len - M := by omega
      have HNS := hide (nums_succ l j k)
      by_cases hcM : capR = M
      case pos =>
        subst hcM
        have hz : 8 * len - capR = 0 := by omega
        have HC := hide (Sb.cut_end HSB.out)
        rw [hz] at HC hkM
        clear hz
        go_wp2_with fail
        refine (brget_any _ _ _ _ k _ HC.out HC.out.2.2.1 hk hkM).mono ?_
        rintro e w2 ⟨aoG, capG, rfl, _, _, _, hkp⟩
        have ho2 := owns_of_block HO.out (fun g hg => hkp.block g (owns_lt HO.out hg).2 (by simp))
        have hoR3 := owns_of_block HOR.out (fun g hg => hkp.block g (owns_lt HOR.out hg).2 (by simp))
        have hb2 : Below w.heap.size w w2 := HB.out.trans (hkp.below hsz (by simp))
        have hs2 := hb2.size
        rw [getV_drop]
        have HOR3 := hide hoR3
        clear hkp hoR3
        go_wp2_with (at_builtin; refine wpList_append_to rfl (.tmp 62) (.tmp 64) 35 rfl w.heap.size 48 i0 (.int .u64 0) 1 8 Tryz.underlying35 hi0 hz0 hz1 hz2 rfl (by decide) _ _ _ rfl (ho2.alloc _) (some ⟨w2.heap.size, 0, none⟩) 1 1 [.int .u64 ((getV l capR k : Nat) : Int)] rfl (by simp) rfl (Sl.news1 _ _) (one_oneCell _ _) (by unfold maxLen; omega) (by omega) (by simp; omega) ?_)
        intro v' w3 hown3 has3
        have hk3 := ((Kept.refl (fun g => u9.ownBlock = some g) w2).alloc _).trans has3.1
        have ho3 := owns_of_block HOR3.out (fun g hg => hk3.block g (owns_lt HOR3.out hg).2 (owns_ne HOR3.out ho2 (by decide) hg))
        have hb3 : Below w.heap.size w w3 := hb2.trans (hk3.below hs2 (fun g hg => (owns_lt ho2 hg).1))
        clear has3 hk3
        go_wp2
        go_roundw
        case rel => exact ⟨j + 1, by omega, by go_num, by rw [HNS.out, HM.out, List.map_append]; exact hown3, ho3, hb3⟩
        case measure => simp [intOf]; omega
      case neg =>
        have HC := hide (HSB.out.cut_in (M := M) (by omega))
        go_wp2_with fail
        refine (brget_any _ _ _ _ k _ HC.out HC.out.2.2.1 hk hkM).mono ?_
        rintro e w2 ⟨aoG, capG, rfl, _, _, _, hkp⟩
        have ho2 := owns_of_block HO.out (fun g hg => hkp.block g (owns_lt HO.out hg).2 (by simp))
        have hoR3 := owns_of_block HOR.out (fun g hg => hkp.block g (owns_lt HOR.out hg).2 (by simp))
        have hb2 : Below w.heap.size w w2 := HB.out.trans (hkp.below hsz (by simp))
        have hs2 := hb2.size
        rw [getV_drop]
        have HOR3 := hide hoR3
        clear hkp hoR3
        go_wp2_with (at_builtin; refine wpList_append_to rfl (.tmp 62) (.tmp 64) 35 rfl w.heap.size 48 i0 (.int .u64 0) 1 8 Tryz.underlying35 hi0 hz0 hz1 hz2 rfl (by decide) _ _ _ rfl (ho2.alloc _) (some ⟨w2.heap.size, 0, none⟩) 1 1 [.int .u64 ((getV l M k : Nat) : Int)] rfl (by simp) rfl (Sl.news1 _ _) (one_oneCell _ _) (by unfold maxLen; omega) (by omega) (by simp; omega) ?_)
        intro v' w3 hown3 has3
        have hk3 := ((Kept.refl (fun g => u9.ownBlock = some g) w2).alloc _).trans has3.1
        have ho3 := owns_of_block HOR3.out (fun g hg => hk3.block g (owns_lt HOR3.out hg).2 (owns_ne HOR3.out ho2 (by decide) hg))
        have hb3 : Below w.heap.size w w3 := hb2.trans (hk3.below hs2 (fun g hg => (owns_lt ho2 hg).1))
        clear has3 hk3
        go_wp2
        go_roundw
        case rel => exact ⟨j + 1, by omega, by go_num, by rw [HNS.out, HM.out, List.map_append]; exact hown3, ho3, hb3⟩
        case measure => simp [intOf]; omega
    · have hjn : j = n := by omega
      subst hjn
      have HSB := hide (Sb.of_slice HBL.out hoR2)
      have HO := hide hown
      have HB := hide hbr
      clear hown hoR2 hbr hoR hb1
      have hsz := HB.out.size
      go_wp2_with fail
      go_loop [14] (fun v14 => ∃ i : Nat, N ≤ i ∧ i ≤ 8 * len ∧ v14 = .int .i64 i ∧ Hid (∀ t, N ≤ t → t < i → (A.bitsB l).getD t false = false)) (fun v14 => 8 * len - (intOf v14).toNat)
      case atStart => exact ⟨N, Nat.le_refl _, hge, rfl, fun t h1 h2 => by omega⟩
      case round =>
        obtain ⟨i, hi1, hi2, rfl, hall⟩ := hrel
        by_cases hlt2 : i < 8 * len
        · obtain ⟨b, off, hao, hblt, hc⟩ : ∃ b off, aoR = some ⟨b, off, none⟩ ∧ b < wr.heap.size ∧ ∀ t, t < 8 * len → wr.cell? ⟨b, off + t, none⟩ = some (.bool ((A.bitsB l).getD t false)) := by
            rcases HSB.out.2.2.2.2 with h | h
            · omega
            · exact h
          have hck := hc i hlt2
          obtain ⟨t, hte⟩ : ∃ t, (A.bitsB l).getD i false = t := ⟨_, rfl⟩
          rw [hte] at hck
          have HTE := hide hte
          clear hc hte
          subst hao
          cases t with
          | false =>
            go_wp2
            go_round
            case rel =>
              refine ⟨i + 1, by omega, by omega, by go_num, fun t h1 h2 => ?_⟩
              by_cases hti : t = i
              · subst hti; exact HTE.out
              · exact hall t h1 (by omega)
            case measure => simp [intOf]; omega
          | true =>
            go_wp2
            go_ret2
            refine .inr ⟨?_, rfl, HB.out⟩
            have hL : l.length = (N + 7) / 8 := by rw [HLL.out, ← HLEN.out]
            refine jb_four l N hL fun hj0 => ?_
            have := tail_false l N hL hj0 i hi1 (by rw [HLL.out]; exact hlt2)
            rw [HTE.out] at this
            exact absurd this (by simp)
        · have hie : i = 8 * len := by omega
          subst hie
          go_wp2
          go_ret2
          refine .inl ⟨?_, _, rfl, HO.out, HB.out⟩
          have hL : l.length = (N + 7) / 8 := by rw [HLL.out, ← HLEN.out]
          exact tail_zero l N hL H2.out fun t h1 h2 => hall t h1 (by rw [← HLL.out]; exact h2)

/-- The document's Unpack. -/
theorem runpack_any (ao : Option Addr) (len cap : Nat) (l : List Nat) (n k : Nat) (w : World) (h : Sl w .u8 ao len cap (ints l)) (h256 : ∀ x ∈ l, x < 256) (hm : len ≤ 140737488355328) (hn : n ≤ 1048576) (hk : k ≤ 64) :
    Calls Tryz.prog 36 #[.slice ao len cap, .int .i64 n, .int .i64 k] w fun e w' =>
      (jb l (n * k) = 0 ∧ ∃ v', e = .returned (.tuple #[v', .int .i64 0]) ∧ w'.ownsRow w.heap.size 48 1 v' n ((nums l n k).map (Value.int .u64)) ∧ Below w.heap.size w w') ∨
      (jb l (n * k) ≠ 0 ∧ e = .returned (.tuple #[.slice none 0 0, .int .i64 ((jb l (n * k) : Nat) : Int)]) ∧ Below w.heap.size w w') := by
  have hll : l.length = len := by rw [← h.1, ints_length]
  by_cases hlen : len = (n * k + 7) / 8
  · refine (runpack_rest ao len cap l n k w h h256 hm hn hk hlen).mono ?_
    rintro e w' (h1 | ⟨h1, h2, h3⟩)
    · exact .inl h1
    · refine .inr ⟨by rw [h1]; omega, ?_, h3⟩
      rw [h1]; exact h2
  · refine (runpack_len ao len cap l n k w hll hm hn hk hlen).mono ?_
    rintro e w' ⟨rfl, rfl⟩
    refine .inr ⟨fun h0 => hlen ?_, rfl, Below.refl _ _⟩
    rw [← hll]; exact (jb_zero h0).1
end Go.Proofs.YtmhfpipeoojacaaGreat
/- Plain facts: what was packed is unpacked, what is unpacked is packed as the very bytes; the walks of the two statements that say so. -/
namespace Go.Proofs.YtmhfpipeoojacaaGreat
set_option linter.unusedVariables false
set_option maxRecDepth 10000
open Go.RowKit

end Go.Proofs.YtmhfpipeoojacaaGreat
/- The walk of the statement: what was packed is unpacked. -/
namespace Go.Proofs.YtmhfpipeoojacaaGreat
set_option linter.unusedVariables false
set_option maxRecDepth 10000
open Go.RowKit

/-- Pack, with a width that may be, as a whole number. -/
theorem pack_i (ao : Option Addr) (len cap : Nat) (l : List Int) (k : Int) (w : World) (h : Sl w .u64 ao len cap l) (hm : len * 64 + 64 < 1099511627776) (hin : In64 l) (hk0 : 0 ≤ k) (hk : k ≤ 64) :
    Calls Tryz.prog 20 #[.slice ao len cap, .int .i64 k] w fun e w' =>
      (Fit l k.toNat ∧ ∃ v', e = .returned (.tuple #[v', .int .i64 0]) ∧ w'.ownsRow w.heap.size 5 1 v' (A.bytesOf (bitsAll l k.toNat)).length (B8 (A.bytesOf (bitsAll l k.toNat))) ∧ Below w.heap.size w w') ∨
      (¬ Fit l k.toNat ∧ e = .returned (.tuple #[.slice none 0 0, .int .i64 1]) ∧ Below w.heap.size w w') := by
  obtain ⟨j, rfl⟩ := Int.eq_ofNat_of_zero_le hk0
  rw [Int.toNat_natCast]
  exact pack_any ao len cap l j w h hm hin (by omega)

/-- Unpack of what was packed. -/
theorem unpack_pack (ao : Option Addr) (len cap : Nat) (l : List Int) (n k : Int) (w : World) (h : Sl w .u8 ao len cap (ints (A.bytesOf (bitsAll l k.toNat)))) (hl : n = (l.length : Int)) (hm : l.length ≤ 1048576) (hin : In64 l) (hk0 : 0 ≤ k) (hk : k ≤ 64) (hf : Fit l k.toNat) :
    Calls Tryz.prog 31 #[.slice ao len cap, .int .i64 n, .int .i64 k] w fun e w' => ∃ v', e = .returned (.tuple #[v', .int .i64 0]) ∧ w'.ownsRow w.heap.size 48 1 v' l.length (l.map (Value.int .u64)) ∧ Below w.heap.size w w' := by
  subst hl
  obtain ⟨j, rfl⟩ := Int.eq_ofNat_of_zero_le hk0
  rw [Int.toNat_natCast] at h hf
  have hbl := bitsAll_length l j
  have hj : jb (A.bytesOf (bitsAll l j)) (l.length * j) = 0 := by rw [← hbl]; exact jb_bytes _
  have hlen : len = (A.bytesOf (bitsAll l j)).length := by rw [← h.1, ints_length]
  rw [A.bytesOf_length, hbl] at hlen
  have hmul : l.length * j ≤ 1048576 * 64 := Nat.mul_le_mul hm (by omega)
  have := unpack_yes ao len cap (A.bytesOf (bitsAll l j)) l.length j w h (A.bytesOf_lt _) (by omega) hm (by omega) hj
  rw [nums_pack l j hin hf] at this
  exact this

/-- Pack, with a bit less than the numbers need. -/
theorem pack_less (ao : Option Addr) (len cap : Nat) (l : List Int) (w : World) (h : Sl w .u64 ao len cap l) (hm : len * 64 + 64 < 1099511627776) (hin : In64 l) :
    Calls Tryz.prog 20 #[.slice ao len cap, .int .i64 ((wid l : Int) - 1)] w fun e w' => e = .returned (.tuple #[.slice none 0 0, .int .i64 1]) ∧ Below w.heap.size w w' := by
  have hw := wid_le l hin
  by_cases h0 : wid l = 0
  · refine (pack_arg ao len cap _ w (.inl (by omega))).mono ?_
    rintro e w' ⟨rfl, rfl⟩
    exact ⟨rfl, Below.refl _ _⟩
  · refine (pack_i ao len cap l _ w h hm hin (by omega) (by omega)).mono ?_
    rintro e w' (⟨hf, _⟩ | ⟨_, rfl, hb⟩)
    · have := (fit_wid l _ hin).1 hf
      omega
    · exact ⟨rfl, hb⟩

end Go.Proofs.YtmhfpipeoojacaaGreat
/- The walk of the statement: what is unpacked is packed as the very bytes. -/
namespace Go.Proofs.YtmhfpipeoojacaaGreat
set_option linter.unusedVariables false
set_option maxRecDepth 10000
open Go.RowKit

/-- Unpack, where the bytes aren't just so many bits. -/
theorem unpack_bad (ao : Option Addr) (len cap : Nat) (l : List Nat) (n k : Int) (w : World) (h : Sl w .u8 ao len cap (ints l)) (hm : len ≤ 140737488355328) (hn0 : 0 ≤ n) (hn : n ≤ 1048576) (hk0 : 0 ≤ k) (hk : k ≤ 64) (c : Int) (hj : ((jb l (n.toNat * k.toNat) : Nat) : Int) = c) (hc : c ≠ 0) :
    Calls Tryz.prog 31 #[.slice ao len cap, .int .i64 n, .int .i64 k] w fun e w' => e = .returned (.tuple #[.slice none 0 0, .int .i64 c]) ∧ w' = w := by
  obtain ⟨i, rfl⟩ := Int.eq_ofNat_of_zero_le hn0
  obtain ⟨j, rfl⟩ := Int.eq_ofNat_of_zero_le hk0
  rw [Int.toNat_natCast, Int.toNat_natCast] at hj
  rw [← hj]
  exact unpack_no ao len cap l i j w h hm (by omega) (by omega) (by omega)

/-- Unpack, where they are. -/
theorem unpack_good (ao : Option Addr) (len cap : Nat) (l : List Nat) (n k : Int) (w : World) (h : Sl w .u8 ao len cap (ints l)) (h256 : ∀ x ∈ l, x < 256) (hm : len ≤ 140737488355328) (hn0 : 0 ≤ n) (hn : n ≤ 1048576) (hk0 : 0 ≤ k) (hk : k ≤ 64) (hj : jb l (n.toNat * k.toNat) = 0) :
    Calls Tryz.prog 31 #[.slice ao len cap, .int .i64 n, .int .i64 k] w fun e w' => ∃ v', e = .returned (.tuple #[v', .int .i64 0]) ∧ w'.ownsRow w.heap.size 48 1 v' n.toNat ((nums l n.toNat k.toNat).map (Value.int .u64)) ∧ Below w.heap.size w w' := by
  obtain ⟨i, rfl⟩ := Int.eq_ofNat_of_zero_le hn0
  obtain ⟨j, rfl⟩ := Int.eq_ofNat_of_zero_le hk0
  rw [Int.toNat_natCast, Int.toNat_natCast] at hj
  rw [Int.toNat_natCast, Int.toNat_natCast]
  exact unpack_yes ao len cap l i j w h h256 hm (by omega) (by omega) hj

end Go.Proofs.YtmhfpipeoojacaaGreat
/- Pack and Unpack, the program's and the document's, each under one name; the walk of the statement that they are the same. -/
namespace Go.Proofs.YtmhfpipeoojacaaGreat
set_option linter.unusedVariables false
set_option maxRecDepth 10000
open Go.RowKit

theorem pack_u (ao : Option Addr) (len cap : Nat) (l : List Int) (k : Int) (w : World) (h : Sl w .u64 ao len cap l) (hm : len * 64 + 64 < 1099511627776) (hin : In64 l) :
    Calls Tryz.prog 20 #[.slice ao len cap, .int .i64 k] w fun e w' => ∃ v, e = .returned (.tuple #[v, .int .i64 (packC l k)]) ∧ w'.ownsRow w.heap.size 5 1 v (packB l k).length (B8 (packB l k)) ∧ Below w.heap.size w w' := by
  by_cases hk : 0 ≤ k ∧ k ≤ 64
  · refine (pack_i ao len cap l k w h hm hin hk.1 hk.2).mono ?_
    rintro e w' (⟨hf, v, rfl, ho, hb⟩ | ⟨hf, rfl, hb⟩)
    · rw [packC, packB, packOk_yes hk.1 hk.2 hf, if_pos rfl, if_pos rfl]
      exact ⟨v, rfl, ho, hb⟩
    · rw [packC, packB, packOk_no (.inr (.inr hf)), if_neg (by simp), if_neg (by simp)]
      exact ⟨_, rfl, World.ownsRow_nil _ _ _ _, hb⟩
  · refine (pack_arg ao len cap k w (by omega)).mono ?_
    rintro e w' ⟨rfl, rfl⟩
    rw [packC, packB, packOk_no (by omega), if_neg (by simp), if_neg (by simp)]
    exact ⟨_, rfl, World.ownsRow_nil _ _ _ _, Below.refl _ _⟩

theorem rpack_u (ao : Option Addr) (len cap : Nat) (l : List Int) (k : Int) (w : World) (h : Sl w .u64 ao len cap l) (hm : len * 64 + 64 < 1099511627776) (hin : In64 l) :
    Calls Tryz.prog 28 #[.slice ao len cap, .int .i64 k] w fun e w' => ∃ v, e = .returned (.tuple #[v, .int .i64 (packC l k)]) ∧ w'.ownsRow w.heap.size 5 1 v (packB l k).length (B8 (packB l k)) ∧ Below w.heap.size w w' := by
  by_cases hk : 0 ≤ k ∧ k ≤ 64
  · obtain ⟨j, hj⟩ := Int.eq_ofNat_of_zero_le hk.1
    have hj' : k.toNat = j := by omega
    have hp := rpack_any ao len cap l j w h hm hin (by omega)
    rw [← hj] at hp
    refine hp.mono ?_
    rintro e w' (⟨hf, v, rfl, ho, hb⟩ | ⟨hf, rfl, hb⟩)
    · rw [packC, packB, packOk_yes hk.1 hk.2 (by rw [hj']; exact hf), if_pos rfl, if_pos rfl, hj']
      exact ⟨v, rfl, ho, hb⟩
    · rw [packC, packB, packOk_no (.inr (.inr (by rw [hj']; exact hf))), if_neg (by simp), if_neg (by simp)]
      exact ⟨_, rfl, World.ownsRow_nil _ _ _ _, hb⟩
  · refine (rpack_arg ao len cap k w (by omega)).mono ?_
    rintro e w' ⟨rfl, rfl⟩
    rw [packC, packB, packOk_no (by omega), if_neg (by simp), if_neg (by simp)]
    exact ⟨_, rfl, World.ownsRow_nil _ _ _ _, Below.refl _ _⟩

theorem unpack_u (ao : Option Addr) (len cap : Nat) (l : List Nat) (n k : Int) (w : World) (h : Sl w .u8 ao len cap (ints l)) (h256 : ∀ x ∈ l, x < 256) (hm : len ≤ 140737488355328) :
    Calls Tryz.prog 31 #[.slice ao len cap, .int .i64 n, .int .i64 k] w fun e w' => ∃ v, e = .returned (.tuple #[v, .int .i64 (unpC l n k)]) ∧ w'.ownsRow w.heap.size 48 1 v (unpL l n k).length ((unpL l n k).map (Value.int .u64)) ∧ Below w.heap.size w w' := by
  by_cases ha : unpArg n k = true
  · obtain ⟨h0, h1, h2, h3⟩ := (unpArg_iff n k).1 ha
    by_cases hj : jb l (n.toNat * k.toNat) = 0
    · refine (unpack_good ao len cap l n k w h h256 (by omega) h2 h3 h0 h1 hj).mono ?_
      rintro e w' ⟨v, rfl, ho, hb⟩
      rw [unpC, unpL, ha, hj, if_pos rfl, if_pos (by simp), nums_length]
      exact ⟨v, rfl, ho, hb⟩
    · refine (unpack_bad ao len cap l n k w h (by omega) h2 h3 h0 h1 _ rfl (by omega)).mono ?_
      rintro e w' ⟨rfl, rfl⟩
      rw [unpC, unpL, ha, if_pos rfl, if_neg (by simp [hj])]
      exact ⟨_, rfl, World.ownsRow_nil _ _ _ _, Below.refl _ _⟩
  · have hn : ¬ (0 ≤ k ∧ k ≤ 64 ∧ 0 ≤ n ∧ n ≤ 1048576) := fun h => ha ((unpArg_iff n k).2 h)
    refine (unpack_arg ao len cap n k w (by omega)).mono ?_
    rintro e w' ⟨rfl, rfl⟩
    rw [unpC, unpL, if_neg ha, if_neg (by simp [ha])]
    exact ⟨_, rfl, World.ownsRow_nil _ _ _ _, Below.refl _ _⟩

theorem runpack_u (ao : Option Addr) (len cap : Nat) (l : List Nat) (n k : Int) (w : World) (h : Sl w .u8 ao len cap (ints l)) (h256 : ∀ x ∈ l, x < 256) (hm : len ≤ 140737488355328) :
    Calls Tryz.prog 36 #[.slice ao len cap, .int .i64 n, .int .i64 k] w fun e w' => ∃ v, e = .returned (.tuple #[v, .int .i64 (unpC l n k)]) ∧ w'.ownsRow w.heap.size 48 1 v (unpL l n k).length ((unpL l n k).map (Value.int .u64)) ∧ Below w.heap.size w w' := by
  by_cases ha : unpArg n k = true
  · obtain ⟨h0, h1, h2, h3⟩ := (unpArg_iff n k).1 ha
    obtain ⟨i, rfl⟩ := Int.eq_ofNat_of_zero_le h2
    obtain ⟨j, rfl⟩ := Int.eq_ofNat_of_zero_le h0
    refine (runpack_any ao len cap l i j w h h256 hm (by omega) (by omega)).mono ?_
    rintro e w' (⟨hj, v, rfl, ho, hb⟩ | ⟨hj, rfl, hb⟩)
    · rw [unpC, unpL, ha, Int.toNat_natCast, Int.toNat_natCast, hj, if_pos rfl, if_pos (by simp), nums_length]
      exact ⟨v, rfl, ho, hb⟩
    · rw [unpC, unpL, ha, Int.toNat_natCast, Int.toNat_natCast, if_pos rfl, if_neg (by simp [hj])]
      exact ⟨_, rfl, World.ownsRow_nil _ _ _ _, hb⟩
  · have hn : ¬ (0 ≤ k ∧ k ≤ 64 ∧ 0 ≤ n ∧ n ≤ 1048576) := fun h => ha ((unpArg_iff n k).2 h)
    refine (runpack_arg ao len cap n k w (by omega)).mono ?_
    rintro e w' ⟨rfl, rfl⟩
    rw [unpC, unpL, if_neg ha, if_neg (by simp [ha])]
    exact ⟨_, rfl, World.ownsRow_nil _ _ _ _, Below.refl _ _⟩

end Go.Proofs.YtmhfpipeoojacaaGreat

/- The contracts of the document's answer for bits: Get, Unpack. -/
import Derived.Test.YtbgofbajihdjdaaF3
namespace Go.Proofs.Ytbgofbajihdjdaa
set_option linter.unusedVariables false
open Go.RowKit

/-- The number of so many bits' last ones. -/
def topV (bs : List Bool) (k j : Nat) : Nat := A.valOf ((bs.take k).drop (k - j))
theorem topV_zero (bs : List Bool) (k : Nat) : topV bs k 0 = 0 := by
  unfold topV; rw [List.drop_of_length_le (by rw [List.length_take]; omega)]; rfl
theorem topV_all (bs : List Bool) (k : Nat) : topV bs k k = A.valOf (bs.take k) := by unfold topV; simp
theorem topV_succ (bs : List Bool) (k j : Nat) (hk : k ≤ bs.length) (hj : j < k) : topV bs k (j + 1) = 2 * topV bs k j + (bs.getD (k - 1 - j) false).toNat := by
  unfold topV
  have hl : k - (j + 1) < (bs.take k).length := by rw [List.length_take]; omega
  rw [← List.getElem_cons_drop (h := hl), show k - (j + 1) + 1 = k - j by omega]
  simp only [A.valOf]
  have e : (bs.take k)[k - (j + 1)] = bs.getD (k - 1 - j) false := by
    simp [List.getD, show k - 1 - j < bs.length by omega, show k - (j + 1) = k - 1 - j by omega]
  rw [e]; omega
theorem topV_lt (bs : List Bool) (k j : Nat) (hj : j ≤ k) : topV bs k j < 2 ^ j := by
  unfold topV
  have h1 := A.valOf_lt ((bs.take k).drop (k - j))
  have h2 : ((bs.take k).drop (k - j)).length ≤ j := by rw [List.length_drop, List.length_take]; omega
  exact Nat.lt_of_lt_of_le h1 (Nat.pow_le_pow_right (by omega) h2)

set_option maxHeartbeats 400000 in
theorem rget_arg (ao : Option Addr) (len cap : Nat) (k : Int) (w : World) (h : k < 0 ∨ 64 < k) :
    Calls Try.prog 36 #[.slice ao len cap, .int .i64 k] w fun e w' => e = .returned (.tuple #[.int .u64 0, .slice ao len cap, .int .i64 1]) ∧ w' = w := by
  rcases (show k < 0 ∨ (0 ≤ k ∧ 64 < k) by omega) with h1 | ⟨h1, h2⟩
  all_goals
    clear h
    go_enter Try.func36, Try.ntmps36
    go_wp2
    go_ret3
    exact ⟨rfl, rfl⟩

set_option maxHeartbeats 400000 in
theorem rget_short (ao : Option Addr) (len cap : Nat) (k : Nat) (w : World) (hk : k ≤ 64) (h : len < k) :
    Calls Try.prog 36 #[.slice ao len cap, .int .i64 k] w fun e w' => e = .returned (.tuple #[.int .u64 0, .slice ao len cap, .int .i64 3]) ∧ w' = w := by
  go_enter Try.func36, Try.ntmps36
  go_wp2
  go_ret3
  exact ⟨rfl, rfl⟩

set_option maxHeartbeats 400000 in
theorem rget_zero (ao : Option Addr) (len cap : Nat) (w : World) (hlc : len ≤ cap) (hm : cap ≤ maxLen) :
    Calls Try.prog 36 #[.slice ao len cap, .int .i64 0] w fun e w' => e = .returned (.tuple #[.int .u64 0, .slice ao len cap, .int .i64 0]) ∧ Kept (fun _ => False) w w' := by
  unfold maxLen at hm
  go_enter Try.func36, Try.ntmps36
  go_wp2_with fail
  go_loop [7, 8] (fun v7 v8 => v7 = .int .u64 0 ∧ v8 = .int .i64 (-1)) (fun _ _ => 0)
  case atStart => exact ⟨rfl, rfl⟩
  case round =>
    obtain ⟨rfl, rfl⟩ := hrel
    go_wp2
    go_region
    all_goals go_wp2
    all_goals
      go_ret3
      exact ⟨rfl, (Kept.refl _ _).drew⟩

set_option maxHeartbeats 1000000 in
theorem rget_some (b off len cap : Nat) (bs : List Bool) (k : Nat) (w : World) (hl : bs.length = len) (hlc : len ≤ cap) (hm : cap ≤ maxLen) (hb : b < w.heap.size) (hc : ∀ i, i < len → w.cell? ⟨b, off + i, none⟩ = some (.bool (bs.getD i false))) (hk0 : 0 < k) (hk : k ≤ 64) (hkl : k ≤ len) :
    Calls Try.prog 36 #[.slice (some ⟨b, off, none⟩) len cap, .int .i64 k] w fun e w' => e = .returned (.tuple #[.int .u64 ((A.valOf (bs.take k) : Nat) : Int), .slice (if cap = k then some ⟨b, off, none⟩ else some ⟨b, off + k, none⟩) (len - k) (cap - k), .int .i64 0]) ∧ Kept (fun _ => False) w w' := by
  unfold maxLen at hm
  have HL := hide hl
  have hd1 : decide ((k : Int) < 0) = false := by simp
  have hd2 : decide ((len : Int) < (k : Int)) = false := by simp; omega
  clear hl
  go_enter Try.func36, Try.ntmps36
  go_wp2_with fail
  go_loop [7, 8] (fun v7 v8 => ∃ j : Nat, j ≤ k ∧ v8 = .int .i64 ((k : Int) - 1 - j) ∧ v7 = .int .u64 ((topV bs k j : Nat) : Int)) (fun _ v8 => (intOf v8 + 1).toNat)
  case atStart => exact ⟨0, Nat.zero_le _, by go_num, by rw [topV_zero]; rfl⟩
  case round =>
    obtain ⟨j, hj, rfl, rfl⟩ := hrel
    by_cases hlt : j < k
    · have hck := hc (k - 1 - j) (by omega)
      have HS := hide (topV_succ bs k j (by rw [HL.out]; exact hkl) hlt)
      have hv := topV_lt bs k j hj
      have hp : 2 ^ j ≤ 2 ^ 63 := Nat.pow_le_pow_right (by omega) (by omega)
      obtain ⟨T, hT, hT0, hT1⟩ : ∃ T : Int, ((topV bs k j : Nat) : Int) = T ∧ 0 ≤ T ∧ T < 9223372036854775808 := ⟨_, rfl, by omega, by omega⟩
      obtain ⟨t, hte⟩ : ∃ t, bs.getD (k - 1 - j) false = t := ⟨_, rfl⟩
      rw [hte] at hck HS
      have HT := hide hT
      rw [hT]
      have e1 : ((k : Int) - 1 - j).toNat = k - 1 - j := by omega
      clear hc hte hv hp hT
      cases t with
      | false =>
        go_wp2
        go_round
        case rel => exact ⟨j + 1, by omega, by go_num, by rw [HS.out, Int.natCast_add, Int.natCast_mul, HT.out]; simp⟩
        case measure => simp [intOf]; omega
      | true =>
        go_wp2
        go_round
        case rel => exact ⟨j + 1, by omega, by go_num, by rw [HS.out, Int.natCast_add, Int.natCast_mul, HT.out]; go_num⟩
        case measure => simp [intOf]; omega
    · have hjk : j = k := by omega
      subst hjk
      rw [topV_all]
      clear hc
      go_wp2
      go_region
      all_goals go_wp2
      all_goals
        go_ret3
        exact ⟨rfl, (Kept.refl _ _).drew⟩

/-- The document's Get, where there are enough bits. -/
theorem rget_any (ao : Option Addr) (len cap : Nat) (bs : List Bool) (k : Nat) (w : World) (h : Sb w ao len cap bs) (hm : cap ≤ maxLen) (hk : k ≤ 64) (hkl : k ≤ len) :
    Calls Try.prog 36 #[.slice ao len cap, .int .i64 k] w fun e w' => ∃ ao' cap', e = .returned (.tuple #[.int .u64 ((A.valOf (bs.take k) : Nat) : Int), .slice ao' (len - k) cap', .int .i64 0]) ∧ Sb w' ao' (len - k) cap' (bs.drop k) ∧ cap' ≤ cap ∧ (∀ x, ao' = some x → ∃ y, ao = some y ∧ x.block = y.block) ∧ Kept (fun _ => False) w w' := by
  have h0 := h
  obtain ⟨h1, h2, h3, h4, h5⟩ := h
  by_cases hk0 : k = 0
  · subst hk0
    refine (rget_zero ao len cap w h2 hm).mono ?_
    rintro e w' ⟨rfl, hkp⟩
    exact ⟨ao, cap, rfl, h0.kept hkp (by simp), Nat.le_refl _, fun x hx => ⟨x, hx, rfl⟩, hkp⟩
  · rcases h5 with h5 | ⟨b, off, rfl, hlt, h5⟩
    · omega
    · refine (rget_some b off len cap bs k w h1 h2 hm hlt h5 (by omega) hk hkl).mono ?_
      rintro e w' ⟨rfl, hkp⟩
      refine ⟨_, cap - k, rfl, ?_, by omega, ?_, hkp⟩
      · refine ⟨by rw [List.length_drop]; omega, by omega, by omega, by intro h; split at h <;> simp at h, ?_⟩
        by_cases hck : cap = k
        · exact .inl (by omega)
        · right
          refine ⟨b, off + k, by rw [if_neg hck], by have := hkp.size; omega, fun i hi => ?_⟩
          rw [hkp.cell (p := ⟨b, off + k + i, none⟩) hlt (by simp), Nat.add_assoc, h5 (k + i) (by omega)]
          simp [List.getD]
      · intro x hx
        refine ⟨_, rfl, ?_⟩
        split at hx <;> (obtain rfl := Option.some.inj hx; rfl)
end Go.Proofs.Ytbgofbajihdjdaa

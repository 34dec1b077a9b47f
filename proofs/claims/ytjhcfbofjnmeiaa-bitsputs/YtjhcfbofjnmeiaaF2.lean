/- The contracts of the document's answer for bits: Width, Pack. -/
import Derived.Test.YtjhcfbofjnmeiaaF1
namespace Go.Proofs.Ytjhcfbofjnmeiaa
set_option linter.unusedVariables false
open Go.RowKit

theorem fits_iff (x : Int) (k : Nat) (h0 : 0 ≤ x) : (sh x.toNat k == 0) = decide (x < (2 : Int) ^ k) := by
  have hp : 0 < 2 ^ k := Nat.two_pow_pos k
  rw [Bool.eq_iff_iff, beq_iff_eq, decide_eq_true_iff, ← pow_int]
  unfold sh
  constructor
  · intro h
    rcases Nat.div_eq_zero_iff.1 h with h1 | h1 <;> omega
  · intro h
    exact Nat.div_eq_of_lt (by omega)

/-- Fits, of a number as it lies in memory. -/
theorem rfits_i (x : Int) (k : Int) (b : Bool) (w : World) (h0 : 0 ≤ x) (hn : x < 18446744073709551616) (hk0 : 0 ≤ k) (hk : k ≤ 64) (hb : decide (x < (2 : Int) ^ k.toNat) = b) :
    Calls Try.prog 30 #[.int .u64 x, .int .i64 k] w fun e w' => e = .returned (.bool b) ∧ w' = w := by
  have hb2 := fits_iff x k.toNat h0
  obtain ⟨n, rfl⟩ := Int.eq_ofNat_of_zero_le h0
  obtain ⟨j, rfl⟩ := Int.eq_ofNat_of_zero_le hk0
  simp only [Int.toNat_natCast] at hb hb2
  exact rfits_any n j b w hn (by omega) (hb2.trans hb)

/-- Whether all of the first numbers are below a power. -/
def allFit (l : List Int) (k j : Nat) : Bool := (l.take j).all fun x => decide (x < (2 : Int) ^ k)
theorem allFit_succ (l : List Int) (k j : Nat) (h : j < l.length) : allFit l k (j + 1) = (allFit l k j && decide (l.getD j 0 < (2 : Int) ^ k)) := by
  unfold allFit; rw [take_snocD l j h]; simp
theorem allFit_all (l : List Int) (k : Nat) : allFit l k l.length = true ↔ Fit l k := by
  unfold allFit Fit; simp

set_option maxHeartbeats 1000000 in
theorem rwidth_any (ao : Option Addr) (len cap : Nat) (l : List Int) (w : World) (h : Sl w .u64 ao len cap l) (hm : len ≤ 140737488355328) (hin : In64 l) :
    Calls Try.prog 27 #[.slice ao len cap] w fun e w' => e = .returned (.int .i64 ((wid l : Nat) : Int)) ∧ w' = w := by
  have hwl := wid_le l hin
  have HF : Hid (∀ k, Fit l k ↔ wid l ≤ k) := fun k => fit_wid l k hin
  have HSL := hide h
  have HIN := hide hin
  have HL := hide h.1
  clear h hin
  go_enter Try.func27, Try.ntmps27
  go_wp2_with fail
  go_loop [3] (fun v3 => ∃ q : Nat, q ≤ wid l ∧ v3 = .int .i64 q) (fun v3 => 64 - (intOf v3).toNat)
  case atStart => exact ⟨0, Nat.zero_le _, rfl⟩
  case round =>
    obtain ⟨q, hq, rfl⟩ := hrel
    by_cases hq64 : q < 64
    · go_wp2_with fail
      go_loop [4, 5] (fun v4 v5 => ∃ j : Nat, j ≤ len ∧ v5 = .int .i64 j ∧ v4 = .bool (allFit l q j)) (fun _ v5 => len - (intOf v5).toNat)
      case atStart => exact ⟨0, Nat.zero_le _, rfl, rfl⟩
      case round =>
        obtain ⟨j, hj, rfl, rfl⟩ := hrel
        by_cases hlt : j < len
        · obtain ⟨b, off, hao, hblt, hc⟩ : ∃ b off, ao = some ⟨b, off, none⟩ ∧ b < w.heap.size ∧ ∀ i, i < len → w.cell? ⟨b, off + i, none⟩ = some (.int .u64 (l.getD i 0)) := by
            rcases HSL.out.2.2.2.2 with h | h
            · omega
            · exact h
          have hck := hc j hlt
          obtain ⟨x0, x1⟩ := HIN.out.getD j
          have HS := hide (allFit_succ l q j (by rw [HL.out]; exact hlt))
          obtain ⟨x, hxe⟩ : ∃ x, l.getD j 0 = x := ⟨_, rfl⟩
          rw [hxe] at hck x0 x1 HS
          obtain ⟨t, hte⟩ : ∃ t, decide (x < (2 : Int) ^ q) = t := ⟨_, rfl⟩
          rw [hte] at HS
          have HT := hide hte
          obtain ⟨s, hse⟩ : ∃ s, allFit l q j = s := ⟨_, rfl⟩
          rw [hse] at HS ⊢
          clear hc hxe hte hse
          subst hao
          cases s with
          | true =>
            go_wp2_with fail
            refine (rfits_i x q t w x0 x1 (by omega) (by omega) (by rw [Int.toNat_natCast]; exact HT.out)).mono ?_
            rintro e w' ⟨rfl, rfl⟩
            go_wp2
            go_round
            case rel => exact ⟨j + 1, by omega, by go_num, by rw [HS.out]; cases t <;> rfl⟩
            case measure => simp [intOf]; omega
          | false =>
            go_wp2_with fail
            refine (rfits_i x q t w x0 x1 (by omega) (by omega) (by rw [Int.toNat_natCast]; exact HT.out)).mono ?_
            rintro e w' ⟨rfl, rfl⟩
            go_wp2
            go_round
            case rel => exact ⟨j + 1, by omega, by go_num, by rw [HS.out]; rfl⟩
            case measure => simp [intOf]; omega
        · have hjl : j = l.length := by rw [HL.out]; omega
          subst hjl
          have ha := allFit_all l q
          rw [HF.out q] at ha
          by_cases hw : wid l ≤ q
          · rw [ha.2 hw]
            have hqw : q = wid l := by omega
            subst hqw
            go_wp2
            go_ret
            exact ⟨rfl, rfl⟩
          · rw [show allFit l q l.length = false by rw [← Bool.not_eq_true]; exact fun h => hw (ha.1 h)]
            clear ha
            go_wp2
            go_round
            case rel => exact ⟨q + 1, by omega, by go_num⟩
            case measure => simp [intOf]; omega
    · have hqw : wid l = 64 := by omega
      go_wp2
      go_ret
      refine ⟨?_, rfl⟩
      first
        | rfl
        | rw [hqw]
end Go.Proofs.Ytjhcfbofjnmeiaa

/- Two lists of numbers that are the same; at most 300 of a list. -/
import Derived.Test.YtlbchdlokimpfaaBM
import Derived.BigQuiet
import Derived.WalkSmall
namespace Go.Proofs.Ytlbchdlokimpfaa
set_option linter.unusedVariables false
set_option maxRecDepth 10000
open Go.RowKit

theorem Try.mixed : Try.prog.follows .mixedOrders = true := by kernel_rfl
theorem Sl.cellI {w : World} {k : IntKind} {ao : Option Addr} {len cap : Nat} {l : List Int} (h : Sl w k ao len cap l) {t : Nat} (ht : t < len) : ∃ b off, ao = some ⟨b, off, none⟩ ∧ b < w.heap.size ∧ w.cell? ⟨b, off + t, none⟩ = some (.int k (l.getD t 0)) := by
  rcases h.2.2.2.2 with h5 | ⟨b, off, h1, h2, h3⟩
  · omega
  · exact ⟨b, off, h1, h2, h3 t ht⟩
set_option maxHeartbeats 1000000 in
theorem ints_yes (a b : Option Addr) (len ca cb : Nat) (l : List Int) (w : World) (ha : Sl w .i64 a len ca l) (hb : Sl w .i64 b len cb l) (hm : len ≤ 1099511627776) :
    Calls Try.prog 25 #[.slice a len ca, .slice b len cb] w fun e w' => e = .returned (.bool true) ∧ Below w.heap.size w w' := by
  have mixed := Try.mixed
  have HA := hide ha
  have HB := hide hb
  clear ha hb
  go_enter Try.func25, Try.ntmps25
  go_wp2_with fail
  go_loopw [5] (fun i wr => ∃ k : Nat, k ≤ len ∧ i = .int .i64 k ∧ Hid (Below w.heap.size w wr)) (fun i _ => len - (intOf i).toNat)
  case atStart => exact ⟨0, Nat.zero_le _, rfl, hide (Below.refl _ _)⟩
  case round =>
    obtain ⟨k, hk, rfl, HW⟩ := hrel
    by_cases hlt : k < len
    · obtain ⟨b1, o1, rfl, hl1, hc1⟩ := (HA.out.below HW.out).cellI hlt
      obtain ⟨b2, o2, rfl, hl2, hc2⟩ := (HB.out.below HW.out).cellI hlt
      obtain ⟨x, hx⟩ : ∃ x, l.getD k 0 = x := ⟨_, rfl⟩
      rw [hx] at hc1 hc2
      have hkl : (k : Int) < (len : Int) := by omega
      clear hx
      go_wp2_with fail
      go_quiet (fail)
      obtain ⟨wn, hwn⟩ : ∃ wn, wr.drewN nq = wn := ⟨_, rfl⟩
      have HN := hide (below_drewN HW.out nq)
      rw [hwn] at HN ⊢
      clear hwn hc1 hc2 hl1 hl2 HW
      go_wp2
      go_round
      · exact ⟨k + 1, by omega, by go_num, HN⟩
      · simp [intOf]; omega
    · obtain rfl : k = len := by omega
      go_wp2
      go_ret
      exact ⟨rfl, HW.out⟩
theorem Sl.upto {w : World} {k : IntKind} {ao : Option Addr} {len cap : Nat} {l : List Int} (h : Sl w k ao len cap l) (i : Nat) (hi : i ≤ len) : Sl w k ao i cap (l.take i) := by
  obtain ⟨h1, h2, h3, h4, h5⟩ := h
  refine ⟨by rw [List.length_take]; omega, by omega, h3, h4, ?_⟩
  rcases h5 with h5 | ⟨b, off, rfl, hlt, h5⟩
  · exact .inl (by omega)
  · refine .inr ⟨b, off, rfl, hlt, fun j hj => ?_⟩
    rw [h5 j (by omega)]
    simp [List.getD, hj]
theorem few_any (ao : Option Addr) (len cap : Nat) (l : List Int) (w : World) (h : Sl w .i64 ao len cap l) (hm : len ≤ 140737488355328) :
    Calls Try.prog 11 #[.slice ao len cap] w fun e w' => ∃ len', e = .returned (.slice ao len' cap) ∧ Sl w .i64 ao len' cap (l.take 300) ∧ len' ≤ 300 ∧ w' = w := by
  by_cases hb : 300 < len
  · have hbi : (300 : Int) < (len : Int) := by omega
    have hcap : (300 : Int) ≤ (cap : Int) := by have := h.2.1; omega
    have hu := hide (h.upto 300 (by omega))
    clear h
    go_enter Try.func11, Try.ntmps11
    go_wp2
    go_ret
    exact ⟨300, rfl, hu.out, by omega, rfl⟩
  · have hbi : ¬ ((300 : Int) < (len : Int)) := by omega
    have hu : Hid (Sl w .i64 ao len cap (l.take 300)) := by
      have := h.1
      rw [List.take_of_length_le (by omega)]; exact hide h
    clear h
    go_enter Try.func11, Try.ntmps11
    go_wp2
    go_ret
    exact ⟨len, rfl, hu.out, by omega, rfl⟩
end Go.Proofs.Ytlbchdlokimpfaa

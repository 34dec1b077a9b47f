/- The contract of val's toFloat. -/
import Derived.Test.YtmhfpipeoojacaaBdZC
import Derived.Test.YtmhfpipeoojacaaBdZD
namespace Go.Proofs.Ytmhfpipeoojacaa
set_option linter.unusedVariables false
open Go.RowKit

theorem or_byte {k c : Int} (h0 : 0 ≤ k) (h1 : k < 72057594037927936) (c0 : 0 ≤ c) (c1 : c < 256) : bits .or .u64 (k * 256) c = k * 256 + c := by
  rw [u64_or (k * 256) c (by omega) (by omega) c0 (by omega)]
  obtain ⟨x, rfl⟩ := Int.eq_ofNat_of_zero_le h0
  obtain ⟨y, rfl⟩ := Int.eq_ofNat_of_zero_le c0
  show ((x * 256 ||| y : Nat) : Int) = _
  have e : 256 * x + y = 256 * x ||| y := Nat.two_pow_add_eq_or_of_lt (i := 8) (by omega) x
  rw [Nat.mul_comm x 256, ← e]; omega
set_option maxHeartbeats 2000000 in
theorem vtofloat_key (b off len cap : Nat) (l : List Nat) (w : World) (h : Sl w .u8 (some ⟨b, off, none⟩) len cap (ints l)) (h256 : ∀ x ∈ l, x < 256) (hm : len ≤ 140737488355328) (hb : b < w.heap.size) (h8 : 8 ≤ len)
    (hc : ∀ i, i < len → w.cell? ⟨b, off + i, none⟩ = some (.int .u8 ((ints l).getD i 0))) :
    Calls Try.prog 101 #[.slice (some ⟨b, off, none⟩) len cap] w (OfAns l 2 w) := by
  have hl : l.length = len := by rw [← h.1, ints_length]
  have hcap := h.2.1
  have hmax := h.2.2.1
  have hA := At.new w 0 0 ⟨#[]⟩
  have b0 := hide (below_one w (.cells #[.int .i64 0, .int .i64 0, .string ⟨#[]⟩] 24))
  have hK := Z.o8_lt h256
  have hd : ∀ i, i < 8 → (w.alloc (.cells #[.int .i64 0, .int .i64 0, .string ⟨#[]⟩] 24)).cell? ⟨b, off + i, none⟩ = some (.int .u8 ((l.getD i 0 : Nat) : Int)) := fun i hi => by
    rw [b0.out.cell (p := ⟨b, off + i, none⟩) hb, hc i (by omega), ints_getD]
  have d0 := hd 0 (by omega); have d1 := hd 1 (by omega); have d2 := hd 2 (by omega); have d3 := hd 3 (by omega)
  have d4 := hd 4 (by omega); have d5 := hd 5 (by omega); have d6 := hd 6 (by omega); have d7 := hd 7 (by omega)
  have e0 := E.getD_lt h256 0; have e1 := E.getD_lt h256 1; have e2 := E.getD_lt h256 2; have e3 := E.getD_lt h256 3
  have e4 := E.getD_lt h256 4; have e5 := E.getD_lt h256 5; have e6 := E.getD_lt h256 6; have e7 := E.getD_lt h256 7
  have hO : Z.o8 l = (((((((l.getD 0 0 * 256 + l.getD 1 0) * 256 + l.getD 2 0) * 256 + l.getD 3 0) * 256 + l.getD 4 0) * 256 + l.getD 5 0) * 256 + l.getD 6 0) * 256 + l.getD 7 0) := rfl
  simp only [Nat.add_zero] at d0
  obtain ⟨x0, h0⟩ : ∃ x : Int, ((l.getD 0 0 : Nat) : Int) = x := ⟨_, rfl⟩
  obtain ⟨x1, h1⟩ : ∃ x : Int, ((l.getD 1 0 : Nat) : Int) = x := ⟨_, rfl⟩
  obtain ⟨x2, h2⟩ : ∃ x : Int, ((l.getD 2 0 : Nat) : Int) = x := ⟨_, rfl⟩
  obtain ⟨x3, h3⟩ : ∃ x : Int, ((l.getD 3 0 : Nat) : Int) = x := ⟨_, rfl⟩
  obtain ⟨x4, h4⟩ : ∃ x : Int, ((l.getD 4 0 : Nat) : Int) = x := ⟨_, rfl⟩
  obtain ⟨x5, h5⟩ : ∃ x : Int, ((l.getD 5 0 : Nat) : Int) = x := ⟨_, rfl⟩
  obtain ⟨x6, h6⟩ : ∃ x : Int, ((l.getD 6 0 : Nat) : Int) = x := ⟨_, rfl⟩
  obtain ⟨x7, h7⟩ : ∃ x : Int, ((l.getD 7 0 : Nat) : Int) = x := ⟨_, rfl⟩
  rw [h0] at d0; rw [h1] at d1; rw [h2] at d2; rw [h3] at d3; rw [h4] at d4; rw [h5] at d5; rw [h6] at d6; rw [h7] at d7
  obtain ⟨K, hKe⟩ : ∃ K : Int, ((Z.o8 l : Nat) : Int) = K := ⟨_, rfl⟩
  have k1 : bits .or .u64 0 x0 = x0 := by have := or_byte (k := 0) (c := x0) (by omega) (by omega) (by omega) (by omega); simpa using this
  obtain ⟨y1, r1⟩ : ∃ y, x0 * 256 + x1 = y := ⟨_, rfl⟩
  have k2 : bits .or .u64 (x0 * 256) x1 = y1 := by rw [← r1]; exact or_byte (by omega) (by omega) (by omega) (by omega)
  obtain ⟨y2, r2⟩ : ∃ y, y1 * 256 + x2 = y := ⟨_, rfl⟩
  have k3 : bits .or .u64 (y1 * 256) x2 = y2 := by rw [← r2]; exact or_byte (by omega) (by omega) (by omega) (by omega)
  obtain ⟨y3, r3⟩ : ∃ y, y2 * 256 + x3 = y := ⟨_, rfl⟩
  have k4 : bits .or .u64 (y2 * 256) x3 = y3 := by rw [← r3]; exact or_byte (by omega) (by omega) (by omega) (by omega)
  obtain ⟨y4, r4⟩ : ∃ y, y3 * 256 + x4 = y := ⟨_, rfl⟩
  have k5 : bits .or .u64 (y3 * 256) x4 = y4 := by rw [← r4]; exact or_byte (by omega) (by omega) (by omega) (by omega)
  obtain ⟨y5, r5⟩ : ∃ y, y4 * 256 + x5 = y := ⟨_, rfl⟩
  have k6 : bits .or .u64 (y4 * 256) x5 = y5 := by rw [← r5]; exact or_byte (by omega) (by omega) (by omega) (by omega)
  obtain ⟨y6, r6⟩ : ∃ y, y5 * 256 + x6 = y := ⟨_, rfl⟩
  have k7 : bits .or .u64 (y5 * 256) x6 = y6 := by rw [← r6]; exact or_byte (by omega) (by omega) (by omega) (by omega)
  have k8 : bits .or .u64 (y6 * 256) x7 = K := by rw [or_byte (by omega) (by omega) (by omega) (by omega)]; omega
  have b1 : 0 ≤ x0 ∧ x0 < 256 := by omega
  have b2 : 0 ≤ y1 ∧ y1 < 65536 := by omega
  have b3 : 0 ≤ y2 ∧ y2 < 16777216 := by omega
  have b4 : 0 ≤ y3 ∧ y3 < 4294967296 := by omega
  have b5 : 0 ≤ y4 ∧ y4 < 1099511627776 := by omega
  have b6 : 0 ≤ y5 ∧ y5 < 281474976710656 := by omega
  have b7 : 0 ≤ y6 ∧ y6 < 72057594037927936 := by omega
  have b8 : 0 ≤ K ∧ K < 18446744073709551616 := by omega
  have q1 : 0 ≤ x1 ∧ x1 < 256 := by omega
  have q2 : 0 ≤ x2 ∧ x2 < 256 := by omega
  have q3 : 0 ≤ x3 ∧ x3 < 256 := by omega
  have q4 : 0 ≤ x4 ∧ x4 < 256 := by omega
  have q5 : 0 ≤ x5 ∧ x5 < 256 := by omega
  have q6 : 0 ≤ x6 ∧ x6 < 256 := by omega
  have q7 : 0 ≤ x7 ∧ x7 < 256 := by omega
  clear hd e0 e1 e2 e3 e4 e5 e6 e7 hO h0 h1 h2 h3 h4 h5 h6 h7 r1 r2 r3 r4 r5 r6 hK hc
  have HKE := hide hKe
  have HL := hide hl
  have HS := hide h
  have H2 := hide h256
  clear hKe hl h h256
  go_enter Try.func101, Try.ntmps101
  go_wp2_with fail
  refine wp_loop_rounds 9 ?_
  rw [rounds_succ]
  go_wp2_with fail
  rw [rounds_succ]
  go_wp2_with fail
  rw [rounds_succ]
  go_wp2_with fail
  rw [rounds_succ]
  go_wp2_with fail
  rw [rounds_succ]
  go_wp2_with fail
  rw [rounds_succ]
  go_wp2_with fail
  rw [rounds_succ]
  go_wp2_with fail
  rw [rounds_succ]
  go_wp2_with fail
  rw [rounds_succ]
  go_wp2_with fail
  refine (bits_any K _ b8.1 b8.2).mono ?_
  rintro e w1 ⟨rfl, rfl⟩
  have hB := D.bt_in (k := K) b8
  obtain ⟨T, hT⟩ : ∃ T, D.bt K = T := ⟨_, rfl⟩
  rw [hT] at hB ⊢
  have HT := hide hT
  clear hT d0 d1 d2 d3 d4 d5 d6 d7 k1 k2 k3 k4 k5 k6 k7 k8 b1 b2 b3 b4 b5 b6 b7 q1 q2 q3 q4 q5 q6 q7
  go_wp2_with fail
  refine (key_any T _ hB.1 hB.2).mono ?_
  rintro e w1 ⟨rfl, rfl⟩
  obtain ⟨a1, a2, a3⟩ := hA.cells
  obtain ⟨f1, f2, f3⟩ := hA.thawed
  replace hA := hide hA
  by_cases hk : D.ky T = K
  · rw [hk]
    have HO : Hid (Z.oE l 2 = 0) := oE_float (by have := HL.out; omega) (by rw [HKE.out, HT.out]; exact hk)
    have HW : Hid (wrap64 T = Z.sg T) := wrap64_sg hB
    clear hk
    have HB := hide (HS.out.below b0.out)
    by_cases hc8 : cap = 8
    · obtain rfl : len = 8 := by omega
      subst hc8
      have HV : Hid (Sl (w.alloc (.cells #[.int .i64 0, .int .i64 0, .string ⟨#[]⟩] 24)) .u8 (some ⟨b, off, none⟩) 0 0 (ints (l.drop 8))) := by
        show Sl _ _ _ _ _ _
        rw [ints_drop]; exact HB.out.tail 8 0 (by omega) (by omega) (by omega) _ (fun h => by omega)
      go_wp2_with fail
      refine (clone_any _ _ _ (l.drop 8) _ HV.out (by omega)).mono ?_
      rintro e w2 ⟨qa, qc, rfl, hs2, hb2⟩
      replace hA := hA.out.below hb2
      replace b0 := hide (bthen b0.out hb2)
      have hs3 := hide hs2
      clear hb2 hs2 a1 a2 a3 f1 f2 f3 HV
      obtain ⟨a1, a2, a3⟩ := hA.cells
      obtain ⟨f1, f2, f3⟩ := hA.thawed
      replace hA := hide hA
      go_wp2
      refine bodyPost_ret (results_val Try.results101 _ _ w.heap.size rfl (hA.out.set 2 (wrap64 T) ⟨#[]⟩)) rfl ?_
      exact OfAns.yes HO.out (by rw [oW_float, HKE.out, HT.out, HW.out]) (oS_float l) (by simp [HL.out]) (hs3.out.putV hA.out 2 (wrap64 T) ⟨#[]⟩) (putV_below 2 (wrap64 T) ⟨#[]⟩ b0.out (Nat.le_refl _))
    · have HV : Hid (Sl (w.alloc (.cells #[.int .i64 0, .int .i64 0, .string ⟨#[]⟩] 24)) .u8 (some ⟨b, off + 8, none⟩) (len - 8) (cap - 8) (ints (l.drop 8))) := by
        show Sl _ _ _ _ _ _
        rw [ints_drop]; exact HB.out.tail 8 (cap - 8) (by omega) (by omega) (by omega) _ (fun h => by rw [Addr.add_lit])
      go_wp2_with fail
      refine (clone_any _ _ _ (l.drop 8) _ HV.out (by omega)).mono ?_
      rintro e w2 ⟨qa, qc, rfl, hs2, hb2⟩
      replace hA := hA.out.below hb2
      replace b0 := hide (bthen b0.out hb2)
      have hs3 := hide hs2
      clear hb2 hs2 a1 a2 a3 f1 f2 f3 HV
      obtain ⟨a1, a2, a3⟩ := hA.cells
      obtain ⟨f1, f2, f3⟩ := hA.thawed
      replace hA := hide hA
      go_wp2
      refine bodyPost_ret (results_val Try.results101 _ _ w.heap.size rfl (hA.out.set 2 (wrap64 T) ⟨#[]⟩)) rfl ?_
      exact OfAns.yes HO.out (by rw [oW_float, HKE.out, HT.out, HW.out]) (oS_float l) (by simp [HL.out]) (hs3.out.putV hA.out 2 (wrap64 T) ⟨#[]⟩) (putV_below 2 (wrap64 T) ⟨#[]⟩ b0.out (Nat.le_refl _))
  · have HO : Hid (Z.oE l 2 = 4) := oE_form (by have := HL.out; omega) (by rw [HKE.out, HT.out]; exact hk)
    obtain ⟨Y, hY⟩ : ∃ Y, D.ky T = Y := ⟨_, rfl⟩
    rw [hY] at hk ⊢
    clear hY
    go_wp2
    refine bodyPost_ret (results_val Try.results101 _ _ w.heap.size rfl hA.out) rfl ?_
    exact OfAns.no HO.out (by decide) b0.out
theorem vtofloat_any (ao : Option Addr) (len cap : Nat) (l : List Nat) (w : World) (h : Sl w .u8 ao len cap (ints l)) (h256 : ∀ x ∈ l, x < 256) (hm : len ≤ 140737488355328) :
    Calls Try.prog 101 #[.slice ao len cap] w (OfAns l 2 w) := by
  have hl : l.length = len := by rw [← h.1, ints_length]
  by_cases h8 : len < 8
  · exact vtofloat_short ao len cap l w hl h8
  · rcases h.2.2.2.2 with h5 | ⟨b, off, rfl, hlt, h5⟩
    · omega
    · exact vtofloat_key b off len cap l w h h256 hm hlt (by omega) h5
end Go.Proofs.Ytmhfpipeoojacaa

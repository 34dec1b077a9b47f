/- The contract of val's toFloat. -/
import Derived.Test.YtmhfpipeoojacaaBdDictBackB
import Derived.Test.YtmhfpipeoojacaaBdW
import Derived.Test.YtmhfpipeoojacaaBdM
namespace Go.Proofs.Ytmhfpipeoojacaa
set_option linter.unusedVariables false
open Go.RowKit

theorem or_byte {k c : Int} (h0 : 0 ≤ k) (h1 : k < 72057594037927936) (c0 : 0 ≤ c) (c1 : c < 256) : bits .or .u64 (k * 256) c = k * 256 + c := by
  rw [u64_or (k * 256) c (by omega) (by omega) c0 (by omega)]
  obtain ⟨x, rfl⟩ := Int.eq_ofNat_of_zero_le h0
  obtain ⟨y, rfl⟩ := Int.eq_ofNat_of_zero_le c0
  show ((x * 256 ||| y : Nat) : Int) = _
  have e : 256 * x + y = 256 * x ||| y := Nat.two_pow_add_eq_or_of_lt (i := 8) (by omega) x
  rw [Nat.mul_comm x 256, ← e]; omega
set_option maxHeartbeats 2000000 in
theorem vtofloat_key (b off len cap : Nat) (l : List Nat) (w : World) (h : Sl w .u8 (some ⟨b, off, none⟩) len cap (ints l)) (h256 : ∀ x ∈ l, x < 256) (hm : len ≤ 140737488355328) (hb : b < w.heap.size) (h8 : 8 ≤ len)
    (hc : ∀ i, i < len → w.cell? ⟨b, off + i, none⟩ = some (.int .u8 ((ints l).getD i 0))) :
    Calls Try.prog 101 #[.slice (some ⟨b, off, none⟩) len cap] w (OfAns l 2 w) := by
  have hl : l.length = len := by rw [← h.1, ints_length]
  have hcap := h.2.1
  have hmax := h.2.2.1
  have hA := At.new w 0 0 ⟨#[]⟩
  have b0 := hide (below_one w (.cells #[.int .i64 0, .int .i64 0, .string ⟨#[]⟩] 24))
  have hK := Z.o8_lt h256
  have hd : ∀ i, i < 8 → (w.alloc (.cells #[.int .i64 0, .int .i64 0, .string ⟨#[]⟩] 24)).cell? ⟨b, off + i, none⟩ = some (.int .u8 ((l.getD i 0 : Nat) : Int)) := fun i hi => by
    rw [b0.out.cell (p := ⟨b, off + i, none⟩) hb, hc i (by omega), ints_getD]
  have d0 := hd 0 (by omega); have d1 := hd 1 (by omega); have d2 := hd 2 (by omega); have d3 := hd 3 (by omega)
  have d4 := hd 4 (by omega); have d5 := hd 5 (by omega); have d6 := hd 6 (by omega); have d7 := hd 7 (by omega)
  have e0 := E.getD_lt h256 0; have e1 := E.getD_lt h256 1; have e2 := E.getD_lt h256 2; have e3 := E.getD_lt h256 3
  have e4 := E.getD_lt h256 4; have e5 := E.getD_lt h256 5; have e6 := E.getD_lt h256 6; have e7 := E.getD_lt h256 7
  have hO : Z.o8 l = (((((((l.getD 0 0 * 256 + l.getD 1 0) * 256 + l.getD 2 0) * 256 + l.getD 3 0) * 256 + l.getD 4 0) * 256 + l.getD 5 0) * 256 + l.getD 6 0) * 256 + l.getD 7 0) := rfl
  simp only [Nat.add_zero] at d0
  obtain ⟨x0, h0⟩ : ∃ x : Int, ((l.getD 0 0 : Nat) : Int) = x := ⟨_, rfl⟩
  obtain ⟨x1, h1⟩ : ∃ x : Int, ((l.getD 1 0 : Nat) : Int) = x := ⟨_, rfl⟩
  obtain ⟨x2, h2⟩ : ∃ x : Int, ((l.getD 2 0 : Nat) : Int) = x := ⟨_, rfl⟩
  obtain ⟨x3, h3⟩ : ∃ x : Int, ((l.getD 3 0 : Nat) : Int) = x := ⟨_, rfl⟩
  obtain ⟨x4, h4⟩ : ∃ x : Int, ((l.getD 4 0 : Nat) : Int) = x := ⟨_, rfl⟩
  obtain ⟨x5, h5⟩ : ∃ x : Int, ((l.getD 5 0 : Nat) : Int) = x := ⟨_, rfl⟩
  obtain ⟨x6, h6⟩ : ∃ x : Int, ((l.getD 6 0 : Nat) : Int) = x := ⟨_, rfl⟩
  obtain ⟨x7, h7⟩ : ∃ x : Int, ((l.getD 7 0 : Nat) : Int) = x := ⟨_, rfl⟩
  rw [h0] at d0; rw [h1] at d1; rw [h2] at d2; rw [h3] at d3; rw [h4] at d4; rw [h5] at d5; rw [h6] at d6; rw [h7] at d7
  obtain ⟨K, hKe⟩ : ∃ K : Int, ((Z.o8 l : Nat) : Int) = K := ⟨_, rfl⟩
  have k1 : bits .or .u64 0 x0 = x0 := by have := or_byte (k := 0) (c := x0) (by omega) (by omega) (by omega) (by omega); simpa using this
  obtain ⟨y1, r1⟩ : ∃ y, x0 * 256 + x1 = y := ⟨_, rfl⟩
  have k2 : bits .or .u64 (x0 * 256) x1 = y1 := by rw [← r1]; exact or_byte (by omega) (by omega) (by omega) (by omega)
  obtain ⟨y2, r2⟩ : ∃ y, y1 * 256 + x2 = y := ⟨_, rfl⟩
  have k3 : bits .or .u64 (y1 * 256) x2 = y2 := by rw [← r2]; exact or_byte (by omega) (by omega) (by omega) (by omega)
  obtain ⟨y3, r3⟩ : ∃ y, y2 * 256 + x3 = y := ⟨_, rfl⟩
  have k4 : bits .or .u64 (y2 * 256) x3 = y3 := by rw [← r3]; exact or_byte (by omega) (by omega) (by omega) (by omega)
  obtain ⟨y4, r4⟩ : ∃ y, y3 * 256 + x4 = y := ⟨_, rfl⟩
  have k5 : bits .or .u64 (y3 * 256) x4 = y4 := by rw [← r4]; exact or_byte (by omega) (by omega) (by omega) (by omega)
  obtain ⟨y5, r5⟩ : ∃ y, y4 * 256 + x5 = y := ⟨_, rfl⟩
  have k6 : bits .or .u64 (y4 * 256) x5 = y5 := by rw [← r5]; exact or_byte (by omega) (by omega) (by omega) (by omega)
  obtain ⟨y6, r6⟩ : ∃ y, y5 * 256 + x6 = y := ⟨_, rfl⟩
  have k7 : bits .or .u64 (y5 * 256) x6 = y6 := by rw [← r6]; exact or_byte (by omega) (by omega) (by omega) (by omega)
  have k8 : bits .or .u64 (y6 * 256) x7 = K := by rw [or_byte (by omega) (by omega) (by omega) (by omega)]; omega
  have b1 : 0 ≤ x0 ∧ x0 < 256 := by omega
  have b2 : 0 ≤ y1 ∧ y1 < 65536 := by omega
  have b3 : 0 ≤ y2 ∧ y2 < 16777216 := by omega
  have b4 : 0 ≤ y3 ∧ y3 < 4294967296 := by omega
  have b5 : 0 ≤ y4 ∧ y4 < 1099511627776 := by omega
  have b6 : 0 ≤ y5 ∧ y5 < 281474976710656 := by omega
  have b7 : 0 ≤ y6 ∧ y6 < 72057594037927936 := by omega
  have b8 : 0 ≤ K ∧ K < 18446744073709551616 := by omega
  have q1 : 0 ≤ x1 ∧ x1 < 256 := by omega
  have q2 : 0 ≤ x2 ∧ x2 < 256 := by omega
  have q3 : 0 ≤ x3 ∧ x3 < 256 := by omega
  have q4 : 0 ≤ x4 ∧ x4 < 256 := by omega
  have q5 : 0 ≤ x5 ∧ x5 < 256 := by omega
  have q6 : 0 ≤ x6 ∧ x6 < 256 := by omega
  have q7 : 0 ≤ x7 ∧ x7 < 256 := by omega
  clear hd e0 e1 e2 e3 e4 e5 e6 e7 hO h0 h1 h2 h3 h4 h5 h6 h7 r1 r2 r3 r4 r5 r6 hK hc
  have HKE := hide hKe
  have HL := hide hl
  have HS := hide h
  have H2 := hide h256
  clear hKe hl h h256
  go_enter Try.func101, Try.ntmps101
  go_wp2_with fail
  refine wp_loop_rounds 9 ?_
  rw [rounds_succ]
  go_wp2_with fail
  rw [rounds_succ]
  go_wp2_with fail
  rw [rounds_succ]
  go_wp2_with fail
  rw [rounds_succ]
  go_wp2_with fail
  rw [rounds_succ]
  go_wp2_with fail
  rw [rounds_succ]
  go_wp2_with fail
  rw [rounds_succ]
  go_wp2_with fail
  rw [rounds_succ]
  go_wp2_with fail
  rw [rounds_succ]
  go_wp2_with fail
  refine (bits_any K _ b8.1 b8.2).mono ?_
  rintro e w1 ⟨rfl, rfl⟩
  have hB := D.bt_in (k := K) b8
  obtain ⟨T, hT⟩ : ∃ T, D.bt K = T := ⟨_, rfl⟩
  rw [hT] at hB ⊢
  have HT := hide hT
  clear hT d0 d1 d2 d3 d4 d5 d6 d7 k1 k2 k3 k4 k5 k6 k7 k8 b1 b2 b3 b4 b5 b6 b7 q1 q2 q3 q4 q5 q6 q7
  go_wp2_with fail
  refine (key_any T _ hB.1 hB.2).mono ?_
  rintro e w1 ⟨rfl, rfl⟩
  obtain ⟨a1, a2, a3⟩ := hA.cells
  obtain ⟨f1, f2, f3⟩ := hA.thawed
  replace hA := hide hA
  by_cases hk : D.ky T = K
  · rw [hk]
    have HO : Hid (Z.oE l 2 = 0) := oE_float (by have := HL.out; omega) (by rw [HKE.out, HT.out]; exact hk)
    have HW : Hid (wrap64 T = Z.sg T) := wrap64_sg hB
    clear hk
    have HB := hide (HS.out.below b0.out)
    by_cases hc8 : cap = 8
    · obtain rfl : len = 8 := by omega
      subst hc8
      have HV : Hid (Sl (w.alloc (.cells #[.int .i64 0, .int .i64 0, .string ⟨#[]⟩] 24)) .u8 (some ⟨b, off, none⟩) 0 0 (ints (l.drop 8))) := by
        show Sl _ _ _ _ _ _
        rw [ints_drop]; exact HB.out.tail 8 0 (by omega) (by omega) (by omega) _ (fun h => by omega)
      go_wp2_with fail
      refine (clone_any _ _ _ (l.drop 8) _ HV.out (by omega)).mono ?_
      rintro e w2 ⟨qa, qc, rfl, hs2, hb2⟩
      replace hA := hA.out.below hb2
      replace b0 := hide (bthen b0.out hb2)
      have hs3 := hide hs2
      clear hb2 hs2 a1 a2 a3 f1 f2 f3 HV
      obtain ⟨a1, a2, a3⟩ := hA.cells
      obtain ⟨f1, f2, f3⟩ := hA.thawed
      replace hA := hide hA
      go_wp2
      refine bodyPost_ret (results_val Try.results101 _ _ w.heap.size rfl (hA.out.set 2 (wrap64 T) ⟨#[]⟩)) rfl ?_
      exact OfAns.yes HO.out (by rw [oW_float, HKE.out, HT.out, HW.out]) (oS_float l) (by simp [HL.out]) (hs3.out.putV hA.out 2 (wrap64 T) ⟨#[]⟩) (putV_below 2 (wrap64 T) ⟨#[]⟩ b0.out (Nat.le_refl _))
    · have HV : Hid (Sl (w.alloc (.cells #[.int .i64 0, .int .i64 0, .string ⟨#[]⟩] 24)) .u8 (some ⟨b, off + 8, none⟩) (len - 8) (cap - 8) (ints (l.drop 8))) := by
        show Sl _ _ _ _ _ _
        rw [ints_drop]; exact HB.out.tail 8 (cap - 8) (by omega) (by omega) (by omega) _ (fun h => by rw [Addr.add_lit])
      go_wp2_with fail
      refine (clone_any _ _ _ (l.drop 8) _ HV.out (by omega)).mono ?_
      rintro e w2 ⟨qa, qc, rfl, hs2, hb2⟩
      replace hA := hA.out.below hb2
      replace b0 := hide (bthen b0.out hb2)
      have hs3 := hide hs2
      clear hb2 hs2 a1 a2 a3 f1 f2 f3 HV
      obtain ⟨a1, a2, a3⟩ := hA.cells
      obtain ⟨f1, f2, f3⟩ := hA.thawed
      replace hA := hide hA
      go_wp2
      refine bodyPost_ret (results_val Try.results101 _ _ w.heap.size rfl (hA.out.set 2 (wrap64 T) ⟨#[]⟩)) rfl ?_
      exact OfAns.yes HO.out (by rw [oW_float, HKE.out, HT.out, HW.out]) (oS_float l) (by simp [HL.out]) (hs3.out.putV hA.out 2 (wrap64 T) ⟨#[]⟩) (putV_below 2 (wrap64 T) ⟨#[]⟩ b0.out (Nat.le_refl _))
  · have HO : Hid (Z.oE l 2 = 4) := oE_form (by have := HL.out; omega) (by rw [HKE.out, HT.out]; exact hk)
    obtain ⟨Y, hY⟩ : ∃ Y, D.ky T = Y := ⟨_, rfl⟩
    rw [hY] at hk ⊢
    clear hY
    go_wp2
    refine bodyPost_ret (results_val Try.results101 _ _ w.heap.size rfl hA.out) rfl ?_
    exact OfAns.no HO.out (by decide) b0.out
theorem vtofloat_any (ao : Option Addr) (len cap : Nat) (l : List Nat) (w : World) (h : Sl w .u8 ao len cap (ints l)) (h256 : ∀ x ∈ l, x < 256) (hm : len ≤ 140737488355328) :
    Calls Try.prog 101 #[.slice ao len cap] w (OfAns l 2 w) := by
  have hl : l.length = len := by rw [← h.1, ints_length]
  by_cases h8 : len < 8
  · exact vtofloat_short ao len cap l w hl h8
  · rcases h.2.2.2.2 with h5 | ⟨b, off, rfl, hlt, h5⟩
    · omega
    · exact vtofloat_key b off len cap l w h h256 hm hlt (by omega) h5
end Go.Proofs.Ytmhfpipeoojacaa
/- The contract of val's Of. -/
namespace Go.Proofs.Ytmhfpipeoojacaa
set_option linter.unusedVariables false
open Go.RowKit

theorem oE_null (l : List Nat) : Z.oE l 0 = 0 := by unfold Z.oE; rw [if_pos rfl]
theorem oW_null (l : List Nat) : Z.oW l 0 = ⟨0, 0, ⟨#[]⟩⟩ := rfl
theorem oS_null (l : List Nat) : Z.oS l 0 = l := rfl
theorem oE_else {l : List Nat} {kind : Int} (h0 : kind ≠ 0) (h1 : kind ≠ 1) (h2 : kind ≠ 2) (h3 : kind ≠ 3) : Z.oE l kind = 1 := by unfold Z.oE; rw [if_neg h0, if_neg h1, if_neg h2, if_neg h3]
theorem OfAns.put {l : List Nat} {kind : Int} {w w1 w2 : World} {b : Nat} {k i k' i' : Int} {s s' : ByteArray} {a : Option Addr} {n c : Nat} {E : Int} (hw : Below w.heap.size w w1) (h : OfAns l kind w1 (.returned (.tuple #[.agg #[.int .i64 k, .int .i64 i, .string s], .slice a n c, .int .i64 E])) w2) (hA : At w2 b k' i' s') (hb : w.heap.size ≤ b) :
    OfAns l kind w (.returned (.tuple #[.agg #[.int .i64 k, .int .i64 i, .string s], .slice a n c, .int .i64 E])) (putV w2 b k i s) := by
  obtain ⟨a1, c1, h1, h2, h3⟩ := h
  have hn : n = (Z.oR l kind).length ∧ a = a1 ∧ c = c1 := by
    simp [Ending.returned.injEq] at h1
    exact ⟨h1.2.1.2.1, h1.2.1.1, h1.2.1.2.2⟩
  obtain ⟨rfl, rfl, rfl⟩ := hn
  exact ⟨_, _, h1, h2.putV hA k i s, putV_below k i s (bthen hw h3) hb⟩
theorem OfAns.bel {l : List Nat} {kind : Int} {w w' : World} {e : Ending} (h : OfAns l kind w e w') : Below w.heap.size w w' := by
  obtain ⟨_, _, _, _, h⟩ := h
  exact h
theorem OfAns.shape {l : List Nat} {kind : Int} {w w' : World} {e : Ending} (h : OfAns l kind w e w') : ∃ k i s a n c E, e = .returned (.tuple #[.agg #[.int .i64 k, .int .i64 i, .string s], .slice a n c, .int .i64 E]) := by
  obtain ⟨a1, c1, h1, _⟩ := h
  exact ⟨_, _, _, _, _, _, _, h1⟩
set_option maxHeartbeats 1000000 in
theorem vof_any (ao : Option Addr) (len cap : Nat) (l : List Nat) (kind : Int) (w : World) (h : Sl w .u8 ao len cap (ints l)) (h256 : ∀ x ∈ l, x < 256) (hm : len ≤ 140737488355328) :
    Calls Try.prog 92 #[.slice ao len cap, .int .i64 kind] w (OfAns l kind w) := by
  have hl : l.length = len := by rw [← h.1, ints_length]
  have hA := At.new w 0 0 ⟨#[]⟩
  have b0 := hide (below_one w (.cells #[.int .i64 0, .int .i64 0, .string ⟨#[]⟩] 24))
  have HS := hide (h.below b0.out)
  have H2 := hide h256
  have HL := hide hl
  clear h h256 hl
  by_cases k0 : kind = 0
  · subst k0
    go_enter Try.func92, Try.ntmps92
    go_wp2_with fail
    refine (clone_any _ _ _ l _ HS.out hm).mono ?_
    rintro e w1 ⟨qa, qc, rfl, hs2, hb2⟩
    replace hA := hA.below hb2
    replace b0 := hide (bthen b0.out hb2)
    have hs3 := hide hs2
    clear hb2 hs2
    obtain ⟨a1, a2, a3⟩ := hA.cells
    obtain ⟨f1, f2, f3⟩ := hA.thawed
    replace hA := hide hA
    go_wp2
    refine bodyPost_ret (results_val Try.results92 _ _ w.heap.size rfl (hA.out.set 0 0 ⟨#[]⟩)) rfl ?_
    exact OfAns.yes (oE_null l) (oW_null l) (oS_null l) HL.out (hs3.out.putV hA.out 0 0 ⟨#[]⟩) (putV_below 0 0 ⟨#[]⟩ b0.out (Nat.le_refl _))
  · by_cases k1 : kind = 1
    · subst k1
      go_enter Try.func92, Try.ntmps92
      go_wp2_with fail
      refine (vtoint_any _ _ _ l _ HS.out H2.out hm).mono ?_
      intro e w1 ho
      obtain ⟨k, i, s, qa, qn, qc, qe, rfl⟩ := ho.shape
      replace hA := hA.below ho.bel
      have HO := hide ho
      clear ho
      obtain ⟨a1, a2, a3⟩ := hA.cells
      obtain ⟨f1, f2, f3⟩ := hA.thawed
      replace hA := hide hA
      go_wp2
      refine bodyPost_ret (results_val Try.results92 _ _ w.heap.size rfl (hA.out.set k i s)) rfl ?_
      exact OfAns.put b0.out HO.out hA.out (Nat.le_refl _)
    · by_cases k2 : kind = 2
      · subst k2
        go_enter Try.func92, Try.ntmps92
        go_wp2_with fail
        refine (vtofloat_any _ _ _ l _ HS.out H2.out hm).mono ?_
        intro e w1 ho
        obtain ⟨k, i, s, qa, qn, qc, qe, rfl⟩ := ho.shape
        replace hA := hA.below ho.bel
        have HO := hide ho
        clear ho
        obtain ⟨a1, a2, a3⟩ := hA.cells
        obtain ⟨f1, f2, f3⟩ := hA.thawed
        replace hA := hide hA
        go_wp2
        refine bodyPost_ret (results_val Try.results92 _ _ w.heap.size rfl (hA.out.set k i s)) rfl ?_
        exact OfAns.put b0.out HO.out hA.out (Nat.le_refl _)
      · by_cases k3 : kind = 3
        · subst k3
          go_enter Try.func92, Try.ntmps92
          go_wp2_with fail
          refine (vtotext_any _ _ _ l _ HS.out H2.out hm).mono ?_
          intro e w1 ho
          obtain ⟨k, i, s, qa, qn, qc, qe, rfl⟩ := ho.shape
          replace hA := hA.below ho.bel
          have HO := hide ho
          clear ho
          obtain ⟨a1, a2, a3⟩ := hA.cells
          obtain ⟨f1, f2, f3⟩ := hA.thawed
          replace hA := hide hA
          go_wp2
          refine bodyPost_ret (results_val Try.results92 _ _ w.heap.size rfl (hA.out.set k i s)) rfl ?_
          exact OfAns.put b0.out HO.out hA.out (Nat.le_refl _)
        · obtain ⟨a1, a2, a3⟩ := hA.cells
          obtain ⟨f1, f2, f3⟩ := hA.thawed
          replace hA := hide hA
          go_enter Try.func92, Try.ntmps92
          go_wp2
          refine bodyPost_ret (results_val Try.results92 _ _ w.heap.size rfl hA.out) rfl ?_
          exact OfAns.no (oE_else k0 k1 k2 k3) (by decide) b0.out
end Go.Proofs.Ytmhfpipeoojacaa
/- Parts of slices in a region that draws its order. -/
namespace Go.Proofs.Ytmhfpipeoojacaa.V
set_option linter.unusedVariables false
open Go.RowKit
variable {ops : Array Oper} {Q : Exit → Act → World → Prop} {tbl : List (Nat × Ent)} {w0 : World} {o : Oper}

theorem size_u8 (w : World) : (sizeOf 5).run Try.prog w = .ok 1 w := by
  obtain ⟨i0, hi, hz0, hz1, hz2⟩ := info_parts Try.infoU8
  simp [sizeOf, typeInfo, hi, hz1]
theorem elem_bytes : Try.prog.elem 36 = 5 := by kernel_rfl
theorem under_bytes : Try.prog.underlying 36 = some (.slice (Try.prog.elem 36)) := by rw [elem_bytes]; exact Try.underlying36

theorem Step.part {s p q i j len cap : Nat} {a0 : Option Addr} {l : List Nat} (hw : Wants tbl ops o) (ho : o.op = .slice 36 (.tmp s) (some (.tmp p)) (some (.tmp q)) none) (hs : get tbl s = Ent.is (.slice a0 len cap)) (hp : get tbl p = Ent.is (.int .i64 (i : Int))) (hq : get tbl q = Ent.is (.int .i64 (j : Int)))
    (hsl : Sl w0 .u8 a0 len cap (ints l)) (hij : i ≤ j) (hj : j ≤ len) (hd : ∀ d, o.dst = some d → get tbl d = Ent.sl (j - i) ((l.take j).drop i)) : Step Try.prog ops Q tbl w0 o := by
  refine Step.value hw fun a w hb hk => ⟨.slice (if cap = i then a0 else a0.map (·.add (i * 1))) (j - i) (cap - i), ?_, fun d h => ?_⟩
  · have h1 : a.eval (.tmp s) = .slice a0 len cap := by
      have := hk s (looks_op (by rw [ho]; simp [Op.operands]))
      rwa [hs] at this
    have h2 : a.eval (.tmp p) = .int .i64 (i : Int) := by
      have := hk p (looks_op (by rw [ho]; simp [Op.operands]))
      rwa [hp] at this
    have h3 : a.eval (.tmp q) = .int .i64 (j : Int) := by
      have := hk q (looks_op (by rw [ho]; simp [Op.operands]))
      rwa [hq] at this
    have hc := hsl.2.1
    have hr := run_slice_lh (P := Try.prog) w 36 a0 len cap under_bytes .i64 .i64 (i : Int) (j : Int) (by omega) (by omega) (by omega)
    rw [elem_bytes, size_u8] at hr
    simp only [Result.andThen_ok, Int.toNat_natCast, sliced] at hr
    simp only [execOp, ho, h1, h2, h3, Option.map_some, Option.map_none]
    have hr2 := run_sliceAt_slice (P := Try.prog) w 36 (.slice a0 len cap) (some (.int .i64 (i : Int))) (some (.int .i64 (j : Int))) none under_bytes
    simp [hr2, hr]
  · rw [hd d h]
    have := (hsl.below hb).part i j hij hj
    rw [← ints_take, ← ints_drop] at this
    exact ⟨_, _, rfl, this⟩
theorem Step.rest {s p i len cap : Nat} {a0 : Option Addr} {l : List Nat} (hw : Wants tbl ops o) (ho : o.op = .slice 36 (.tmp s) (some (.tmp p)) none none) (hs : get tbl s = Ent.is (.slice a0 len cap)) (hp : get tbl p = Ent.is (.int .i64 (i : Int)))
    (hsl : Sl w0 .u8 a0 len cap (ints l)) (hi : i ≤ len) (hd : ∀ d, o.dst = some d → get tbl d = Ent.sl (len - i) (l.drop i)) : Step Try.prog ops Q tbl w0 o := by
  refine Step.value hw fun a w hb hk => ⟨.slice (if cap = i then a0 else a0.map (·.add (i * 1))) (len - i) (cap - i), ?_, fun d h => ?_⟩
  · have h1 : a.eval (.tmp s) = .slice a0 len cap := by
      have := hk s (looks_op (by rw [ho]; simp [Op.operands]))
      rwa [hs] at this
    have h2 : a.eval (.tmp p) = .int .i64 (i : Int) := by
      have := hk p (looks_op (by rw [ho]; simp [Op.operands]))
      rwa [hp] at this
    have hr := run_slice_l (P := Try.prog) w 36 a0 len cap under_bytes .i64 (i : Int) (by omega) (by omega)
    rw [elem_bytes, size_u8] at hr
    simp only [Result.andThen_ok, Int.toNat_natCast, sliced] at hr
    simp only [execOp, ho, h1, h2, Option.map_some, Option.map_none]
    have hr2 := run_sliceAt_slice (P := Try.prog) w 36 (.slice a0 len cap) (some (.int .i64 (i : Int))) none none under_bytes
    simp [hr2, hr]
  · rw [hd d h]
    have := (hsl.below hb).part i len hi (Nat.le_refl _)
    rw [List.take_of_length_le (by rw [hsl.1]; exact Nat.le_refl _), ← ints_drop] at this
    exact ⟨_, _, rfl, this⟩
end Go.Proofs.Ytmhfpipeoojacaa.V
/- The contract of the reference's ToText. -/
namespace Go.Proofs.Ytmhfpipeoojacaa
set_option linter.unusedVariables false
open Go.RowKit

theorem conv_ui (w : World) (n : Int) (h0 : 0 ≤ n) (h1 : n < 9223372036854775808) : (convert 44 3 (.int .u64 n)).run Try.prog w = .ok (.int .i64 n) w := by
  simp [go_sem, IntKind.wrap_i64]; omega
theorem add_kn (w : World) (K : Nat) (N : Int) (h0 : 0 ≤ N) (h1 : (K : Int) + N < 9223372036854775808) : (binOp .add 3 (.int .i64 (K : Int)) (.int .i64 N)).run Try.prog w = .ok (.int .i64 ((K + N.toNat : Nat) : Int)) w := by
  have e : ((K + N.toNat : Nat) : Int) = (K : Int) + N := by omega
  rw [e]
  simp [go_sem, IntKind.wrap_i64]; omega

namespace V
variable {ops : Array Oper} {Q : Exit → Act → World → Prop} {tbl : List (Nat × Ent)} {w0 : World} {o : Oper}
/-- Bytes that could be read in an elder world already. -/
def Ent.slAt (W : World) (k : Nat) (l : List Nat) : Ent := ⟨fun v _ => ∃ a c, v = .slice a k c ∧ Sl W .u8 a k c (ints l), fun _ h => h⟩
theorem Step.restAt {s p i len cap : Nat} {a0 : Option Addr} {l : List Nat} {W : World} (hw : Wants tbl ops o) (ho : o.op = .slice 36 (.tmp s) (some (.tmp p)) none none) (hs : get tbl s = Ent.is (.slice a0 len cap)) (hp : get tbl p = Ent.is (.int .i64 (i : Int)))
    (hsl : Sl W .u8 a0 len cap (ints l)) (hi : i ≤ len) (hd : ∀ d, o.dst = some d → get tbl d = Ent.slAt W (len - i) (l.drop i)) : Step Try.prog ops Q tbl w0 o := by
  refine Step.value hw fun a w hb hk => ⟨.slice (if cap = i then a0 else a0.map (·.add (i * 1))) (len - i) (cap - i), ?_, fun d h => ?_⟩
  · have h1 : a.eval (.tmp s) = .slice a0 len cap := by
      have := hk s (looks_op (by rw [ho]; simp [Op.operands]))
      rwa [hs] at this
    have h2 : a.eval (.tmp p) = .int .i64 (i : Int) := by
      have := hk p (looks_op (by rw [ho]; simp [Op.operands]))
      rwa [hp] at this
    have hr := run_slice_l (P := Try.prog) w 36 a0 len cap under_bytes .i64 (i : Int) (by omega) (by omega)
    rw [elem_bytes, size_u8] at hr
    simp only [Result.andThen_ok, Int.toNat_natCast, sliced] at hr
    simp only [execOp, ho, h1, h2, Option.map_some, Option.map_none]
    have hr2 := run_sliceAt_slice (P := Try.prog) w 36 (.slice a0 len cap) (some (.int .i64 (i : Int))) none none under_bytes
    simp [hr2, hr]
  · rw [hd d h]
    have := hsl.part i len hi (Nat.le_refl _)
    rw [List.take_of_length_le (by rw [hsl.1]; exact Nat.le_refl _), ← ints_drop] at this
    exact ⟨_, _, rfl, this⟩
end V
def totextTbl (W : World) (ao : Option Addr) (len cap K : Nat) (N : Int) (l : List Nat) : List (Nat × V.Ent) :=
   [(0, V.Ent.is (.slice ao len cap)),
    (8, V.Ent.is (.int .i64 (K : Int))),
    (7, V.Ent.is (.int .u64 N)),
    (34, V.Ent.is (.slice ao len cap)),
    (35, V.Ent.is (.int .i64 (K : Int))),
    (36, V.Ent.is (.int .i64 (K : Int))),
    (37, V.Ent.is (.int .u64 N)),
    (38, V.Ent.is (.int .i64 N)),
    (39, V.Ent.is (.int .i64 ((K + N.toNat : Nat) : Int))),
    (40, V.Ent.sl ((K + N.toNat - K)) (((l.take (K + N.toNat)).drop K))),
    (41, V.Ent.is (.string (strOfNums (ints (((l.take (K + N.toNat)).drop K)))))),
    (42, V.Ent.is (.slice ao len cap)),
    (43, V.Ent.is (.int .i64 (K : Int))),
    (44, V.Ent.is (.int .u64 N)),
    (45, V.Ent.is (.int .i64 N)),
    (46, V.Ent.is (.int .i64 ((K + N.toNat : Nat) : Int))),
    (47, V.Ent.slAt W ((len - (K + N.toNat))) ((l.drop (K + N.toNat)))),
    (4, V.Ent.is (.string (strOfNums (ints (((l.take (K + N.toNat)).drop K)))))),
    (5, V.Ent.slAt W ((len - (K + N.toNat))) ((l.drop (K + N.toNat)))),
    (6, V.Ent.is (.int .i64 0))]

end Go.Proofs.Ytmhfpipeoojacaa
/- The contract of the reference's Of. -/
namespace Go.Proofs.Ytmhfpipeoojacaa
set_option linter.unusedVariables false
open Go.RowKit

/-- The rest of bytes that can be read. -/
theorem rest_of {w : World} {ao : Option Addr} {len cap : Nat} {l : List Nat} (h : Sl w .u8 ao len cap (ints l)) {K : Nat} (hK : K ≤ len) : ∃ qa, Sl w .u8 qa (len - K) (cap - K) (ints (l.drop K)) ∧
    (∀ w : World, (Instr.slice 36 (.slice ao len cap) (some (.int .i64 (K : Int))) none none).run Try.prog w = .ok (.slice qa (len - K) (cap - K)) w) ∧
    (∀ w : World, (Instr.sliceAt 36 (.slice ao len cap) (some (.int .i64 (K : Int))) none none).run Try.prog w = .ok (.slice qa (len - K) (cap - K)) w) := by
  have hcap := h.2.1
  have hr : ∀ w : World, (Instr.slice 36 (.slice ao len cap) (some (.int .i64 (K : Int))) none none).run Try.prog w = .ok (.slice (if cap = K then ao else ao.map (·.add (K * 1))) (len - K) (cap - K)) w := fun w => by
    have hr := run_slice_l (P := Try.prog) w 36 ao len cap V.under_bytes .i64 (K : Int) (by omega) (by omega)
    rw [V.elem_bytes, V.size_u8] at hr
    simp only [Result.andThen_ok, Int.toNat_natCast, sliced] at hr
    exact hr
  refine ⟨_, ?_, hr, fun w => ?_⟩
  · have := h.part K len hK (Nat.le_refl _)
    rw [List.take_of_length_le (by rw [h.1]; exact Nat.le_refl _), ← ints_drop] at this
    exact this
  · rw [run_sliceAt_slice (P := Try.prog) w 36 (.slice ao len cap) (some (.int .i64 (K : Int))) none none V.under_bytes]; exact hr w
/-- What Of answers, where the rest could be read already ahead of the call. -/
def OfAt (W : World) (l : List Nat) (kind : Int) (w : World) (e : Ending) (w' : World) : Prop := ∃ a c, e = .returned (.tuple #[(Z.oV l kind).v, .slice a (Z.oR l kind).length c, .int .i64 ((Z.oE l kind : Nat) : Int)]) ∧ Sl W .u8 a (Z.oR l kind).length c (ints (Z.oR l kind)) ∧ Below w.heap.size w w'
theorem OfAt.no {W : World} {l : List Nat} {kind : Int} {w w' : World} {E : Nat} (h : Z.oE l kind = E) (h0 : E ≠ 0) (hb : Below w.heap.size w w') : OfAt W l kind w (.returned (.tuple #[.agg #[.int .i64 0, .int .i64 0, .string ⟨#[]⟩], .slice none 0 0, .int .i64 ((E : Nat) : Int)])) w' := by
  subst h
  have e1 : Z.oV l kind = ⟨0, 0, ⟨#[]⟩⟩ := by unfold Z.oV; rw [if_neg h0]
  have e2 : Z.oR l kind = [] := by unfold Z.oR; rw [if_neg h0]
  unfold OfAt; rw [e1, e2]
  exact ⟨none, 0, rfl, Sl.nil _ _, hb⟩
theorem OfAt.yes {W : World} {l r : List Nat} {kind k i : Int} {s : ByteArray} {w w' : World} {a : Option Addr} {n c : Nat} (h : Z.oE l kind = 0) (hw : Z.oW l kind = ⟨k, i, s⟩) (hr : Z.oS l kind = r) (hn : r.length = n) (hs : Sl W .u8 a n c (ints r)) (hb : Below w.heap.size w w') : OfAt W l kind w (.returned (.tuple #[.agg #[.int .i64 k, .int .i64 i, .string s], .slice a n c, .int .i64 0])) w' := by
  have e1 : Z.oV l kind = ⟨k, i, s⟩ := by unfold Z.oV; rw [if_pos h]; exact hw
  have e2 : Z.oR l kind = r := by unfold Z.oR; rw [if_pos h]; exact hr
  subst hn
  unfold OfAt; rw [e1, e2, h]
  exact ⟨a, c, rfl, hs, hb⟩
theorem OfAt.ans {l : List Nat} {kind : Int} {w w' : World} {e : Ending} (h : OfAt w l kind w e w') : OfAns l kind w e w' := by
  obtain ⟨a, c, h1, h2, h3⟩ := h
  exact ⟨a, c, h1, h2.below h3, h3⟩
end Go.Proofs.Ytmhfpipeoojacaa
/- The closure that reads a value, and what it leaves of the bytes. -/
namespace Go.Proofs.Ytmhfpipeoojacaa
set_option linter.unusedVariables false
open Go.RowKit

/-- The head of bytes that can be read. -/
theorem head_of {w : World} {ao : Option Addr} {len cap : Nat} {l : List Nat} (h : Sl w .u8 ao len cap (ints l)) {K : Nat} (hK : K ≤ len) : ∃ qa, Sl w .u8 qa K cap (ints (l.take K)) ∧
    (∀ w : World, (Instr.slice 36 (.slice ao len cap) none (some (.int .i64 (K : Int))) none).run Try.prog w = .ok (.slice qa K cap) w) ∧
    (∀ w : World, (Instr.sliceAt 36 (.slice ao len cap) none (some (.int .i64 (K : Int))) none).run Try.prog w = .ok (.slice qa K cap) w) := by
  have hcap := h.2.1
  have hr : ∀ w : World, (Instr.slice 36 (.slice ao len cap) none (some (.int .i64 (K : Int))) none).run Try.prog w = .ok (.slice (if cap = 0 then ao else ao.map (·.add (0 * 1))) K cap) w := fun w => by
    have hr := run_slice_h (P := Try.prog) w 36 ao len cap V.under_bytes .i64 (K : Int) (by omega) (by omega)
    rw [V.elem_bytes, V.size_u8] at hr
    simp only [Result.andThen_ok, Int.toNat_natCast, sliced, Nat.sub_zero] at hr
    exact hr
  refine ⟨_, ?_, hr, fun w => ?_⟩
  · have := h.part 0 K (Nat.zero_le _) hK
    rw [List.drop_zero, ← ints_take] at this
    exact this
  · rw [run_sliceAt_slice (P := Try.prog) w 36 (.slice ao len cap) none (some (.int .i64 (K : Int))) none V.under_bytes]; exact hr w
/-- A value, and one more, told. -/
theorem results_val1 {fn : Func} {p u : Tmp} (h : fn.results = #[.cell p 24, .tmp u]) (tmps : Array Value) (w : World) (g : Nat) {k i : Int} {s : ByteArray} (hp : tmps.getD p undef = .pointer (some ⟨g, 0, none⟩)) (hA : At w g k i s) :
    (results fn tmps).run Try.prog w = .ok (.tuple #[.agg #[.int .i64 k, .int .i64 i, .string s], tmps.getD u undef]) w := by
  have hp' : tmps[p]?.getD undef = .pointer (some ⟨g, 0, none⟩) := by simpa using hp
  unfold At at hA
  simp [results, h, hp', asAddr, run_loadVar_row w g 24 24 _ (0, 0) _ hA Try.underlying24 rfl (by kernel_rfl)]
/-- What the closure leaves. -/
def NextAns (B : Nat) (l : List Nat) (kind : Int) (w : World) (e : Ending) (w' : World) : Prop :=
  e = .returned (.tuple #[(Z.oV l kind).v, .int .i64 ((Z.oE l kind : Nat) : Int)]) ∧ (∃ a n c, w'.heap[B]? = some (.cells #[.slice a n c] 36 (0, 0)) ∧ (Z.oE l kind = 0 → n = (Z.oR l kind).length ∧ Sl w' .u8 a n c (ints (Z.oR l kind)))) ∧ Kept (fun k => k = B) w w'

end Go.Proofs.Ytmhfpipeoojacaa

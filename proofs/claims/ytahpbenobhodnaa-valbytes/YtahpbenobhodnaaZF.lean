/- The contract of the reference's Of. -/
import Derived.Test.YtahpbenobhodnaaZE
import Derived.Test.YtahpbenobhodnaaZ9
import Derived.Test.YtahpbenobhodnaaG5
import Derived.Test.YtahpbenobhodnaaV4
namespace Go.Proofs.Ytahpbenobhodnaa
set_option linter.unusedVariables false
open Go.RowKit

/-- The rest of bytes that can be read. -/
theorem rest_of {w : World} {ao : Option Addr} {len cap : Nat} {l : List Nat} (h : Sl w .u8 ao len cap (ints l)) {K : Nat} (hK : K ≤ len) : ∃ qa, Sl w .u8 qa (len - K) (cap - K) (ints (l.drop K)) ∧
    (∀ w : World, (Instr.slice 24 (.slice ao len cap) (some (.int .i64 (K : Int))) none none).run Try.prog w = .ok (.slice qa (len - K) (cap - K)) w) ∧
    (∀ w : World, (Instr.sliceAt 24 (.slice ao len cap) (some (.int .i64 (K : Int))) none none).run Try.prog w = .ok (.slice qa (len - K) (cap - K)) w) := by
  have hcap := h.2.1
  have hr : ∀ w : World, (Instr.slice 24 (.slice ao len cap) (some (.int .i64 (K : Int))) none none).run Try.prog w = .ok (.slice (if cap = K then ao else ao.map (·.add (K * 1))) (len - K) (cap - K)) w := fun w => by
    have hr := run_slice_l (P := Try.prog) w 24 ao len cap V.under_bytes .i64 (K : Int) (by omega) (by omega)
    rw [V.elem_bytes, V.size_u8] at hr
    simp only [Result.andThen_ok, Int.toNat_natCast, sliced] at hr
    exact hr
  refine ⟨_, ?_, hr, fun w => ?_⟩
  · have := h.part K len hK (Nat.le_refl _)
    rw [List.take_of_length_le (by rw [h.1]; exact Nat.le_refl _), ← ints_drop] at this
    exact this
  · rw [run_sliceAt_slice (P := Try.prog) w 24 (.slice ao len cap) (some (.int .i64 (K : Int))) none none V.under_bytes]; exact hr w
set_option maxHeartbeats 1000000 in
theorem uof_int (ao : Option Addr) (len cap : Nat) (l : List Nat) (w : World) (h : Sl w .u8 ao len cap (ints l)) (h256 : ∀ x ∈ l, x < 256) (hm : len ≤ 140737488355328) :
    Calls Try.prog 13 #[.slice ao len cap, .int .i64 1] w (OfAns l 1 w) := by
  have hl : l.length = len := by rw [← h.1, ints_length]
  have hA := At.new w 0 0 ⟨#[]⟩
  have b0 := hide (below_one w (.cells #[.int .i64 0, .int .i64 0, .string ⟨#[]⟩] 23))
  have HSB := hide (h.below b0.out)
  have HG := hide (rget_any ao len cap l _ HSB.out h256 hm)
  have HL := hide hl
  have HO := hide (oE_int l)
  by_cases hg : E.gE l = 0
  · obtain ⟨g1, _, _, _, _, _⟩ := E.gE_zero hg h256
    have gN := E.gN_lt h256
    rw [hg] at HO HG
    obtain ⟨K, hKe⟩ : ∃ K, E.gK l = K := ⟨_, rfl⟩
    obtain ⟨N, hNe⟩ : ∃ N : Int, ((E.gN l : Nat) : Int) = N := ⟨_, rfl⟩
    have hK : K ≤ len := by omega
    have HZ := hide fun w => rzag_any N w (by omega) (by omega)
    obtain ⟨X, hX⟩ : ∃ X, E.zag N.toNat = X := ⟨_, rfl⟩
    rw [hX] at HZ
    rw [hKe, hNe] at HG
    have HX : Hid (E.zag (E.gN l) = X) := by show _ = _; rw [← hX, ← hNe, Int.toNat_natCast]
    have HKK := hide hKe
    obtain ⟨qa, hv, hr, hr2⟩ := rest_of h hK
    have HV := hide hv
    clear hv
    clear hX hNe hKe gN g1 hg h h256 hl
    go_enter Try.func13, Try.ntmps13
    go_wp2_with fail
    refine HG.out.mono ?_
    rintro e w1 ⟨rfl, rfl⟩
    clear HG
    replace hA := hide hA
    go_wp2_with fail
    go_region_with (go_at_call 34; refine (HZ.out _).mono ?_; rintro e w2 ⟨rfl, rfl⟩)
    go_wp2
    refine bodyPost_ret (results_val (k := 1) (i := X) (s := ⟨#[]⟩) Try.results13 _ _ w.heap.size rfl ?h1) rfl ?h2
    case h1 => exact At.new w 1 X ⟨#[]⟩
    case h2 => exact OfAns.yes HO.out (by rw [oW_int, HX.out]) (by rw [oS_int, HKK.out]) (by rw [List.length_drop, HL.out]) (HV.out.below (below_one w _).drew) (below_one w _).drew
  · obtain ⟨gK, gN⟩ := E.g_zero hg
    obtain ⟨G, hG⟩ : ∃ G : Nat, E.gE l = G := ⟨_, rfl⟩
    rw [hG] at hg HO HG
    obtain ⟨e, he⟩ : ∃ e : Int, ((G : Nat) : Int) = e := ⟨_, rfl⟩
    have hg3 : e ≠ 0 := by omega
    rw [he] at HG
    have HEE := hide he
    clear hG he h h256 hl gK gN
    obtain ⟨a1, a2, a3⟩ := hA.cells
    obtain ⟨f1, f2, f3⟩ := hA.thawed
    replace hA := hide hA
    generalize ((E.gK l : Nat) : Int) = K at HG
    generalize ((E.gN l : Nat) : Int) = N at HG
    go_enter Try.func13, Try.ntmps13
    go_wp2_with fail
    refine HG.out.mono ?_
    rintro e' w1 ⟨rfl, rfl⟩
    clear HG
    go_wp2
    refine bodyPost_ret (results_val Try.results13 _ _ w.heap.size rfl hA.out) rfl ?_
    have := OfAns.no HO.out hg b0.out
    rw [HEE.out] at this
    exact this
theorem uof_short (ao : Option Addr) (len cap : Nat) (l : List Nat) (w : World) (hl : l.length = len) (h8 : len < 8) :
    Calls Try.prog 13 #[.slice ao len cap, .int .i64 2] w (OfAns l 2 w) := by
  have hA := At.new w 0 0 ⟨#[]⟩
  have b0 := hide (below_one w (.cells #[.int .i64 0, .int .i64 0, .string ⟨#[]⟩] 23))
  have HO : Hid (Z.oE l 2 = 3) := oE_short (by omega)
  clear hl
  obtain ⟨a1, a2, a3⟩ := hA.cells
  obtain ⟨f1, f2, f3⟩ := hA.thawed
  replace hA := hide hA
  go_enter Try.func13, Try.ntmps13
  go_wp2
  refine bodyPost_ret (results_val Try.results13 _ _ w.heap.size rfl hA.out) rfl ?_
  exact OfAns.no HO.out (by decide) b0.out
set_option maxHeartbeats 2000000 in
theorem uof_key (b off len cap : Nat) (l : List Nat) (w : World) (h : Sl w .u8 (some ⟨b, off, none⟩) len cap (ints l)) (h256 : ∀ x ∈ l, x < 256) (hm : len ≤ 140737488355328) (hb : b < w.heap.size) (h8 : 8 ≤ len)
    (hc : ∀ i, i < len → w.cell? ⟨b, off + i, none⟩ = some (.int .u8 ((ints l).getD i 0))) :
    Calls Try.prog 13 #[.slice (some ⟨b, off, none⟩) len cap, .int .i64 2] w (OfAns l 2 w) := by
  have hl : l.length = len := by rw [← h.1, ints_length]
  have hcap := h.2.1
  have hmax := h.2.2.1
  have hA := At.new w 0 0 ⟨#[]⟩
  have b0 := hide (below_one w (.cells #[.int .i64 0, .int .i64 0, .string ⟨#[]⟩] 23))
  have hK := Z.o8_lt h256
  have hd : ∀ i, i < 8 → (w.alloc (.cells #[.int .i64 0, .int .i64 0, .string ⟨#[]⟩] 23)).cell? ⟨b, off + i, none⟩ = some (.int .u8 ((l.getD i 0 : Nat) : Int)) := fun i hi => by
    rw [b0.out.cell (p := ⟨b, off + i, none⟩) hb, hc i (by omega), ints_getD]
  have d0 := hd 0 (by omega); have d1 := hd 1 (by omega); have d2 := hd 2 (by omega); have d3 := hd 3 (by omega)
  have d4 := hd 4 (by omega); have d5 := hd 5 (by omega); have d6 := hd 6 (by omega); have d7 := hd 7 (by omega)
  have e0 := E.getD_lt h256 0; have e1 := E.getD_lt h256 1; have e2 := E.getD_lt h256 2; have e3 := E.getD_lt h256 3
  have e4 := E.getD_lt h256 4; have e5 := E.getD_lt h256 5; have e6 := E.getD_lt h256 6; have e7 := E.getD_lt h256 7
  have hO : Z.o8 l = (((((((l.getD 0 0 * 256 + l.getD 1 0) * 256 + l.getD 2 0) * 256 + l.getD 3 0) * 256 + l.getD 4 0) * 256 + l.getD 5 0) * 256 + l.getD 6 0) * 256 + l.getD 7 0) := rfl
  simp only [Nat.add_zero] at d0
  obtain ⟨x0, h0⟩ : ∃ x : Int, ((l.getD 0 0 : Nat) : Int) = x := ⟨_, rfl⟩
  obtain ⟨x1, h1⟩ : ∃ x : Int, ((l.getD 1 0 : Nat) : Int) = x := ⟨_, rfl⟩
  obtain ⟨x2, h2⟩ : ∃ x : Int, ((l.getD 2 0 : Nat) : Int) = x := ⟨_, rfl⟩
  obtain ⟨x3, h3⟩ : ∃ x : Int, ((l.getD 3 0 : Nat) : Int) = x := ⟨_, rfl⟩
  obtain ⟨x4, h4⟩ : ∃ x : Int, ((l.getD 4 0 : Nat) : Int) = x := ⟨_, rfl⟩
  obtain ⟨x5, h5⟩ : ∃ x : Int, ((l.getD 5 0 : Nat) : Int) = x := ⟨_, rfl⟩
  obtain ⟨x6, h6⟩ : ∃ x : Int, ((l.getD 6 0 : Nat) : Int) = x := ⟨_, rfl⟩
  obtain ⟨x7, h7⟩ : ∃ x : Int, ((l.getD 7 0 : Nat) : Int) = x := ⟨_, rfl⟩
  rw [h0] at d0; rw [h1] at d1; rw [h2] at d2; rw [h3] at d3; rw [h4] at d4; rw [h5] at d5; rw [h6] at d6; rw [h7] at d7
  obtain ⟨K, hKe⟩ : ∃ K : Int, ((Z.o8 l : Nat) : Int) = K := ⟨_, rfl⟩
  obtain ⟨y1, r1⟩ : ∃ y, x0 * 256 + x1 = y := ⟨_, rfl⟩
  obtain ⟨y2, r2⟩ : ∃ y, y1 * 256 + x2 = y := ⟨_, rfl⟩
  obtain ⟨y3, r3⟩ : ∃ y, y2 * 256 + x3 = y := ⟨_, rfl⟩
  obtain ⟨y4, r4⟩ : ∃ y, y3 * 256 + x4 = y := ⟨_, rfl⟩
  obtain ⟨y5, r5⟩ : ∃ y, y4 * 256 + x5 = y := ⟨_, rfl⟩
  obtain ⟨y6, r6⟩ : ∃ y, y5 * 256 + x6 = y := ⟨_, rfl⟩
  have b1 : 0 ≤ x0 ∧ x0 < 256 := by omega
  have b2 : 0 ≤ y1 ∧ y1 < 65536 := by omega
  have b3 : 0 ≤ y2 ∧ y2 < 16777216 := by omega
  have b4 : 0 ≤ y3 ∧ y3 < 4294967296 := by omega
  have b5 : 0 ≤ y4 ∧ y4 < 1099511627776 := by omega
  have b6 : 0 ≤ y5 ∧ y5 < 281474976710656 := by omega
  have b7 : 0 ≤ y6 ∧ y6 < 72057594037927936 := by omega
  have k8 : y6 * 256 + x7 = K := by omega
  have b8 : 0 ≤ K ∧ K < 18446744073709551616 := by omega
  have q1 : 0 ≤ x1 ∧ x1 < 256 := by omega
  have q2 : 0 ≤ x2 ∧ x2 < 256 := by omega
  have q3 : 0 ≤ x3 ∧ x3 < 256 := by omega
  have q4 : 0 ≤ x4 ∧ x4 < 256 := by omega
  have q5 : 0 ≤ x5 ∧ x5 < 256 := by omega
  have q6 : 0 ≤ x6 ∧ x6 < 256 := by omega
  have q7 : 0 ≤ x7 ∧ x7 < 256 := by omega
  clear hd e0 e1 e2 e3 e4 e5 e6 e7 hO h0 h1 h2 h3 h4 h5 h6 h7 hK hc
  have HKE := hide hKe
  have HL := hide hl
  have HS := hide h
  have H2 := hide h256
  clear hKe hl h h256
  go_enter Try.func13, Try.ntmps13
  go_wp2_with fail
  refine wp_loop_rounds 9 ?_
  rw [rounds_succ]
  go_wp2_with fail
  rw [rounds_succ]
  go_wp2_with fail
  rw [rounds_succ]
  go_wp2_with fail
  rw [rounds_succ]
  go_wp2_with fail
  rw [rounds_succ]
  go_wp2_with fail
  rw [rounds_succ]
  go_wp2_with fail
  rw [rounds_succ]
  go_wp2_with fail
  rw [rounds_succ]
  go_wp2_with fail
  rw [rounds_succ]
  go_wp2_with fail
  refine (rbits_any K _ b8.1 b8.2).mono ?_
  rintro e w1 ⟨rfl, rfl⟩
  have hB := D.bt_in (k := K) b8
  obtain ⟨T, hT⟩ : ∃ T, D.bt K = T := ⟨_, rfl⟩
  rw [hT] at hB ⊢
  have HT := hide hT
  clear hT d0 d1 d2 d3 d4 d5 d6 d7 r1 r2 r3 r4 r5 r6 k8 b1 b2 b3 b4 b5 b6 b7 q1 q2 q3 q4 q5 q6 q7
  go_wp2_with fail
  refine (rkey_any T _ hB.1 hB.2).mono ?_
  rintro e w1 ⟨rfl, rfl⟩
  by_cases hk : D.ky T = K
  · rw [hk]
    have HO : Hid (Z.oE l 2 = 0) := oE_float (by have := HL.out; omega) (by rw [HKE.out, HT.out]; exact hk)
    have HW : Hid (wrap64 T = Z.sg T) := wrap64_sg hB
    obtain ⟨qa, hv, hr, hr2⟩ := rest_of (K := 8) HS.out h8
    have HV := hide hv
    have hr' : ∀ w : World, (Instr.slice 24 (.slice (some ⟨b, off, none⟩) len cap) (some (.int .i64 8)) none none).run Try.prog w = .ok (.slice qa (len - 8) (cap - 8)) w := hr
    have hr2' : ∀ w : World, (Instr.sliceAt 24 (.slice (some ⟨b, off, none⟩) len cap) (some (.int .i64 8)) none none).run Try.prog w = .ok (.slice qa (len - 8) (cap - 8)) w := hr2
    clear hv hr hr2
    obtain ⟨X, hX⟩ : ∃ X, Z.sg T = X := ⟨_, rfl⟩
    have hTX : wrap64 T = X := HW.out.trans hX
    have HX := hide hX
    clear hk hX HW
    replace hA := hide hA
    go_wp2_with fail
    go_region
    go_wp2
    refine bodyPost_ret (results_val (k := 2) (i := X) (s := ⟨#[]⟩) Try.results13 _ _ w.heap.size rfl ?h1) rfl ?h2
    case h1 => exact At.new w 2 X ⟨#[]⟩
    case h2 => exact OfAns.yes HO.out (by rw [oW_float, HKE.out, HT.out, HX.out]) (oS_float l) (by rw [List.length_drop, HL.out]) (HV.out.below (below_one w _).drew) (below_one w _).drew
  · have HO : Hid (Z.oE l 2 = 4) := oE_form (by have := HL.out; omega) (by rw [HKE.out, HT.out]; exact hk)
    obtain ⟨Y, hY⟩ : ∃ Y, D.ky T = Y := ⟨_, rfl⟩
    rw [hY] at hk ⊢
    clear hY
    obtain ⟨a1, a2, a3⟩ := hA.cells
    obtain ⟨f1, f2, f3⟩ := hA.thawed
    replace hA := hide hA
    go_wp2
    refine bodyPost_ret (results_val Try.results13 _ _ w.heap.size rfl hA.out) rfl ?_
    exact OfAns.no HO.out (by decide) b0.out
set_option maxHeartbeats 1000000 in
theorem uof_text (ao : Option Addr) (len cap : Nat) (l : List Nat) (w : World) (h : Sl w .u8 ao len cap (ints l)) (h256 : ∀ x ∈ l, x < 256) (hm : len ≤ 140737488355328) :
    Calls Try.prog 13 #[.slice ao len cap, .int .i64 3] w (OfAns l 3 w) := by
  have hA := At.new w 0 0 ⟨#[]⟩
  have b0 := hide (below_one w (.cells #[.int .i64 0, .int .i64 0, .string ⟨#[]⟩] 23))
  have HT := hide (rtotext_any ao len cap l 1024 _ (h.below b0.out) h256 hm (by omega) (by omega))
  clear h
  by_cases hg : E.xE 1024 l = 0
  · have HS : Hid (E.yS 1024 l = E.xS l) := by show _ = _; unfold E.yS; rw [if_pos hg]
    have HR : Hid (E.yR 1024 l = E.xR l) := by show _ = _; unfold E.yR; rw [if_pos hg]
    have HE := hide hg
    have HO := hide ((oE_text l).trans hg)
    clear hg
    go_enter Try.func13, Try.ntmps13
    go_wp2_with fail
    refine HT.out.mono ?_
    rintro e w1 ⟨v1, v2, rfl, ⟨rfl, q2, c2, rfl, hs2⟩, hb⟩
    rw [HE.out, HS.out, HR.out]
    rw [HR.out] at hs2
    replace hA := hA.below hb
    replace b0 := hide (bthen b0.out hb)
    replace hs2 := hide hs2
    obtain ⟨x, hx⟩ : ∃ x, strOfNums (ints (E.xS l)) = x := ⟨_, rfl⟩
    obtain ⟨n2, hn2⟩ : ∃ n2, (E.xR l).length = n2 := ⟨_, rfl⟩
    rw [hx, hn2]
    rw [hn2] at hs2
    have HX := hide hx
    have HN2 := hide hn2
    clear hb hx hn2 HT h256 HS HR HE
    obtain ⟨a1, a2, a3⟩ := hA.cells
    obtain ⟨f1, f2, f3⟩ := hA.thawed
    replace hA := hide hA
    go_wp2
    refine bodyPost_ret (results_val Try.results13 _ _ w.heap.size rfl (hA.out.set 3 0 x)) rfl ?_
    exact OfAns.yes HO.out (by rw [oW_text, HX.out]) (oS_text l) HN2.out (hs2.out.putV hA.out 3 0 x) (putV_below 3 0 x b0.out (Nat.le_refl _))
  · have HO := hide (oE_text l)
    obtain ⟨G, hG⟩ : ∃ G : Nat, E.xE 1024 l = G := ⟨_, rfl⟩
    rw [hG] at hg HO
    obtain ⟨e, he⟩ : ∃ e : Int, ((G : Nat) : Int) = e := ⟨_, rfl⟩
    have hg3 : e ≠ 0 := by omega
    have HEE := hide he
    have HG := hide hG
    clear hG he
    go_enter Try.func13, Try.ntmps13
    go_wp2_with fail
    refine HT.out.mono ?_
    rintro e' w1 ⟨v1, v2, rfl, ⟨rfl, q2, c2, rfl, _⟩, hb⟩
    rw [HG.out, HEE.out]
    replace hA := hA.below hb
    replace b0 := hide (bthen b0.out hb)
    generalize (E.yR 1024 l).length = n2
    generalize strOfNums (ints (E.yS 1024 l)) = x
    clear hb HT h256
    obtain ⟨a1, a2, a3⟩ := hA.cells
    obtain ⟨f1, f2, f3⟩ := hA.thawed
    replace hA := hide hA
    go_wp2
    refine bodyPost_ret (results_val Try.results13 _ _ w.heap.size rfl (hA.out.set 0 0 ⟨#[]⟩)) rfl ?_
    have := OfAns.no HO.out hg (putV_below 0 0 ⟨#[]⟩ b0.out (Nat.le_refl _))
    rw [HEE.out] at this
    exact this
theorem uof_any (ao : Option Addr) (len cap : Nat) (l : List Nat) (kind : Int) (w : World) (h : Sl w .u8 ao len cap (ints l)) (h256 : ∀ x ∈ l, x < 256) (hm : len ≤ 140737488355328) :
    Calls Try.prog 13 #[.slice ao len cap, .int .i64 kind] w (OfAns l kind w) := by
  have hl : l.length = len := by rw [← h.1, ints_length]
  by_cases k0 : kind = 0
  · subst k0
    have hA := At.new w 0 0 ⟨#[]⟩
    have b0 := hide (below_one w (.cells #[.int .i64 0, .int .i64 0, .string ⟨#[]⟩] 23))
    have HS := hide (h.below b0.out)
    have HL := hide hl
    clear h h256 hl
    obtain ⟨a1, a2, a3⟩ := hA.cells
    obtain ⟨f1, f2, f3⟩ := hA.thawed
    replace hA := hide hA
    go_enter Try.func13, Try.ntmps13
    go_wp2
    refine bodyPost_ret (results_val Try.results13 _ _ w.heap.size rfl hA.out) rfl ?_
    exact OfAns.yes (oE_null l) (oW_null l) (oS_null l) HL.out HS.out b0.out
  · by_cases k1 : kind = 1
    · subst k1
      exact uof_int ao len cap l w h h256 hm
    · by_cases k2 : kind = 2
      · subst k2
        by_cases h8 : len < 8
        · exact uof_short ao len cap l w hl h8
        · rcases h.2.2.2.2 with h5 | ⟨b, off, rfl, hlt, h5⟩
          · omega
          · exact uof_key b off len cap l w h h256 hm hlt (by omega) h5
      · by_cases k3 : kind = 3
        · subst k3
          exact uof_text ao len cap l w h h256 hm
        · have hA := At.new w 0 0 ⟨#[]⟩
          have b0 := hide (below_one w (.cells #[.int .i64 0, .int .i64 0, .string ⟨#[]⟩] 23))
          clear h h256 hl
          obtain ⟨a1, a2, a3⟩ := hA.cells
          obtain ⟨f1, f2, f3⟩ := hA.thawed
          replace hA := hide hA
          go_enter Try.func13, Try.ntmps13
          go_wp2
          refine bodyPost_ret (results_val Try.results13 _ _ w.heap.size rfl hA.out) rfl ?_
          exact OfAns.no (oE_else k0 k1 k2 k3) (by decide) b0.out
end Go.Proofs.Ytahpbenobhodnaa

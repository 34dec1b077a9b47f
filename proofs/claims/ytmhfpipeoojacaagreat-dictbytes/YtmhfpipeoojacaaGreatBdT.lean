/- The contract of the reference's Of. -/
import Derived.Test.YtmhfpipeoojacaaGreatBdS
import Derived.Test.YtmhfpipeoojacaaGreatBdR
namespace Go.Proofs.YtmhfpipeoojacaaGreat
set_option linter.unusedVariables false
open Go.RowKit

/-- The rest of bytes that can be read. -/
theorem rest_of {w : World} {ao : Option Addr} {len cap : Nat} {l : List Nat} (h : Sl w .u8 ao len cap (ints l)) {K : Nat} (hK : K ≤ len) : ∃ qa, Sl w .u8 qa (len - K) (cap - K) (ints (l.drop K)) ∧
    (∀ w : World, (Instr.slice 23 (.slice ao len cap) (some (.int .i64 (K : Int))) none none).run Tryz.prog w = .ok (.slice qa (len - K) (cap - K)) w) ∧
    (∀ w : World, (Instr.sliceAt 23 (.slice ao len cap) (some (.int .i64 (K : Int))) none none).run Tryz.prog w = .ok (.slice qa (len - K) (cap - K)) w) := by
  have hcap := h.2.1
  have hr : ∀ w : World, (Instr.slice 23 (.slice ao len cap) (some (.int .i64 (K : Int))) none none).run Tryz.prog w = .ok (.slice (if cap = K then ao else ao.map (·.add (K * 1))) (len - K) (cap - K)) w := fun w => by
    have hr := run_slice_l (P := Tryz.prog) w 23 ao len cap V.under_bytes .i64 (K : Int) (by omega) (by omega)
    rw [V.elem_bytes, V.size_u8] at hr
    simp only [Result.andThen_ok, Int.toNat_natCast, sliced] at hr
    exact hr
  refine ⟨_, ?_, hr, fun w => ?_⟩
  · have := h.part K len hK (Nat.le_refl _)
    rw [List.take_of_length_le (by rw [h.1]; exact Nat.le_refl _), ← ints_drop] at this
    exact this
  · rw [run_sliceAt_slice (P := Tryz.prog) w 23 (.slice ao len cap) (some (.int .i64 (K : Int))) none none V.under_bytes]; exact hr w
/-- What Of answers, where the rest could be read already ahead of the call. -/
def OfAt (W : World) (l : List Nat) (kind : Int) (w : World) (e : Ending) (w' : World) : Prop := ∃ a c, e = .returned (.tuple #[(Z.oV l kind).v, .slice a (Z.oR l kind).length c, .int .i64 ((Z.oE l kind : Nat) : Int)]) ∧ Sl W .u8 a (Z.oR l kind).length c (ints (Z.oR l kind)) ∧ Below w.heap.size w w'
theorem OfAt.no {W : World} {l : List Nat} {kind : Int} {w w' : World} {E : Nat} (h : Z.oE l kind = E) (h0 : E ≠ 0) (hb : Below w.heap.size w w') : OfAt W l kind w (.returned (.tuple #[.agg #[.int .i64 0, .int .i64 0, .string ⟨#[]⟩], .slice none 0 0, .int .i64 ((E : Nat) : Int)])) w' := by
  subst h
  have e1 : Z.oV l kind = ⟨0, 0, ⟨#[]⟩⟩ := by unfold Z.oV; rw [if_neg h0]
  have e2 : Z.oR l kind = [] := by unfold Z.oR; rw [if_neg h0]
  unfold OfAt; rw [e1, e2]
  exact ⟨none, 0, rfl, Sl.nil _ _, hb⟩
theorem OfAt.yes {W : World} {l r : List Nat} {kind k i : Int} {s : ByteArray} {w w' : World} {a : Option Addr} {n c : Nat} (h : Z.oE l kind = 0) (hw : Z.oW l kind = ⟨k, i, s⟩) (hr : Z.oS l kind = r) (hn : r.length = n) (hs : Sl W .u8 a n c (ints r)) (hb : Below w.heap.size w w') : OfAt W l kind w (.returned (.tuple #[.agg #[.int .i64 k, .int .i64 i, .string s], .slice a n c, .int .i64 0])) w' := by
  have e1 : Z.oV l kind = ⟨k, i, s⟩ := by unfold Z.oV; rw [if_pos h]; exact hw
  have e2 : Z.oR l kind = r := by unfold Z.oR; rw [if_pos h]; exact hr
  subst hn
  unfold OfAt; rw [e1, e2, h]
  exact ⟨a, c, rfl, hs, hb⟩
theorem OfAt.ans {l : List Nat} {kind : Int} {w w' : World} {e : Ending} (h : OfAt w l kind w e w') : OfAns l kind w e w' := by
  obtain ⟨a, c, h1, h2, h3⟩ := h
  exact ⟨a, c, h1, h2.below h3, h3⟩
set_option maxHeartbeats 1000000 in
theorem uof_int (ao : Option Addr) (len cap : Nat) (l : List Nat) (w : World) (W : World) (h0 : Sl W .u8 ao len cap (ints l)) (h : Sl w .u8 ao len cap (ints l)) (h256 : ∀ x ∈ l, x < 256) (hm : len ≤ 140737488355328) :
    Calls Tryz.prog 72 #[.slice ao len cap, .int .i64 1] w (OfAt W l 1 w) := by
  have hl : l.length = len := by rw [← h.1, ints_length]
  have hA := At.new w 0 0 ⟨#[]⟩
  have b0 := hide (below_one w (.cells #[.int .i64 0, .int .i64 0, .string ⟨#[]⟩] 45))
  have HSB := hide (h.below b0.out)
  have HG := hide (rget_any ao len cap l _ HSB.out h256 hm)
  have HL := hide hl
  have HO := hide (oE_int l)
  by_cases hg : E.gE l = 0
  · obtain ⟨g1, _, _, _, _, _⟩ := E.gE_zero hg h256
    have gN := E.gN_lt h256
    rw [hg] at HO HG
    obtain ⟨K, hKe⟩ : ∃ K, E.gK l = K := ⟨_, rfl⟩
    obtain ⟨N, hNe⟩ : ∃ N : Int, ((E.gN l : Nat) : Int) = N := ⟨_, rfl⟩
    have hK : K ≤ len := by omega
    have HZ := hide fun w => rzag_any N w (by omega) (by omega)
    obtain ⟨X, hX⟩ : ∃ X, E.zag N.toNat = X := ⟨_, rfl⟩
    rw [hX] at HZ
    rw [hKe, hNe] at HG
    have HX : Hid (E.zag (E.gN l) = X) := by show _ = _; rw [← hX, ← hNe, Int.toNat_natCast]
    have HKK := hide hKe
    obtain ⟨qa, hv, hr, hr2⟩ := rest_of h0 hK
    have HV := hide hv
    clear hv
    clear hX hNe hKe gN g1 hg h h0 h256 hl
    go_enter Tryz.func72, Tryz.ntmps72
    go_wp2_with fail
    refine HG.out.mono ?_
    rintro e w1 ⟨rfl, rfl⟩
    clear HG
    replace hA := hide hA
    go_wp2_with fail
    go_region_with (go_at_call 102; refine (HZ.out _).mono ?_; rintro e w2 ⟨rfl, rfl⟩)
    go_wp2
    refine bodyPost_ret (results_val (k := 1) (i := X) (s := ⟨#[]⟩) Tryz.results72 _ _ w.heap.size rfl ?h1) rfl ?h2
    case h1 => exact At.new w 1 X ⟨#[]⟩
    case h2 => exact OfAt.yes HO.out (by rw [oW_int, HX.out]) (by rw [oS_int, HKK.out]) (by rw [List.length_drop, HL.out]) HV.out (below_one w _).drew
  · obtain ⟨gK, gN⟩ := E.g_zero hg
    obtain ⟨G, hG⟩ : ∃ G : Nat, E.gE l = G := ⟨_, rfl⟩
    rw [hG] at hg HO HG
    obtain ⟨e, he⟩ : ∃ e : Int, ((G : Nat) : Int) = e := ⟨_, rfl⟩
    have hg3 : e ≠ 0 := by omega
    rw [he] at HG
    have HEE := hide he
    clear hG he h h0 h256 hl gK gN
    obtain ⟨a1, a2, a3⟩ := hA.cells
    obtain ⟨f1, f2, f3⟩ := hA.thawed
    replace hA := hide hA
    generalize ((E.gK l : Nat) : Int) = K at HG
    generalize ((E.gN l : Nat) : Int) = N at HG
    go_enter Tryz.func72, Tryz.ntmps72
    go_wp2_with fail
    refine HG.out.mono ?_
    rintro e' w1 ⟨rfl, rfl⟩
    clear HG
    go_wp2
    refine bodyPost_ret (results_val Tryz.results72 _ _ w.heap.size rfl hA.out) rfl ?_
    have := OfAt.no (W := W) HO.out hg b0.out
    rw [HEE.out] at this
    exact this
theorem uof_short (ao : Option Addr) (len cap : Nat) (l : List Nat) (w : World) (W : World) (hl : l.length = len) (h8 : len < 8) :
    Calls Tryz.prog 72 #[.slice ao len cap, .int .i64 2] w (OfAt W l 2 w) := by
  have hA := At.new w 0 0 ⟨#[]⟩
  have b0 := hide (below_one w (.cells #[.int .i64 0, .int .i64 0, .string ⟨#[]⟩] 45))
  have HO : Hid (Z.oE l 2 = 3) := oE_short (by omega)
  clear hl
  obtain ⟨a1, a2, a3⟩ := hA.cells
  obtain ⟨f1, f2, f3⟩ := hA.thawed
  replace hA := hide hA
  go_enter Tryz.func72, Tryz.ntmps72
  go_wp2
  refine bodyPost_ret (results_val Tryz.results72 _ _ w.heap.size rfl hA.out) rfl ?_
  exact OfAt.no HO.out (by decide) b0.out
set_option maxHeartbeats 2000000 in
theorem uof_key (b off len cap : Nat) (l : List Nat) (w : World) (W : World) (hW : Sl W .u8 (some ⟨b, off, none⟩) len cap (ints l)) (h : Sl w .u8 (some ⟨b, off, none⟩) len cap (ints l)) (h256 : ∀ x ∈ l, x < 256) (hm : len ≤ 140737488355328) (hb : b < w.heap.size) (h8 : 8 ≤ len)
    (hc : ∀ i, i < len → w.cell? ⟨b, off + i, none⟩ = some (.int .u8 ((ints l).getD i 0))) :
    Calls Tryz.prog 72 #[.slice (some ⟨b, off, none⟩) len cap, .int .i64 2] w (OfAt W l 2 w) := by
  have hl : l.length = len := by rw [← h.1, ints_length]
  have hcap := h.2.1
  have hmax := h.2.2.1
  have hA := At.new w 0 0 ⟨#[]⟩
  have b0 := hide (below_one w (.cells #[.int .i64 0, .int .i64 0, .string ⟨#[]⟩] 45))
  have hK := Z.o8_lt h256
  have hd : ∀ i, i < 8 → (w.alloc (.cells #[.int .i64 0, .int .i64 0, .string ⟨#[]⟩] 45)).cell? ⟨b, off + i, none⟩ = some (.int .u8 ((l.getD i 0 : Nat) : Int)) := fun i hi => by
    rw [b0.out.cell (p := ⟨b, off + i, none⟩) hb, hc i (by omega), ints_getD]
  have d0 := hd 0 (by omega); have d1 := hd 1 (by omega); have d2 := hd 2 (by omega); have d3 := hd 3 (by omega)
  have d4 := hd 4 (by omega); have d5 := hd 5 (by omega); have d6 := hd 6 (by omega); have d7 := hd 7 (by omega)
  have e0 := E.getD_lt h256 0; have e1 := E.getD_lt h256 1; have e2 := E.getD_lt h256 2; have e3 := E.getD_lt h256 3
  have e4 := E.getD_lt h256 4; have e5 := E.getD_lt h256 5; have e6 := E.getD_lt h256 6; have e7 := E.getD_lt h256 7
  have hO : Z.o8 l = (((((((l.getD 0 0 * 256 + l.getD 1 0) * 256 + l.getD 2 0) * 256 + l.getD 3 0) * 256 + l.getD 4 0) * 256 + l.getD 5 0) * 256 + l.getD 6 0) * 256 + l.getD 7 0) := rfl
  simp only [Nat.add_zero] at d0
  obtain ⟨x0, h0⟩ : ∃ x : Int, ((l.getD 0 0 : Nat) : Int) = x := ⟨_, rfl⟩
  obtain ⟨x1, h1⟩ : ∃ x : Int, ((l.getD 1 0 : Nat) : Int) = x := ⟨_, rfl⟩
  obtain ⟨x2, h2⟩ : ∃ x : Int, ((l.getD 2 0 : Nat) : Int) = x := ⟨_, rfl⟩
  obtain ⟨x3, h3⟩ : ∃ x : Int, ((l.getD 3 0 : Nat) : Int) = x := ⟨_, rfl⟩
  obtain ⟨x4, h4⟩ : ∃ x : Int, ((l.getD 4 0 : Nat) : Int) = x := ⟨_, rfl⟩
  obtain ⟨x5, h5⟩ : ∃ x : Int, ((l.getD 5 0 : Nat) : Int) = x := ⟨_, rfl⟩
  obtain ⟨x6, h6⟩ : ∃ x : Int, ((l.getD 6 0 : Nat) : Int) = x := ⟨_, rfl⟩
  obtain ⟨x7, h7⟩ : ∃ x : Int, ((l.getD 7 0 : Nat) : Int) = x := ⟨_, rfl⟩
  rw [h0] at d0; rw [h1] at d1; rw [h2] at d2; rw [h3] at d3; rw [h4] at d4; rw [h5] at d5; rw [h6] at d6; rw [h7] at d7
  obtain ⟨K, hKe⟩ : ∃ K : Int, ((Z.o8 l : Nat) : Int) = K := ⟨_, rfl⟩
  obtain ⟨y1, r1⟩ : ∃ y, x0 * 256 + x1 = y := ⟨_, rfl⟩
  obtain ⟨y2, r2⟩ : ∃ y, y1 * 256 + x2 = y := ⟨_, rfl⟩
  obtain ⟨y3, r3⟩ : ∃ y, y2 * 256 + x3 = y := ⟨_, rfl⟩
  obtain ⟨y4, r4⟩ : ∃ y, y3 * 256 + x4 = y := ⟨_, rfl⟩
  obtain ⟨y5, r5⟩ : ∃ y, y4 * 256 + x5 = y := ⟨_, rfl⟩
  obtain ⟨y6, r6⟩ : ∃ y, y5 * 256 + x6 = y := ⟨_, rfl⟩
  have b1 : 0 ≤ x0 ∧ x0 < 256 := by omega
  have b2 : 0 ≤ y1 ∧ y1 < 65536 := by omega
  have b3 : 0 ≤ y2 ∧ y2 < 16777216 := by omega
  have b4 : 0 ≤ y3 ∧ y3 < 4294967296 := by omega
  have b5 : 0 ≤ y4 ∧ y4 < 1099511627776 := by omega
  have b6 : 0 ≤ y5 ∧ y5 < 281474976710656 := by omega
  have b7 : 0 ≤ y6 ∧ y6 < 72057594037927936 := by omega
  have k8 : y6 * 256 + x7 = K := by omega
  have b8 : 0 ≤ K ∧ K < 18446744073709551616 := by omega
  have q1 : 0 ≤ x1 ∧ x1 < 256 := by omega
  have q2 : 0 ≤ x2 ∧ x2 < 256 := by omega
  have q3 : 0 ≤ x3 ∧ x3 < 256 := by omega
  have q4 : 0 ≤ x4 ∧ x4 < 256 := by omega
  have q5 : 0 ≤ x5 ∧ x5 < 256 := by omega
  have q6 : 0 ≤ x6 ∧ x6 < 256 := by omega
  have q7 : 0 ≤ x7 ∧ x7 < 256 := by omega
  clear hd e0 e1 e2 e3 e4 e5 e6 e7 hO h0 h1 h2 h3 h4 h5 h6 h7 hK hc
  have HKE := hide hKe
  have HL := hide hl
  have HS := hide hW
  have H2 := hide h256
  clear hKe hl h hW h256
  go_enter Tryz.func72, Tryz.ntmps72
  go_wp2_with fail
  refine wp_loop_rounds 9 ?_
  rw [rounds_succ]
  go_wp2_with fail
  rw [rounds_succ]
  go_wp2_with fail
  rw [rounds_succ]
  go_wp2_with fail
  rw [rounds_succ]
  go_wp2_with fail
  rw [rounds_succ]
  go_wp2_with fail
  rw [rounds_succ]
  go_wp2_with fail
  rw [rounds_succ]
  go_wp2_with fail
  rw [rounds_succ]
  go_wp2_with fail
  rw [rounds_succ]
  go_wp2_with fail
  refine (rbits_any K _ b8.1 b8.2).mono ?_
  rintro e w1 ⟨rfl, rfl⟩
  have hB := D.bt_in (k := K) b8
  obtain ⟨T, hT⟩ : ∃ T, D.bt K = T := ⟨_, rfl⟩
  rw [hT] at hB ⊢
  have HT := hide hT
  clear hT d0 d1 d2 d3 d4 d5 d6 d7 r1 r2 r3 r4 r5 r6 k8 b1 b2 b3 b4 b5 b6 b7 q1 q2 q3 q4 q5 q6 q7
  go_wp2_with fail
  refine (rkey_any T _ hB.1 hB.2).mono ?_
  rintro e w1 ⟨rfl, rfl⟩
  by_cases hk : D.ky T = K
  · rw [hk]
    have HO : Hid (Z.oE l 2 = 0) := oE_float (by have := HL.out; omega) (by rw [HKE.out, HT.out]; exact hk)
    have HW : Hid (wrap64 T = Z.sg T) := wrap64_sg hB
    obtain ⟨qa, hv, hr, hr2⟩ := rest_of (K := 8) HS.out h8
    have HV := hide hv
    have hr' : ∀ w : World, (Instr.slice 23 (.slice (some ⟨b, off, none⟩) len cap) (some (.int .i64 8)) none none).run Tryz.prog w = .ok (.slice qa (len - 8) (cap - 8)) w := hr
    have hr2' : ∀ w : World, (Instr.sliceAt 23 (.slice (some ⟨b, off, none⟩) len cap) (some (.int .i64 8)) none none).run Tryz.prog w = .ok (.slice qa (len - 8) (cap - 8)) w := hr2
    clear hv hr hr2
    obtain ⟨X, hX⟩ : ∃ X, Z.sg T = X := ⟨_, rfl⟩
    have hTX : wrap64 T = X := HW.out.trans hX
    have HX := hide hX
    clear hk hX HW
    replace hA := hide hA
    go_wp2_with fail
    go_region
    go_wp2
    refine bodyPost_ret (results_val (k := 2) (i := X) (s := ⟨#[]⟩) Tryz.results72 _ _ w.heap.size rfl ?h1) rfl ?h2
    case h1 => exact At.new w 2 X ⟨#[]⟩
    case h2 => exact OfAt.yes HO.out (by rw [oW_float, HKE.out, HT.out, HX.out]) (oS_float l) (by rw [List.length_drop, HL.out]) HV.out (below_one w _).drew
  · have HO : Hid (Z.oE l 2 = 4) := oE_form (by have := HL.out; omega) (by rw [HKE.out, HT.out]; exact hk)
    obtain ⟨Y, hY⟩ : ∃ Y, D.ky T = Y := ⟨_, rfl⟩
    rw [hY] at hk ⊢
    clear hY
    obtain ⟨a1, a2, a3⟩ := hA.cells
    obtain ⟨f1, f2, f3⟩ := hA.thawed
    replace hA := hide hA
    go_wp2
    refine bodyPost_ret (results_val Tryz.results72 _ _ w.heap.size rfl hA.out) rfl ?_
    exact OfAt.no HO.out (by decide) b0.out
set_option maxHeartbeats 1000000 in
theorem uof_text (ao : Option Addr) (len cap : Nat) (l : List Nat) (w : World) (W : World) (h0 : Sl W .u8 ao len cap (ints l)) (h : Sl w .u8 ao len cap (ints l)) (h256 : ∀ x ∈ l, x < 256) (hm : len ≤ 140737488355328) :
    Calls Tryz.prog 72 #[.slice ao len cap, .int .i64 3] w (OfAt W l 3 w) := by
  have hA := At.new w 0 0 ⟨#[]⟩
  have b0 := hide (below_one w (.cells #[.int .i64 0, .int .i64 0, .string ⟨#[]⟩] 45))
  have HT := hide (rtotext_at W ao len cap l 1024 _ h0 (h.below b0.out) h256 hm (by omega) (by omega))
  clear h h0
  by_cases hg : E.xE 1024 l = 0
  · have HS : Hid (E.yS 1024 l = E.xS l) := by show _ = _; unfold E.yS; rw [if_pos hg]
    have HR : Hid (E.yR 1024 l = E.xR l) := by show _ = _; unfold E.yR; rw [if_pos hg]
    have HE := hide hg
    have HO := hide ((oE_text l).trans hg)
    clear hg
    go_enter Tryz.func72, Tryz.ntmps72
    go_wp2_with fail
    refine HT.out.mono ?_
    rintro e w1 ⟨v1, v2, rfl, ⟨rfl, q2, c2, rfl, hs2⟩, hb⟩
    rw [HE.out, HS.out, HR.out]
    rw [HR.out] at hs2
    replace hA := hA.below hb
    replace b0 := hide (bthen b0.out hb)
    replace hs2 := hide hs2
    obtain ⟨x, hx⟩ : ∃ x, strOfNums (ints (E.xS l)) = x := ⟨_, rfl⟩
    obtain ⟨n2, hn2⟩ : ∃ n2, (E.xR l).length = n2 := ⟨_, rfl⟩
    rw [hx, hn2]
    rw [hn2] at hs2
    have HX := hide hx
    have HN2 := hide hn2
    clear hb hx hn2 HT h256 HS HR HE
    obtain ⟨a1, a2, a3⟩ := hA.cells
    obtain ⟨f1, f2, f3⟩ := hA.thawed
    replace hA := hide hA
    go_wp2
    refine bodyPost_ret (results_val Tryz.results72 _ _ w.heap.size rfl (hA.out.set 3 0 x)) rfl ?_
    exact OfAt.yes HO.out (by rw [oW_text, HX.out]) (oS_text l) HN2.out hs2.out (putV_below 3 0 x b0.out (Nat.le_refl _))
  · have HO := hide (oE_text l)
    obtain ⟨G, hG⟩ : ∃ G : Nat, E.xE 1024 l = G := ⟨_, rfl⟩
    rw [hG] at hg HO
    obtain ⟨e, he⟩ : ∃ e : Int, ((G : Nat) : Int) = e := ⟨_, rfl⟩
    have hg3 : e ≠ 0 := by omega
    have HEE := hide he
    have HG := hide hG
    clear hG he
    go_enter Tryz.func72, Tryz.ntmps72
    go_wp2_with fail
    refine HT.out.mono ?_
    rintro e' w1 ⟨v1, v2, rfl, ⟨rfl, q2, c2, rfl, _⟩, hb⟩
    rw [HG.out, HEE.out]
    replace hA := hA.below hb
    replace b0 := hide (bthen b0.out hb)
    generalize (E.yR 1024 l).length = n2
    generalize strOfNums (ints (E.yS 1024 l)) = x
    clear hb HT h256
    obtain ⟨a1, a2, a3⟩ := hA.cells
    obtain ⟨f1, f2, f3⟩ := hA.thawed
    replace hA := hide hA
    go_wp2
    refine bodyPost_ret (results_val Tryz.results72 _ _ w.heap.size rfl (hA.out.set 0 0 ⟨#[]⟩)) rfl ?_
    have := OfAt.no (W := W) HO.out hg (putV_below 0 0 ⟨#[]⟩ b0.out (Nat.le_refl _))
    rw [HEE.out] at this
    exact this
theorem uofAt_any (ao : Option Addr) (len cap : Nat) (l : List Nat) (kind : Int) (w : World) (W : World) (h0 : Sl W .u8 ao len cap (ints l)) (h : Sl w .u8 ao len cap (ints l)) (h256 : ∀ x ∈ l, x < 256) (hm : len ≤ 140737488355328) :
    Calls Tryz.prog 72 #[.slice ao len cap, .int .i64 kind] w (OfAt W l kind w) := by
  have hl : l.length = len := by rw [← h.1, ints_length]
  by_cases k0 : kind = 0
  · subst k0
    have hA := At.new w 0 0 ⟨#[]⟩
    have b0 := hide (below_one w (.cells #[.int .i64 0, .int .i64 0, .string ⟨#[]⟩] 45))
    have HS := hide h0
    have HL := hide hl
    clear h h0 h256 hl
    obtain ⟨a1, a2, a3⟩ := hA.cells
    obtain ⟨f1, f2, f3⟩ := hA.thawed
    replace hA := hide hA
    go_enter Tryz.func72, Tryz.ntmps72
    go_wp2
    refine bodyPost_ret (results_val Tryz.results72 _ _ w.heap.size rfl hA.out) rfl ?_
    exact OfAt.yes (oE_null l) (oW_null l) (oS_null l) HL.out HS.out b0.out
  · by_cases k1 : kind = 1
    · subst k1
      exact uof_int ao len cap l w W h0 h h256 hm
    · by_cases k2 : kind = 2
      · subst k2
        by_cases h8 : len < 8
        · exact uof_short ao len cap l w W hl h8
        · rcases h.2.2.2.2 with h5 | ⟨b, off, rfl, hlt, h5⟩
          · omega
          · exact uof_key b off len cap l w W h0 h h256 hm hlt (by omega) h5
      · by_cases k3 : kind = 3
        · subst k3
          exact uof_text ao len cap l w W h0 h h256 hm
        · have hA := At.new w 0 0 ⟨#[]⟩
          have b0 := hide (below_one w (.cells #[.int .i64 0, .int .i64 0, .string ⟨#[]⟩] 45))
          clear h h0 h256 hl
          obtain ⟨a1, a2, a3⟩ := hA.cells
          obtain ⟨f1, f2, f3⟩ := hA.thawed
          replace hA := hide hA
          go_enter Tryz.func72, Tryz.ntmps72
          go_wp2
          refine bodyPost_ret (results_val Tryz.results72 _ _ w.heap.size rfl hA.out) rfl ?_
          exact OfAt.no (oE_else k0 k1 k2 k3) (by decide) b0.out
theorem uof_any (ao : Option Addr) (len cap : Nat) (l : List Nat) (kind : Int) (w : World) (h : Sl w .u8 ao len cap (ints l)) (h256 : ∀ x ∈ l, x < 256) (hm : len ≤ 140737488355328) :
    Calls Tryz.prog 72 #[.slice ao len cap, .int .i64 kind] w (OfAns l kind w) := (uofAt_any ao len cap l kind w w h h h256 hm).mono fun _ _ h => h.ans
end Go.Proofs.YtmhfpipeoojacaaGreat
/- The closure that reads a value, and what it leaves of the bytes. -/
namespace Go.Proofs.YtmhfpipeoojacaaGreat
set_option linter.unusedVariables false
open Go.RowKit

/-- The head of bytes that can be read. -/
theorem head_of {w : World} {ao : Option Addr} {len cap : Nat} {l : List Nat} (h : Sl w .u8 ao len cap (ints l)) {K : Nat} (hK : K ≤ len) : ∃ qa, Sl w .u8 qa K cap (ints (l.take K)) ∧
    (∀ w : World, (Instr.slice 23 (.slice ao len cap) none (some (.int .i64 (K : Int))) none).run Tryz.prog w = .ok (.slice qa K cap) w) ∧
    (∀ w : World, (Instr.sliceAt 23 (.slice ao len cap) none (some (.int .i64 (K : Int))) none).run Tryz.prog w = .ok (.slice qa K cap) w) := by
  have hcap := h.2.1
  have hr : ∀ w : World, (Instr.slice 23 (.slice ao len cap) none (some (.int .i64 (K : Int))) none).run Tryz.prog w = .ok (.slice (if cap = 0 then ao else ao.map (·.add (0 * 1))) K cap) w := fun w => by
    have hr := run_slice_h (P := Tryz.prog) w 23 ao len cap V.under_bytes .i64 (K : Int) (by omega) (by omega)
    rw [V.elem_bytes, V.size_u8] at hr
    simp only [Result.andThen_ok, Int.toNat_natCast, sliced, Nat.sub_zero] at hr
    exact hr
  refine ⟨_, ?_, hr, fun w => ?_⟩
  · have := h.part 0 K (Nat.zero_le _) hK
    rw [List.drop_zero, ← ints_take] at this
    exact this
  · rw [run_sliceAt_slice (P := Tryz.prog) w 23 (.slice ao len cap) none (some (.int .i64 (K : Int))) none V.under_bytes]; exact hr w
/-- A value, and one more, told. -/
theorem results_val1 {fn : Func} {p u : Tmp} (h : fn.results = #[.cell p 45, .tmp u]) (tmps : Array Value) (w : World) (g : Nat) {k i : Int} {s : ByteArray} (hp : tmps.getD p undef = .pointer (some ⟨g, 0, none⟩)) (hA : At w g k i s) :
    (results fn tmps).run Tryz.prog w = .ok (.tuple #[.agg #[.int .i64 k, .int .i64 i, .string s], tmps.getD u undef]) w := by
  have hp' : tmps[p]?.getD undef = .pointer (some ⟨g, 0, none⟩) := by simpa using hp
  unfold At at hA
  simp [results, h, hp', asAddr, run_loadVar_row w g 45 45 _ (0, 0) _ hA Tryz.underlying45 rfl (by kernel_rfl)]
/-- What the closure leaves. -/
def NextAns (B : Nat) (l : List Nat) (kind : Int) (w : World) (e : Ending) (w' : World) : Prop :=
  e = .returned (.tuple #[(Z.oV l kind).v, .int .i64 ((Z.oE l kind : Nat) : Int)]) ∧ (∃ a n c, w'.heap[B]? = some (.cells #[.slice a n c] 23 (0, 0)) ∧ (Z.oE l kind = 0 → n = (Z.oR l kind).length ∧ Sl w' .u8 a n c (ints (Z.oR l kind)))) ∧ Kept (fun k => k = B) w w'

end Go.Proofs.YtmhfpipeoojacaaGreat
/- Of: so many values, and nothing behind them. -/
namespace Go.Proofs.YtmhfpipeoojacaaGreat
set_option linter.unusedVariables false
open Go.RowKit

/-- What Of tells: the error, and the values; none beside an error. -/
def Z.cE (b : List Nat) (n kind : Int) : Int := if Z.kindOk kind = false then 1 else if n < 0 ∨ 4096 < n then 2 else if Z.pE kind n.toNat b ≠ 0 then ((Z.pE kind n.toNat b : Nat) : Int) else if Z.pR kind n.toNat b ≠ [] then 4 else 0
def Z.cL (b : List Nat) (n kind : Int) : List Z.V := if Z.cE b n kind = 0 then Z.pL kind n.toNat b else []
theorem cE_kind {b : List Nat} {n kind : Int} (h : Z.kindOk kind = false) : Z.cE b n kind = 1 := by unfold Z.cE; rw [if_pos h]
theorem cE_many {b : List Nat} {n kind : Int} (h : Z.kindOk kind = true) (h1 : n < 0 ∨ 4096 < n) : Z.cE b n kind = 2 := by unfold Z.cE; rw [h, if_neg (by decide), if_pos h1]
theorem cE_bad {b : List Nat} {N : Nat} {kind : Int} (h : Z.kindOk kind = true) (h1 : N ≤ 4096) (h2 : Z.pE kind N b ≠ 0) : Z.cE b (N : Int) kind = ((Z.pE kind N b : Nat) : Int) := by
  unfold Z.cE; rw [h, if_neg (by decide), if_neg (by omega), Int.toNat_natCast, if_pos h2]
theorem cE_behind {b : List Nat} {N : Nat} {kind : Int} (h : Z.kindOk kind = true) (h1 : N ≤ 4096) (h2 : Z.pE kind N b = 0) (h3 : Z.pR kind N b ≠ []) : Z.cE b (N : Int) kind = 4 := by
  unfold Z.cE; rw [h, if_neg (by decide), if_neg (by omega), Int.toNat_natCast, if_neg (by rw [h2]; simp), if_pos h3]
theorem cE_ok {b : List Nat} {N : Nat} {kind : Int} (h : Z.kindOk kind = true) (h1 : N ≤ 4096) (h2 : Z.pE kind N b = 0) (h3 : Z.pR kind N b = []) : Z.cE b (N : Int) kind = 0 := by
  unfold Z.cE; rw [h, if_neg (by decide), if_neg (by omega), Int.toNat_natCast, if_neg (by rw [h2]; simp), if_neg (by rw [h3]; simp)]
theorem kind_cases {kind : Int} (h : Z.kindOk kind = true) : kind = 1 ∨ kind = 2 ∨ kind = 3 := by
  unfold Z.kindOk at h
  simp only [Bool.or_eq_true, beq_iff_eq] at h
  rcases h with (h | h) | h
  · exact .inl h
  · exact .inr (.inl h)
  · exact .inr (.inr h)
/-- What Of answers. -/
def ColOf (b : List Nat) (n kind : Int) (w : World) (e : Ending) (w' : World) : Prop := ∃ a c, e = .returned (.tuple #[.slice a (Z.cL b n kind).length c, .int .i64 (Z.cE b n kind)]) ∧ SlV w' a (Z.cL b n kind).length c (Z.cL b n kind) ∧ Below w.heap.size w w'
theorem SlV.nil (w : World) : SlV w none 0 0 [] := ⟨rfl, Nat.le_refl _, by simp [maxLen], fun _ => rfl, .inl rfl⟩
theorem ColOf.no {b : List Nat} {n kind E : Int} {w w' : World} (h : Z.cE b n kind = E) (h0 : E ≠ 0) (hb : Below w.heap.size w w') : ColOf b n kind w (.returned (.tuple #[.slice none 0 0, .int .i64 E])) w' := by
  have h1 : Z.cL b n kind = [] := by unfold Z.cL; rw [if_neg (by rw [h]; exact h0)]
  unfold ColOf; rw [h1, h]
  exact ⟨none, 0, rfl, SlV.nil _, hb⟩
theorem ColOf.yes {b : List Nat} {N : Nat} {kind : Int} {w w' : World} {B : Nat} {v : Value} (h : Z.cE b (N : Int) kind = 0) (ho : OwnV w' B v (Z.pL kind N b)) (hb : Below w.heap.size w w') : ColOf b (N : Int) kind w (.returned (.tuple #[v, .int .i64 0])) w' := by
  have h1 : Z.cL b (N : Int) kind = Z.pL kind N b := by unfold Z.cL; rw [if_pos h, Int.toNat_natCast]
  obtain ⟨a, c, rfl, hs, _⟩ := SlV.of_own ho
  unfold ColOf; rw [h1, h]
  exact ⟨a, c, rfl, hs, hb⟩
/-- The values read, and room for the others. -/
def Z.pF (kind : Int) (b : List Nat) (N j : Nat) : List Z.V := Z.pL kind j b ++ List.replicate (N - j) Z.z0
theorem pF_length {kind : Int} {b : List Nat} {N j : Nat} (h : j ≤ N) : (Z.pF kind b N j).length = N := by
  unfold Z.pF; rw [List.length_append, pL_length, List.length_replicate]; omega
theorem pF_set {kind : Int} {b : List Nat} {N j : Nat} (h : j < N) {x : Z.V} (hx : Z.oV (Z.pR kind j b) kind = x) : (Z.pF kind b N j).set j x = Z.pF kind b N (j + 1) := by
  have h1 := pL_length kind j b
  unfold Z.pF
  rw [pL_succ, hx, show N - j = (N - (j + 1)) + 1 by omega, List.replicate_succ, List.set_append_right _ _ (by omega), h1, Nat.sub_self, List.set_cons_zero]
  simp
theorem pF_at {kind : Int} {b : List Nat} {N j : Nat} (h : j < N) : (Z.pF kind b N j)[j]? = some Z.z0 := by
  have h1 := pL_length kind j b
  unfold Z.pF
  rw [List.getElem?_append_right (by omega), h1, Nat.sub_self, show N - j = (N - (j + 1)) + 1 by omega, List.replicate_succ]
  rfl
/-- Bytes do not lie in a row of values. -/
theorem sl_off_row {w : World} {a : Option Addr} {n c : Nat} {l : List Int} (h : Sl w .u8 a n c l) {B R N : Nat} {m : List Z.V} (ho : OwnV w B (.slice (some ⟨R, 0, none⟩) N N) m) : n = 0 ∨ ∀ x, a = some x → x.block ≠ R := by
  by_cases h0 : n = 0
  · exact .inl h0
  · refine .inr fun x hx hB => ?_
    rcases h.2.2.2.2 with h5 | ⟨b, off, hao, hlt, h5⟩
    · exact h0 h5
    · rw [hao] at hx
      obtain rfl := Option.some.inj hx
      have hB' : b = R := hB
      subst hB'
      have h6 := h5 0 (by omega)
      rw [Nat.add_zero] at h6
      rcases ho.2 with ⟨h7, _⟩ | ⟨g, cap, cur, h7, _, hh, hc, _, hcs, ht⟩
      · simp at h7
      · injection h7 with e1 e2 e3
        simp at e1
        subst e1 e2 e3
        simp only [World.cell?, hh] at h6
        simp at h6
        have h8 : cur[off]? = some (.int .u8 (l.getD 0 0)) := by simpa using h6
        have h9 : off < cur.size := by
          rcases Nat.lt_or_ge off cur.size with h9 | h9
          · exact h9
          · rw [Array.getElem?_eq_none h9] at h8; simp at h8
        have h10 : (cellsV m)[off]? = some (.int .u8 (l.getD 0 0)) := by
          rw [← ht, List.getElem?_take, if_pos (by omega)]
          simpa using h8
        obtain ⟨y, _, hy⟩ := List.mem_flatMap.1 (List.mem_of_getElem? h10)
        simp at hy
theorem pR_len (kind : Int) : ∀ (n : Nat) (b : List Nat), (Z.pR kind n b).length ≤ b.length
  | 0, _ => Nat.le_refl _
  | n + 1, b => by
    have h1 := pR_len kind n (Z.oR b kind)
    have h2 : (Z.oR b kind).length ≤ b.length := by
      unfold Z.oR
      split
      · unfold Z.oS
        split
        · rw [List.length_drop]; omega
        · split
          · rw [List.length_drop]; omega
          · split
            · unfold E.xR; rw [List.length_drop, List.length_drop]; omega
            · exact Nat.le_refl _
      · simp
    rw [Z.pR]
    omega
/-- What the loop keeps: the bytes left in their box, the row that is filled. -/
structure OfLoop (w : World) (B R N : Nat) (b : List Nat) (kind : Int) (j : Nat) (wr : World) : Prop where
  low : Below w.heap.size w wr
  left : ∃ a n c, wr.heap[B]? = some (.cells #[.slice a n c] 23 (0, 0)) ∧ Sl wr .u8 a n c (ints (Z.pR kind j b)) ∧ n ≤ b.length
  most : wr.heap[B + 1 + 1]? = some (.cells #[.int .i64 ((Z.most kind : Nat) : Int)] 3 (0, 0))
  knd : wr.heap[B + 1]? = some (.cells #[.int .i64 kind] 3 (0, 0))
  row : OwnV wr w.heap.size (.slice (some ⟨R, 0, none⟩) N N) (Z.pF kind b N j)
  ok : Z.pE kind j b = 0

end Go.Proofs.YtmhfpipeoojacaaGreat
/- The first 1034 bytes tell a value as all do. -/
namespace Go.Proofs.YtmhfpipeoojacaaGreat
set_option linter.unusedVariables false
open Go.RowKit

/-- The bytes ahead tell a value as all do. -/
theorem o_ahead4 {kind : Int} (hk : kind = 1 ∨ kind = 2 ∨ kind = 3) (l : List Nat) :
    Z.oE (l.take 1034) kind = Z.oE l kind ∧ Z.oV (l.take 1034) kind = Z.oV l kind ∧ (Z.oE l kind = 0 → l.drop ((l.take 1034).length - (Z.oR (l.take 1034) kind).length) = Z.oR l kind) ∧ (Z.oR (l.take 1034) kind).length ≤ (l.take 1034).length := by
  have hm : Z.most kind ≤ 1034 := by unfold Z.most; split <;> omega
  obtain ⟨a1, a2, a3, a4⟩ := o_ahead hk l
  obtain ⟨b1, b2, b3, b4⟩ := o_ahead hk (l.take 1034)
  rw [List.take_take, Nat.min_eq_left hm] at b1 b2 b3 b4
  obtain ⟨q, hq⟩ : ∃ q, l.take (Z.most kind) = q := ⟨_, rfl⟩
  have hql : q.length ≤ (l.take 1034).length := by rw [← hq, List.length_take, List.length_take]; omega
  rw [hq] at a1 a2 a3 a4 b1 b2 b3 b4
  have hE : Z.oE (l.take 1034) kind = Z.oE l kind := b1.symm.trans a1
  refine ⟨hE, b2.symm.trans a2, fun h0 => ?_, ?_⟩
  · have h1 := b3 (hE.trans h0)
    have h2 : (Z.oR (l.take 1034) kind).length = (l.take 1034).length - (q.length - (Z.oR q kind).length) := by rw [← h1, List.length_drop]
    rw [h2, show (l.take 1034).length - ((l.take 1034).length - (q.length - (Z.oR q kind).length)) = q.length - (Z.oR q kind).length by omega]
    exact a3 h0
  · by_cases h0 : Z.oE (l.take 1034) kind = 0
    · rw [← b3 h0, List.length_drop]; omega
    · unfold Z.oR; rw [if_neg h0]; simp
end Go.Proofs.YtmhfpipeoojacaaGreat

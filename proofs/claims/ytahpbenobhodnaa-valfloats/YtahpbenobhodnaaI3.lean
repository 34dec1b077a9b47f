/- The walk of the statement: the bytes of two numbers with a point that may be are in the order of these, byte by byte. -/
import Derived.Test.YtahpbenobhodnaaZ7
import Derived.Test.YtahpbenobhodnaaZB
import Derived.Test.YtahpbenobhodnaaV12
import Derived.Test.YtahpbenobhodnaaRU
namespace Go.Proofs.Ytahpbenobhodnaa
set_option linter.unusedVariables false
open Go.RowKit

/-- Bytes as one number, the highest first. -/
def Z.bv : List Nat → Nat
  | [] => 0
  | a :: x => a * 256 ^ x.length + Z.bv x
theorem bv_lt : ∀ (l : List Nat), (∀ x ∈ l, x < 256) → Z.bv l < 256 ^ l.length
  | [], _ => by simp [Z.bv]
  | a :: r, h => by
    have h1 := bv_lt r fun x hx => h x (List.mem_cons_of_mem _ hx)
    have h2 := h a List.mem_cons_self
    rw [Z.bv, List.length_cons, Nat.pow_succ]
    have h3 : a * 256 ^ r.length ≤ 255 * 256 ^ r.length := Nat.mul_le_mul_right _ (by omega)
    omega
theorem less_bv : ∀ (x y : List Nat), x.length = y.length → (∀ a ∈ x, a < 256) → (∀ a ∈ y, a < 256) → Op.bytesLess (x.map UInt8.ofNat) (y.map UInt8.ofNat) = decide (Z.bv x < Z.bv y)
  | [], [], _, _, _ => by simp [Op.bytesLess, Z.bv]
  | a :: x, b :: y, hl, hx, hy => by
    have ih := less_bv x y (by simpa using hl) (fun z hz => hx z (List.mem_cons_of_mem _ hz)) (fun z hz => hy z (List.mem_cons_of_mem _ hz))
    have hl' : x.length = y.length := by simpa using hl
    have ha := hx a List.mem_cons_self
    have hb := hy b List.mem_cons_self
    have hxl := bv_lt x fun z hz => hx z (List.mem_cons_of_mem _ hz)
    have hyl := bv_lt y fun z hz => hy z (List.mem_cons_of_mem _ hz)
    have e1 : (UInt8.ofNat a < UInt8.ofNat b) ↔ a < b := by
      rw [UInt8.lt_iff_toNat_lt, UInt8.toNat_ofNat', UInt8.toNat_ofNat', Nat.mod_eq_of_lt (by omega), Nat.mod_eq_of_lt (by omega)]
    have e2 : (UInt8.ofNat a = UInt8.ofNat b) ↔ a = b := by
      rw [← UInt8.toNat_inj, UInt8.toNat_ofNat', UInt8.toNat_ofNat', Nat.mod_eq_of_lt (by omega), Nat.mod_eq_of_lt (by omega)]
    simp only [List.map_cons, Op.bytesLess, ih]
    rw [Bool.eq_iff_iff]
    simp only [Bool.or_eq_true, Bool.and_eq_true, decide_eq_true_eq, beq_iff_eq, e1, e2]
    show _ ↔ a * 256 ^ x.length + Z.bv x < b * 256 ^ y.length + Z.bv y
    rw [hl'] at hxl ⊢
    generalize 256 ^ y.length = p at *
    constructor
    · rintro (h | ⟨rfl, h⟩)
      · have : (a + 1) * p ≤ b * p := Nat.mul_le_mul_right _ (by omega)
        rw [Nat.add_mul] at this
        omega
      · omega
    · intro h
      rcases Nat.lt_trichotomy a b with h1 | h1 | h1
      · exact .inl h1
      · subst h1; exact .inr ⟨rfl, by omega⟩
      · have : (b + 1) * p ≤ a * p := Nat.mul_le_mul_right _ (by omega)
        rw [Nat.add_mul] at this
        omega
theorem str_list (l : List Nat) : (strOfNums (ints l)).toList = l.map UInt8.ofNat := by
  rw [strOfNums, ByteArray.toList_mk, ints, List.map_map]
  apply List.map_congr_left
  intro x _
  simp
theorem bv_k8 (n : Nat) : Z.bv (Z.k8 n) = n := by
  simp only [Z.bv, Z.k8, List.length_cons, List.length_nil]; omega
theorem less_k8 {n m : Nat} (hn : n < 18446744073709551616) (hm : m < 18446744073709551616) : Op.bytesLess (strOfNums (ints (Z.k8 n))).toList (strOfNums (ints (Z.k8 m))).toList = decide (n < m) := by
  rw [str_list, str_list, less_bv (Z.k8 n) (Z.k8 m) rfl (Z.k8_lt hn) (Z.k8_lt hm), bv_k8, bv_k8]
theorem same_k8 {n m : Nat} (hn : n < 18446744073709551616) (hm : m < 18446744073709551616) : ((strOfNums (ints (Z.k8 n))).toList == (strOfNums (ints (Z.k8 m))).toList) = decide (n = m) := by
  rw [Bool.eq_iff_iff, beq_iff_eq, decide_eq_true_eq]
  constructor
  · intro h
    have h1 := less_k8 hn hm
    have h2 := less_k8 hm hn
    rw [h] at h1
    rw [h] at h2
    rw [← h] at h1
    have h3 : decide (n < m) = decide (m < n) := by rw [← h1, ← h2, h]
    by_cases h4 : n < m
    · simp [h4] at h3; omega
    · simp [h4] at h3; omega
  · rintro rfl; rfl

def floatsTbl (B B2 : Nat) (x y c : Int) (n m : Nat) (L M : Bool) : List (Nat × V.Ent) :=
   [(5, V.Ent.is (.bool true)),
    (9, V.Ent.is (.int .i64 0)),
    (11, V.Ent.is (.int .i64 0)),
    (8, V.Ent.sl 8 ((Z.k8 n))),
    (10, V.Ent.sl 8 ((Z.k8 m))),
    (6, V.Ent.is (.pointer (some ⟨B, 0, none⟩))),
    (7, V.Ent.is (.pointer (some ⟨B2, 0, none⟩))),
    (29, V.Ent.is (.bool true)),
    (30, V.Ent.is (.bool true)),
    (31, V.Ent.is (.int .i64 0)),
    (32, V.Ent.is (.bool true)),
    (33, V.Ent.is (.bool true)),
    (34, V.Ent.is (.bool true)),
    (35, V.Ent.is (.int .i64 0)),
    (36, V.Ent.is (.bool true)),
    (37, V.Ent.is (.bool true)),
    (38, V.Ent.is (.bool true)),
    (39, V.Ent.sl 8 ((Z.k8 n))),
    (40, V.Ent.is (.int .i64 8)),
    (41, V.Ent.is (.bool true)),
    (42, V.Ent.is (.bool true)),
    (43, V.Ent.is (.bool true)),
    (44, V.Ent.sl 8 ((Z.k8 m))),
    (45, V.Ent.is (.int .i64 8)),
    (46, V.Ent.is (.bool true)),
    (47, V.Ent.is (.bool true)),
    (48, V.Ent.is (.bool true)),
    (49, V.Ent.sl 8 ((Z.k8 n))),
    (50, V.Ent.is (.string (strOfNums (ints ((Z.k8 n)))))),
    (51, V.Ent.sl 8 ((Z.k8 m))),
    (52, V.Ent.is (.string (strOfNums (ints ((Z.k8 m)))))),
    (53, V.Ent.is (.bool L)),
    (54, V.Ent.is (.agg #[.int .i64 2, .int .i64 x, .string ⟨#[]⟩])),
    (55, V.Ent.is (.agg #[.int .i64 2, .int .i64 y, .string ⟨#[]⟩])),
    (56, V.Ent.is (.int .i64 c)),
    (57, V.Ent.is (.bool L)),
    (58, V.Ent.is (.bool true)),
    (59, V.Ent.is (.bool true)),
    (60, V.Ent.is (.bool true)),
    (61, V.Ent.sl 8 ((Z.k8 n))),
    (62, V.Ent.is (.string (strOfNums (ints ((Z.k8 n)))))),
    (63, V.Ent.sl 8 ((Z.k8 m))),
    (64, V.Ent.is (.string (strOfNums (ints ((Z.k8 m)))))),
    (65, V.Ent.is (.bool M)),
    (66, V.Ent.is (.agg #[.int .i64 2, .int .i64 x, .string ⟨#[]⟩])),
    (67, V.Ent.is (.agg #[.int .i64 2, .int .i64 y, .string ⟨#[]⟩])),
    (68, V.Ent.is (.bool M)),
    (69, V.Ent.is (.bool true)),
    (70, V.Ent.is (.bool true)),
    (4, V.Ent.is (.bool true))]

theorem cl_float (a : Int) : Z.cl ⟨2, a, ⟨#[]⟩⟩ = ⟨2, Z.sg (D.cl (Z.u a)), ⟨#[]⟩⟩ := by unfold Z.cl; simp
theorem may_cl (a : Int) : Z.may ⟨2, Z.sg (D.cl (Z.u a)), ⟨#[]⟩⟩ = true := by
  unfold Z.may; simp [Z.u_sg (D.cl_in (Z.u_in a)), D.cl_cl]
theorem key_cl (a : Int) : Z.u (Z.sg (D.cl (Z.u a))) = D.cl (Z.u a) := Z.u_sg (D.cl_in (Z.u_in a))
set_option maxHeartbeats 4000000 in
theorem valFloats_walk (w : World) (a : Int) (wa : (Lit.int .i64 a).wf = true) (b : Int) (wb : (Lit.int .i64 b).wf = true) :
    Calls Try.prog 6 #[.int .i64 a, .int .i64 b] w fun e w' => e = .returned (.bool true) ∧ Below w.heap.size w w' := by
  have ha := wf_i64 wa
  have hb := wf_i64 wb
  clear wa wb
  have VA := hide fun w => vclean_any 2 a ⟨#[]⟩ w ha
  have VB := hide fun w => vclean_any 2 b ⟨#[]⟩ w hb
  have mx := may_cl a
  have my := may_cl b
  have ex := cl_float a
  have ey := cl_float b
  rw [ex] at VA
  rw [ey] at VB
  have ux := key_cl a
  have uy := key_cl b
  have ix := Z.sg_in (D.cl_in (Z.u_in a))
  have iy := Z.sg_in (D.cl_in (Z.u_in b))
  have cx : D.cl (Z.u (Z.sg (D.cl (Z.u a)))) = Z.u (Z.sg (D.cl (Z.u a))) := by rw [ux, D.cl_cl]
  have cy : D.cl (Z.u (Z.sg (D.cl (Z.u b)))) = Z.u (Z.sg (D.cl (Z.u b))) := by rw [uy, D.cl_cl]
  obtain ⟨x, hx⟩ : ∃ x, Z.sg (D.cl (Z.u a)) = x := ⟨_, rfl⟩
  obtain ⟨y, hy⟩ : ∃ y, Z.sg (D.cl (Z.u b)) = y := ⟨_, rfl⟩
  rw [hx] at VA mx ux ix cx
  rw [hy] at VB my uy iy cy
  clear hx hy ux uy ex ey
  have HC := hide fun w => vcompare_any 2 x ⟨#[]⟩ 2 y ⟨#[]⟩ w
  rw [cv_float] at HC
  have hq := veq_run 2 x ⟨#[]⟩ 2 y ⟨#[]⟩
  have PX := hide fun w => vbytes_any 2 x ⟨#[]⟩ w ix
  have PY := hide fun w => vbytes_any 2 y ⟨#[]⟩ w iy
  have bx : Z.bl ⟨2, x, ⟨#[]⟩⟩ = Z.k8 (D.ky (Z.u x)).toNat := by unfold Z.bl; rw [if_pos mx, lb_float]
  have by' : Z.bl ⟨2, y, ⟨#[]⟩⟩ = Z.k8 (D.ky (Z.u y)).toNat := by unfold Z.bl; rw [if_pos my, lb_float]
  have zx : Z.be ⟨2, x, ⟨#[]⟩⟩ = 0 := by unfold Z.be; rw [if_pos mx]
  have zy : Z.be ⟨2, y, ⟨#[]⟩⟩ = 0 := by unfold Z.be; rw [if_pos my]
  have kx := D.ky_in (Z.u_in x)
  have ky := D.ky_in (Z.u_in y)
  have hcp := D.cp_cases (Z.u x) (Z.u y)
  have hsm : Z.same ⟨2, x, ⟨#[]⟩⟩ ⟨2, y, ⟨#[]⟩⟩ = decide ((D.ky (Z.u x)).toNat = (D.ky (Z.u y)).toNat) := by
    rw [Bool.eq_iff_iff, Z.same_iff, decide_eq_true_eq]
    constructor
    · intro h; injection h with _ h; rw [h]
    · intro h
      have h1 : D.ky (Z.u x) = D.ky (Z.u y) := by unfold D.In64 at kx ky; omega
      have h2 := Z.ky_clean (Z.u_in x) (Z.u_in y) cx cy h1
      have h3 : x = y := by rw [← Z.sg_u ix, ← Z.sg_u iy, h2]
      rw [h3]
  simp only [hsm] at hq
  generalize D.cp (Z.u x) (Z.u y) = c at HC hcp
  unfold D.In64 at kx ky
  obtain ⟨n, hn⟩ : ∃ n, (D.ky (Z.u x)).toNat = n := ⟨_, rfl⟩
  obtain ⟨m, hm⟩ : ∃ m, (D.ky (Z.u y)).toNat = m := ⟨_, rfl⟩
  have hn1 : n < 18446744073709551616 := by omega
  have hm1 : m < 18446744073709551616 := by omega
  have hL0 := less_k8 hn1 hm1
  have hM0 := same_k8 hn1 hm1
  obtain ⟨L, hLe⟩ : ∃ L, decide (n < m) = L := ⟨_, rfl⟩
  obtain ⟨M, hMe⟩ : ∃ M, decide (n = m) = M := ⟨_, rfl⟩
  have hcL : decide (c < 0) = L := by
    rw [← hLe, Bool.eq_iff_iff, decide_eq_true_eq, decide_eq_true_eq]; omega
  have hL : Op.bytesLess (strOfNums (ints (Z.k8 n))).toList (strOfNums (ints (Z.k8 m))).toList = L := hL0.trans hLe
  have hM : ((strOfNums (ints (Z.k8 n))).toList == (strOfNums (ints (Z.k8 m))).toList) = M := hM0.trans hMe
  rw [hn, hm, hMe] at hq
  rw [hn] at bx
  rw [hm] at by'
  have HL := hide hL
  have HM := hide hM
  have HQ := hide hq
  have HcL := hide hcL
  have HBX := hide bx
  have HBY := hide by'
  have HZX := hide zx
  have HZY := hide zy
  clear hL hM hL0 hM0 hLe hMe hcL hcp hsm kx ky hn hm mx my cx cy hq bx by' zx zy ix iy ha hb hn1 hm1
  go_enter Try.func6, Try.ntmps6
  go_wp2_with fail
  refine (pshown_any _).mono ?_
  rintro e w1 ⟨rfl, b0⟩
  replace b0 := hide b0
  go_wp2_with fail
  refine (VA.out _).mono ?_
  rintro e w2 ⟨rfl, hb⟩
  replace b0 := hide (bthen b0.out hb)
  clear hb
  simp only [Z.V.v]
  have hX := At.new w2 2 x ⟨#[]⟩
  have bX := below_one w2 (.cells #[.int .i64 2, .int .i64 x, .string ⟨#[]⟩] 23)
  go_wp2_with fail
  refine (VB.out _).mono ?_
  rintro e w3 ⟨rfl, hb⟩
  replace b0 := hide (bthen (bthen b0.out bX) hb)
  replace hX := hX.below hb
  clear hb bX
  simp only [Z.V.v]
  have hY := At.new w3 2 y ⟨#[]⟩
  have bY := below_one w3 (.cells #[.int .i64 2, .int .i64 y, .string ⟨#[]⟩] 23)
  replace hX := hX.below bY
  obtain ⟨a1, a2, a3⟩ := hX.cells
  go_wp2_with fail
  refine (PX.out _).mono ?_
  rintro e w4 ⟨q1, c1, rfl, hs1, hb⟩
  rw [HBX.out] at hs1
  rw [HBX.out, HZX.out]
  simp only [Z.k8_length] at hs1 ⊢
  replace b0 := hide (bthen (bthen b0.out bY) hb)
  replace hX := hX.below hb
  replace hY := hY.below hb
  clear hb bY a1 a2 a3
  obtain ⟨a1, a2, a3⟩ := hY.cells
  replace hs1 := hide hs1
  replace hX := hide hX
  go_wp2_with fail
  refine (PY.out _).mono ?_
  rintro e w5 ⟨q2, c2, rfl, hs2, hb⟩
  rw [HBY.out] at hs2
  rw [HBY.out, HZY.out]
  simp only [Z.k8_length] at hs2 ⊢
  replace b0 := hide (bthen b0.out hb)
  replace hX := hide (hX.out.below hb)
  replace hY := hide (hY.below hb)
  replace hs1 := hide (hs1.out.below hb)
  replace hs2 := hide hs2
  clear hb a1 a2 a3
  go_wp2_with fail
  have hL := HL.out
  have hM := HM.out
  have hcL := HcL.out
  have hq := HQ.out
  refine V.wp_region (w0 := w5) [5, 9, 11, 8, 10, 6, 7] (floatsTbl w2.heap.size w3.heap.size x y c n m L M) (by kernel_rfl) (by kernel_rfl) (Below.refl _ _) ?hb ?hs ?hd
  case hb =>
    intro d hd
    simp only [List.mem_cons, List.not_mem_nil, or_false] at hd
    rcases hd with rfl | rfl | rfl | rfl | rfl | rfl | rfl
    all_goals first | rfl | exact ⟨_, _, rfl, hs1.out⟩ | exact ⟨_, _, rfl, hs2.out⟩
  case hs =>
    refine ⟨?_, ?_, ?_, ?_, ?_, ?_, ?_, ?_, ?_, ?_, ?_, ?_, ?_, ?_, ?_, ?_, ?_, ?_, ?_, ?_, ?_, ?_, ?_, ?_, ?_, ?_, ?_, ?_, ?_, ?_, ?_, ?_, ?_, ?_, ?_, ?_, ?_, ?_, ?_, ?_, ?_, ?_, ?_, trivial⟩
    · exact V.Step.move (.inl rfl) (.inl rfl) (.inl ⟨_, rfl⟩) (fun _ h => by cases h; rfl)
    · exact V.Step.move (.inl rfl) (.inl rfl) (.inl ⟨_, rfl⟩) (fun _ h => by cases h; rfl)
    · exact V.Step.move (.inr ⟨_, _, _, rfl, rfl, rfl⟩) (.inl rfl) (.inl ⟨_, rfl⟩) (fun _ h => by cases h; rfl)
    · exact V.Step.bin (v1 := .int .i64 0) (v2 := .int .i64 0) (v := .bool true) (.inr ⟨_, _, _, rfl, rfl, rfl⟩) rfl (.inl ⟨_, rfl⟩) (.inr ⟨_, rfl⟩) rfl rfl (fun w => ⟨rfl, by simp [go_sem]⟩) (fun _ h => by cases h; rfl)
    · exact V.Step.pick (b := true) (.inl rfl) rfl ⟨_, rfl, rfl⟩ (.inl ⟨_, rfl⟩) (fun _ h => by cases h; rfl)
    · exact V.Step.move (.inl rfl) (.inl rfl) (.inl ⟨_, rfl⟩) (fun _ h => by cases h; rfl)
    · exact V.Step.move (.inr ⟨_, _, _, rfl, rfl, rfl⟩) (.inl rfl) (.inl ⟨_, rfl⟩) (fun _ h => by cases h; rfl)
    · exact V.Step.bin (v1 := .int .i64 0) (v2 := .int .i64 0) (v := .bool true) (.inr ⟨_, _, _, rfl, rfl, rfl⟩) rfl (.inl ⟨_, rfl⟩) (.inr ⟨_, rfl⟩) rfl rfl (fun w => ⟨rfl, by simp [go_sem]⟩) (fun _ h => by cases h; rfl)
    · exact V.Step.pick (b := true) (.inl rfl) rfl ⟨_, rfl, rfl⟩ (.inl ⟨_, rfl⟩) (fun _ h => by cases h; rfl)
    · exact V.Step.move (.inl rfl) (.inl rfl) (.inl ⟨_, rfl⟩) (fun _ h => by cases h; rfl)
    · exact V.Step.move (.inr ⟨_, _, _, rfl, rfl, rfl⟩) (.inl rfl) (.inl ⟨_, rfl⟩) (fun _ h => by cases h; rfl)
    · exact V.Step.len (k := 8) (.inr ⟨_, _, _, rfl, rfl, rfl⟩) rfl (fun v w h => by obtain ⟨a, c, h1, _⟩ := h; exact ⟨a, c, h1⟩) (fun _ h => by cases h; rfl)
    · exact V.Step.bin (v1 := .int .i64 8) (v2 := .int .i64 8) (v := .bool true) (.inr ⟨_, _, _, rfl, rfl, rfl⟩) rfl (.inl ⟨_, rfl⟩) (.inr ⟨_, rfl⟩) rfl rfl (fun w => ⟨rfl, by simp [go_sem]⟩) (fun _ h => by cases h; rfl)
    · exact V.Step.pick (b := true) (.inl rfl) rfl ⟨_, rfl, rfl⟩ (.inl ⟨_, rfl⟩) (fun _ h => by cases h; rfl)
    · exact V.Step.move (.inl rfl) (.inl rfl) (.inl ⟨_, rfl⟩) (fun _ h => by cases h; rfl)
    · exact V.Step.move (.inr ⟨_, _, _, rfl, rfl, rfl⟩) (.inl rfl) (.inl ⟨_, rfl⟩) (fun _ h => by cases h; rfl)
    · exact V.Step.len (k := 8) (.inr ⟨_, _, _, rfl, rfl, rfl⟩) rfl (fun v w h => by obtain ⟨a, c, h1, _⟩ := h; exact ⟨a, c, h1⟩) (fun _ h => by cases h; rfl)
    · exact V.Step.bin (v1 := .int .i64 8) (v2 := .int .i64 8) (v := .bool true) (.inr ⟨_, _, _, rfl, rfl, rfl⟩) rfl (.inl ⟨_, rfl⟩) (.inr ⟨_, rfl⟩) rfl rfl (fun w => ⟨rfl, by simp [go_sem]⟩) (fun _ h => by cases h; rfl)
    · exact V.Step.pick (b := true) (.inl rfl) rfl ⟨_, rfl, rfl⟩ (.inl ⟨_, rfl⟩) (fun _ h => by cases h; rfl)
    · exact V.Step.move (.inl rfl) (.inl rfl) (.inl ⟨_, rfl⟩) (fun _ h => by cases h; rfl)
    · exact V.Step.move (.inr ⟨_, _, _, rfl, rfl, rfl⟩) (.inl rfl) (.inl ⟨_, rfl⟩) (fun _ h => by cases h; rfl)
    · exact V.Step.str (.inr ⟨_, _, _, rfl, rfl, rfl⟩) rfl rfl (fun _ h => by cases h; rfl)
    · exact V.Step.move (.inr ⟨_, _, _, rfl, rfl, rfl⟩) (.inl rfl) (.inl ⟨_, rfl⟩) (fun _ h => by cases h; rfl)
    · exact V.Step.str (.inr ⟨_, _, _, rfl, rfl, rfl⟩) rfl rfl (fun _ h => by cases h; rfl)
    · exact V.Step.bin (v1 := .string (strOfNums (ints ((Z.k8 n))))) (v2 := .string (strOfNums (ints ((Z.k8 m))))) (v := .bool L) (.inr ⟨_, _, _, rfl, rfl, rfl⟩) rfl (.inl ⟨_, rfl⟩) (.inl ⟨_, rfl⟩) rfl rfl (fun w => ⟨rfl, by simp only [binOp_string_lss, Sem.run_pure, hL]⟩) (fun _ h => by cases h; rfl)
    · exact V.Step.loadV (.inr ⟨_, _, _, rfl, rfl, rfl⟩) rfl rfl hX.out (fun _ h => by cases h; rfl)
    · exact V.Step.loadV (.inr ⟨_, _, _, rfl, rfl, rfl⟩) rfl rfl hY.out (fun _ h => by cases h; rfl)
    · exact V.Step.call2 (.inr ⟨_, _, _, rfl, rfl, rfl⟩) rfl rfl rfl Try.func15 (by decide +kernel) rfl (fun w1 hw1 => (HC.out w1).mono (by rintro e w9 ⟨rfl, hb9⟩; exact ⟨_, rfl, hb9, fun d h => by cases h; rfl⟩))
    · exact V.Step.bin (v1 := .int .i64 c) (v2 := .int .i64 0) (v := .bool L) (.inr ⟨_, _, _, rfl, rfl, rfl⟩) rfl (.inl ⟨_, rfl⟩) (.inr ⟨_, rfl⟩) rfl rfl (fun w => ⟨rfl, by simp [go_sem, hcL]⟩) (fun _ h => by cases h; rfl)
    · exact V.Step.bin (v1 := .bool L) (v2 := .bool L) (v := .bool true) (.inr ⟨_, _, _, rfl, rfl, rfl⟩) rfl (.inl ⟨_, rfl⟩) (.inl ⟨_, rfl⟩) rfl rfl (fun w => ⟨rfl, by rw [V.eql_bool]; simp⟩) (fun _ h => by cases h; rfl)
    · exact V.Step.pick (b := true) (.inl rfl) rfl ⟨_, rfl, rfl⟩ (.inl ⟨_, rfl⟩) (fun _ h => by cases h; rfl)
    · exact V.Step.move (.inl rfl) (.inl rfl) (.inl ⟨_, rfl⟩) (fun _ h => by cases h; rfl)
    · exact V.Step.move (.inr ⟨_, _, _, rfl, rfl, rfl⟩) (.inl rfl) (.inl ⟨_, rfl⟩) (fun _ h => by cases h; rfl)
    · exact V.Step.str (.inr ⟨_, _, _, rfl, rfl, rfl⟩) rfl rfl (fun _ h => by cases h; rfl)
    · exact V.Step.move (.inr ⟨_, _, _, rfl, rfl, rfl⟩) (.inl rfl) (.inl ⟨_, rfl⟩) (fun _ h => by cases h; rfl)
    · exact V.Step.str (.inr ⟨_, _, _, rfl, rfl, rfl⟩) rfl rfl (fun _ h => by cases h; rfl)
    · exact V.Step.bin (v1 := .string (strOfNums (ints ((Z.k8 n))))) (v2 := .string (strOfNums (ints ((Z.k8 m))))) (v := .bool M) (.inr ⟨_, _, _, rfl, rfl, rfl⟩) rfl (.inl ⟨_, rfl⟩) (.inl ⟨_, rfl⟩) rfl rfl (fun w => ⟨rfl, by simp only [binOp_string_eql, Sem.run_pure, hM]⟩) (fun _ h => by cases h; rfl)
    · exact V.Step.loadV (.inr ⟨_, _, _, rfl, rfl, rfl⟩) rfl rfl hX.out (fun _ h => by cases h; rfl)
    · exact V.Step.loadV (.inr ⟨_, _, _, rfl, rfl, rfl⟩) rfl rfl hY.out (fun _ h => by cases h; rfl)
    · exact V.Step.bin (v1 := .agg #[.int .i64 2, .int .i64 x, .string ⟨#[]⟩]) (v2 := .agg #[.int .i64 2, .int .i64 y, .string ⟨#[]⟩]) (v := .bool M) (.inr ⟨_, _, _, rfl, rfl, rfl⟩) rfl (.inl ⟨_, rfl⟩) (.inl ⟨_, rfl⟩) rfl rfl (fun w => ⟨run_eqGuard_agg _ _ _ _ _ _ _ (by kernel_rfl), hq w⟩) (fun _ h => by cases h; rfl)
    · exact V.Step.bin (v1 := .bool M) (v2 := .bool M) (v := .bool true) (.inr ⟨_, _, _, rfl, rfl, rfl⟩) rfl (.inl ⟨_, rfl⟩) (.inl ⟨_, rfl⟩) rfl rfl (fun w => ⟨rfl, by rw [V.eql_bool]; simp⟩) (fun _ h => by cases h; rfl)
    · exact V.Step.pick (b := true) (.inl rfl) rfl ⟨_, rfl, rfl⟩ (.inl ⟨_, rfl⟩) (fun _ h => by cases h; rfl)
    · exact V.Step.move (.inl rfl) (.inr rfl) (.inl ⟨_, rfl⟩) (fun _ h => by cases h; rfl)
  case hd =>
    intro a0 w6 hw1 hdf hk
    have h4 : a0.tmps[4]?.getD undef = .bool true := V.slot_of (hk 42 _ 4 rfl rfl)
    go_wp2
    exact bodyPost_ret (v := .bool true) (by simp [results, Try.results6, h4, go_sem]) hdf ⟨rfl, bthen b0.out hw1⟩
end Go.Proofs.Ytahpbenobhodnaa

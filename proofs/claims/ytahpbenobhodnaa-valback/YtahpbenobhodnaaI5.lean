/- The walk of the statement: what was laid down is read as it was, and what stands behind it is told; what is read may be. -/
import Derived.Test.YtahpbenobhodnaaZE
import Derived.Test.YtahpbenobhodnaaV15
import Derived.Test.YtahpbenobhodnaaRV
import Derived.Laws.Concat
namespace Go.Proofs.Ytahpbenobhodnaa
set_option linter.unusedVariables false
open Go.RowKit

theorem lb_le {k i : Int} {s : ByteArray} (hi : Z.I64 i) (h : Z.may ⟨k, i, s⟩ = true) : (Z.lb ⟨k, i, s⟩).length ≤ 1034 := by
  rcases may_kind h with rfl | rfl | rfl | rfl
  · rw [lb_else (by decide) (by decide) (by decide)]; simp
  · rw [lb_int]; have := E.leb_ten (E.zig i) (E.zig_lt i hi.1 hi.2); omega
  · rw [lb_float, Z.k8_length]; omega
  · rw [lb_text, List.length_append, sb_length]; have := may_size h; have := E.leb_ten s.size (by omega); omega
theorem lb_lt {k i : Int} {s : ByteArray} (hi : Z.I64 i) (h : Z.may ⟨k, i, s⟩ = true) : ∀ x ∈ Z.lb ⟨k, i, s⟩, x < 256 := by
  rcases may_kind h with rfl | rfl | rfl | rfl
  · rw [lb_else (by decide) (by decide) (by decide)]; simp
  · rw [lb_int]; exact E.leb_lt _
  · rw [lb_float]; exact Z.k8_lt (by have := D.ky_in (Z.u_in i); unfold D.In64 at this; omega)
  · rw [lb_text]; intro x hx; exact (List.mem_append.1 hx).elim (E.leb_lt _ x) (sb_lt s x)
theorem oV_in {l : List Nat} (h256 : ∀ x ∈ l, x < 256) (kind : Int) : Z.I64 (Z.oV l kind).i := by
  unfold Z.oV
  split
  · unfold Z.oW
    split
    · exact E.zag_lt _ (E.gN_lt h256)
    · split
      · exact Z.sg_in (D.bt_in ⟨by omega, by have := Z.o8_lt h256; omega⟩)
      · split
        · exact ⟨by show (-9223372036854775808 : Int) ≤ 0; decide, by show (0 : Int) < 9223372036854775808; decide⟩
        · exact ⟨by decide, by decide⟩
  · exact ⟨by decide, by decide⟩
theorem str_append (a b : List Nat) : strOfNums (ints a) ++ strOfNums (ints b) = strOfNums (ints (a ++ b)) := by
  apply Z.ba_eq
  simp [strOfNums, ints]

def backTbl (B A : Nat) (k i : Int) (s : ByteArray) (x1 ao : Option Addr) (n1 c1 len cap : Nat) (bl l : List Nat) : List (Nat × V.Ent) :=
  [(8, V.Ent.is (.slice x1 n1 c1)), (1, V.Ent.is (.slice ao len cap)), (3, V.Ent.is (.pointer (some ⟨A, 0, none⟩))),
   (32, V.Ent.own B []), (33, V.Ent.is (.slice x1 n1 c1)), (34, V.Ent.own B bl), (35, V.Ent.is (.slice ao len cap)), (36, V.Ent.own B (bl ++ l)),
   (37, V.Ent.is (.pointer (some ⟨A, 0, none⟩))), (38, V.Ent.is (.int .i64 k)),
   (39, V.Ent.tup (.agg #[.int .i64 k, .int .i64 i, .string s]) (.int .i64 0) len l), (31, V.Ent.tup (.agg #[.int .i64 k, .int .i64 i, .string s]) (.int .i64 0) len l),
   (40, V.Ent.is (.agg #[.int .i64 k, .int .i64 i, .string s])), (41, V.Ent.sl len l), (42, V.Ent.is (.int .i64 0)), (10, V.Ent.cell B 0 0 ⟨#[]⟩), (11, V.Ent.sl len l), (12, V.Ent.is (.int .i64 0))]
set_option maxHeartbeats 4000000 in
theorem valBack_no (w : World) (k i : Int) (s : ByteArray) (hi : Z.I64 i) (hmay : Z.may ⟨k, i, s⟩ = false) (ao : Option Addr) (len cap : Nat) (l : List Nat) (h : Sl w .u8 ao len cap (ints l)) (h256 : ∀ x ∈ l, x < 256) (hm : len ≤ 140737488351232) (kind : Int) :
    Calls Try.prog 4 #[.agg #[.int .i64 k, .int .i64 i, .string s], .slice ao len cap, .int .i64 kind] w fun e w' => e = .returned (.bool true) ∧ Below w.heap.size w w' := by
  have hA := At.new w k i s
  have b0 := below_one w (.cells #[.int .i64 k, .int .i64 i, .string s] 23)
  have HB := hide fun w => vbytes_any k i s w hi
  have HY := hide fun w => may_any k i s w hi
  have HLL : Hid (l.length = len) := by show _ = _; rw [← h.1, ints_length]
  have HS := hide h
  have H2 := hide h256
  have ebl : Z.bl ⟨k, i, s⟩ = [] := by unfold Z.bl; rw [hmay]; rfl
  have ebe : Z.be ⟨k, i, s⟩ = 1 := by unfold Z.be; rw [hmay]; rfl
  rw [hmay] at HY
  unfold BytesOf at HB
  rw [ebl, ebe] at HB
  simp only [List.length_nil] at HB
  clear hi h h256 ebl ebe hmay
  replace b0 := hide b0
  go_enter Try.func4, Try.ntmps4
  go_wp2_with fail
  refine (pshown_any _).mono ?_
  rintro e w1 ⟨rfl, hb⟩
  replace b0 := hide (bthen b0.out hb)
  replace hA := hA.below hb
  obtain ⟨a1, a2, a3⟩ := hA.cells
  clear hb
  replace hA := hide hA
  go_wp2_with fail
  refine (HB.out _).mono ?_
  rintro e w2 ⟨x1, c1, rfl, s1, hb⟩
  replace b0 := hide (bthen b0.out hb)
  replace hA := hA.out.below hb
  clear a1 a2 a3 s1
  obtain ⟨a1, a2, a3⟩ := hA.cells
  clear hb hA
  go_wp2_with fail
  refine (HY.out _).mono ?_
  rintro e w3 ⟨rfl, hb⟩
  replace b0 := hide (bthen b0.out hb)
  clear a1 a2 a3 hb HB HY
  go_wp2_with fail
  refine (vof_any ao len cap l kind _ (HS.out.below b0.out) H2.out (by omega)).mono ?_
  intro e w5 ho
  obtain ⟨x4, c4, he, s4, hb⟩ := ho
  subst he
  have HVI := hide (oV_in H2.out kind)
  by_cases hE : Z.oE l kind = 0
  · obtain ⟨g1, g2⟩ := back_two H2.out hE
    obtain ⟨⟨vk, vi, vs⟩, hV⟩ : ∃ v, Z.oV l kind = v := ⟨_, rfl⟩
    obtain ⟨R, hR⟩ : ∃ R, Z.oR l kind = R := ⟨_, rfl⟩
    rw [hV] at g1 g2 HVI
    rw [hR] at g2 s4 ⊢
    rw [hE, hV]
    simp only [Z.V.v]
    have ebl : Z.bl ⟨vk, vi, vs⟩ = Z.lb ⟨vk, vi, vs⟩ := by unfold Z.bl; rw [g1]; rfl
    have ebe : Z.be ⟨vk, vi, vs⟩ = 0 := by unfold Z.be; rw [g1]; rfl
    have HB2 := hide fun w => vbytes_any vk vi vs w HVI.out
    have HM2 := hide fun w => may_any vk vi vs w HVI.out
    rw [g1] at HM2
    unfold BytesOf at HB2
    rw [ebl, ebe] at HB2
    obtain ⟨bl2, hbl2⟩ : ∃ bl, Z.lb ⟨vk, vi, vs⟩ = bl := ⟨_, rfl⟩
    rw [hbl2] at HB2 g2
    have hsum := str_append bl2 R
    rw [g2] at hsum
    have hlen : bl2.length + R.length ≤ 140737488351232 := by rw [← List.length_append, g2, HLL.out]; exact hm
    have hadd : (strOfNums (ints bl2)).size + (strOfNums (ints R)).size ≤ 9223372036854775807 := by rw [strOfNums_size, strOfNums_size, ints_length, ints_length]; omega
    obtain ⟨n4, hn4⟩ : ∃ n, R.length = n := ⟨_, rfl⟩
    obtain ⟨n5, hn5⟩ : ∃ n, bl2.length = n := ⟨_, rfl⟩
    rw [hn4] at s4 ⊢
    rw [hn5] at HB2
    have hP := At.new w5 vk vi vs
    have bP := below_one w5 (.cells #[.int .i64 vk, .int .i64 vi, .string vs] 23)
    replace b0 := hide (bthen (bthen b0.out hb) bP)
    replace s4 := hide (s4.below bP)
    have HAD := hide hadd
    have HSU := hide hsum
    clear hb bP hE g1 g2 hV hR ebl ebe hbl2 hsum hlen hadd hn4 hn5 HVI
    go_wp2_with fail
    refine (HB2.out _).mono ?_
    rintro e w6 ⟨x6, c6, rfl, s6, hb⟩
    replace b0 := hide (bthen b0.out hb)
    replace hP := hP.below hb
    replace s4 := hide (s4.out.below hb)
    replace s6 := hide s6
    obtain ⟨p1, p2, p3⟩ := hP.cells
    clear hb hP
    go_wp2_with fail
    refine (HM2.out _).mono ?_
    rintro e w7 ⟨rfl, hb⟩
    replace b0 := hide (bthen b0.out hb)
    have t4 := str_of (s4.out.below hb)
    have t6 := str_of (s6.out.below hb)
    have t0 := str_of (HS.out.below b0.out)
    have hadd := HAD.out
    have hsum := HSU.out
    generalize strOfNums (ints bl2) = S6 at t6 hadd hsum
    generalize strOfNums (ints R) = S4 at t4 hadd hsum
    generalize strOfNums (ints l) = S0 at t0 hsum
    clear hb p1 p2 p3 HAD HSU HB2 HM2 s4 s6
    go_wp2
    go_ret
    exact ⟨rfl, b0.out⟩
  · have hR : Z.oR l kind = [] := by unfold Z.oR; rw [if_neg hE]
    rw [hR]
    obtain ⟨⟨vk, vi, vs⟩, hV⟩ : ∃ v, Z.oV l kind = v := ⟨_, rfl⟩
    rw [hV]
    simp only [Z.V.v, List.length_nil]
    obtain ⟨e3, he3⟩ : ∃ e : Int, ((Z.oE l kind : Nat) : Int) = e := ⟨_, rfl⟩
    have hne : e3 ≠ 0 := by omega
    rw [he3]
    have bP := below_one w5 (.cells #[.int .i64 vk, .int .i64 vi, .string vs] 23)
    replace b0 := hide (bthen (bthen b0.out hb) bP)
    clear hb bP hR hV he3 hE s4 HVI
    go_wp2
    go_ret
    exact ⟨rfl, b0.out⟩
set_option maxHeartbeats 4000000 in
theorem valBack_yes (w : World) (k i : Int) (s : ByteArray) (hi : Z.I64 i) (hmay : Z.may ⟨k, i, s⟩ = true) (ao : Option Addr) (len cap : Nat) (l : List Nat) (h : Sl w .u8 ao len cap (ints l)) (h256 : ∀ x ∈ l, x < 256) (hm : len ≤ 140737488351232) (kind : Int) :
    Calls Try.prog 4 #[.agg #[.int .i64 k, .int .i64 i, .string s], .slice ao len cap, .int .i64 kind] w fun e w' => e = .returned (.bool true) ∧ Below w.heap.size w w' := by
  have hA := At.new w k i s
  have b0 := below_one w (.cells #[.int .i64 k, .int .i64 i, .string s] 23)
  have HB := hide fun w => vbytes_any k i s w hi
  have HY := hide fun w => may_any k i s w hi
  have HLL : Hid (l.length = len) := by show _ = _; rw [← h.1, ints_length]
  have HS := hide h
  have H2 := hide h256
  have hbk := back_one hi hmay l
  have hle := lb_le hi hmay
  have hlt := lb_lt hi hmay
  have ebl : Z.bl ⟨k, i, s⟩ = Z.lb ⟨k, i, s⟩ := by unfold Z.bl; rw [hmay]; rfl
  have ebe : Z.be ⟨k, i, s⟩ = 0 := by unfold Z.be; rw [hmay]; rfl
  rw [hmay] at HY
  unfold BytesOf at HB
  rw [ebl, ebe] at HB
  obtain ⟨bl, hbl⟩ : ∃ bl, Z.lb ⟨k, i, s⟩ = bl := ⟨_, rfl⟩
  rw [hbl] at HB hbk hle hlt
  obtain ⟨n1, hn1⟩ : ∃ n, bl.length = n := ⟨_, rfl⟩
  rw [hn1] at HB hle
  have HN1 := hide hn1
  have HBK := hide hbk
  have HLT := hide hlt
  clear hbl hi h h256 ebl ebe hmay hn1 hbk hlt
  replace b0 := hide b0
  go_enter Try.func4, Try.ntmps4
  go_wp2_with fail
  refine (pshown_any _).mono ?_
  rintro e w1 ⟨rfl, hb⟩
  replace b0 := hide (bthen b0.out hb)
  replace hA := hA.below hb
  obtain ⟨a1, a2, a3⟩ := hA.cells
  clear hb
  replace hA := hide hA
  go_wp2_with fail
  refine (HB.out _).mono ?_
  rintro e w2 ⟨x1, c1, rfl, s1, hb⟩
  replace b0 := hide (bthen b0.out hb)
  replace hA := hA.out.below hb
  clear a1 a2 a3
  obtain ⟨a1, a2, a3⟩ := hA.cells
  clear hb
  replace hA := hide hA
  replace s1 := hide s1
  go_wp2_with fail
  refine (HY.out _).mono ?_
  rintro e w3 ⟨rfl, hb⟩
  replace b0 := hide (bthen b0.out hb)
  replace hA := hide (hA.out.below hb)
  clear a1 a2 a3
  replace s1 := hide (s1.out.below hb)
  clear hb HB HY
  have HS3 := hide (HS.out.below b0.out)
  go_wp2_with fail
  refine V.wp_region_dead (w0 := w3) [32, 33, 34, 35, 36, 37, 38, 39, 31, 40, 41, 42, 10, 11, 12] [8, 1, 3] [(2, [32]), (4, [34, 32]), (13, [10, 32, 34, 36])] (backTbl w3.heap.size w.heap.size k i s x1 ao n1 c1 len cap bl l) (V.Laid 10 w3.heap.size k i s) 13 rfl (by kernel_rfl) (by kernel_rfl) (by kernel_rfl) (Below.refl _ _) ?hb ?hs ?hX ?hd
  case hb =>
    intro d hd
    simp only [List.mem_cons, List.not_mem_nil, or_false] at hd
    rcases hd with rfl | rfl | rfl <;> rfl
  case hs =>
    refine ⟨.inl ⟨rfl, by decide, ?_⟩, .inl ⟨rfl, by decide, ?_⟩, .inr ⟨.inr (by kernel_rfl), ?_⟩, .inl ⟨rfl, by decide, ?_⟩, .inr ⟨.inr (by kernel_rfl), ?_⟩, .inl ⟨rfl, by decide, ?_⟩, .inl ⟨rfl, by decide, ?_⟩, .inl ⟨rfl, by decide, ?_⟩, .inl ⟨rfl, by decide, ?_⟩, .inl ⟨rfl, by decide, ?_⟩, .inl ⟨rfl, by decide, ?_⟩, .inl ⟨rfl, by decide, ?_⟩, .inl ⟨rfl, by decide, ?_⟩, .inr ⟨.inl rfl, ?_⟩, .inl ⟨rfl, by decide, ?_⟩, .inl ⟨rfl, by decide, ?_⟩, trivial⟩
    · exact V.Step.empty (.inl rfl) rfl (fun _ h => by cases h; rfl)
    · exact V.Step.move (.inl rfl) (.inl rfl) (.inl ⟨_, rfl⟩) (fun _ h => by cases h; rfl)
    · refine V.Touch.app (news := bl) rfl rfl rfl rfl s1.out (by simp; omega) (fun _ h => by cases h; rfl) (by decide) (fun d hd => ?_)
      replace hd : d ∈ [8, 1, 3] ∨ d ∈ [33, 35, 37, 38, 10] := by
        rcases hd with hd | hd
        · exact .inl hd
        · exact .inr (V.mem_alive [33, 35, 37, 38, 10] hd (by kernel_rfl))
      simp only [List.mem_cons, List.not_mem_nil, or_false] at hd
      rcases hd with (rfl | rfl | rfl) | (rfl | rfl | rfl | rfl | rfl)
      all_goals first | exact V.Safe.is _ _ | exact V.Safe.cell _ _ _ _
    · exact V.Step.move (.inl rfl) (.inl rfl) (.inl ⟨_, rfl⟩) (fun _ h => by cases h; rfl)
    · refine V.Touch.app (l := bl) (news := l) rfl rfl rfl rfl HS3.out (by rw [HN1.out]; omega) (fun _ h => by cases h; rfl) (by decide) (fun d hd => ?_)
      replace hd : d ∈ [8, 1, 3] ∨ d ∈ [33, 35, 37, 38, 10] := by
        rcases hd with hd | hd
        · exact .inl hd
        · exact .inr (V.mem_alive [33, 35, 37, 38, 10] hd (by kernel_rfl))
      simp only [List.mem_cons, List.not_mem_nil, or_false] at hd
      rcases hd with (rfl | rfl | rfl) | (rfl | rfl | rfl | rfl | rfl)
      all_goals first | exact V.Safe.is _ _ | exact V.Safe.cell _ _ _ _
    · exact V.Step.field (.inl rfl) rfl rfl (by omega) (fun _ h => by cases h; rfl)
    · exact V.Step.loadI (.inl rfl) rfl rfl Try.underlying3 (V.At.lt hA.out) hA.out.cells.1 (fun _ h => by cases h; rfl)
    · refine V.Step.callR2 (.inl rfl) rfl Try.func12 (by decide +kernel) rfl (fun wc v v2 hwc hv hv2 => ?_)
      obtain ⟨qa, qc, rfl, hqs⟩ := Sl.of_own (l := bl ++ l) hv rfl
      obtain rfl : v2 = .int .i64 k := hv2
      refine (vof_any _ _ _ (bl ++ l) k wc hqs (fun y hy => (List.mem_append.1 hy).elim (HLT.out y) (H2.out y)) (by rw [List.length_append, HN1.out, HLL.out]; omega)).mono ?_
      rintro e w9 ⟨ra, rc, rfl, hrs, hb9⟩
      obtain ⟨g1, g2, g3⟩ := HBK.out
      rw [g1, g2, g3]
      rw [g3, HLL.out] at hrs
      rw [HLL.out]
      exact ⟨_, rfl, hb9, fun d h => by cases h; exact ⟨ra, rc, rfl, hrs⟩⟩
    · exact V.Step.move (.inl rfl) (.inl rfl) (.inl ⟨_, rfl⟩) (fun _ h => by cases h; rfl)
    · exact V.Step.ext0 (.inl rfl) rfl rfl (fun _ h => by cases h; rfl)
    · exact V.Step.ext1 (.inl rfl) rfl rfl (fun _ h => by cases h; rfl)
    · exact V.Step.ext2 (.inl rfl) rfl rfl (fun _ h => by cases h; rfl)
    · exact V.Step.cell (.inl rfl) rfl (fun _ h => by cases h; rfl)
    · refine V.Touch.lay rfl rfl rfl rfl rfl (fun d hd => ?_)
      replace hd : d ∈ [8, 1, 3] ∨ d ∈ [33, 35, 37, 38, 39, 31, 40, 41, 42] := by
        rcases hd with hd | hd
        · exact .inl hd
        · exact .inr (V.mem_alive [33, 35, 37, 38, 39, 31, 40, 41, 42] hd (by kernel_rfl))
      simp only [List.mem_cons, List.not_mem_nil, or_false] at hd
      rcases hd with (rfl | rfl | rfl) | (rfl | rfl | rfl | rfl | rfl | rfl | rfl | rfl | rfl)
      all_goals first | exact V.SafeV.is _ | exact V.SafeV.sl _ _ | exact V.SafeV.tup _ _ _ _
    · exact V.Step.move (.inl rfl) (.inr rfl) (.inl ⟨_, rfl⟩) (fun _ h => by cases h; rfl)
    · exact V.Step.move (.inl rfl) (.inr rfl) (.inl ⟨_, rfl⟩) (fun _ h => by cases h; rfl)
  case hX =>
    intro j o hj hwt hne a wa wb v hx hbb
    exact hx.put hbb (V.once_get (by kernel_rfl) hj hwt hne)
  case hd =>
    intro vs w4 hw4 hk hx
    obtain ⟨ra, rc, h11, hs11⟩ := hk 14 _ 11 rfl rfl (by decide)
    have h12 : vs 12 = .int .i64 0 := hk 15 _ 12 rfl rfl (by decide)
    obtain ⟨b, h10, hbB, hAb⟩ := hx (by decide)
    have h10' : vs 10 = .pointer (some ⟨b, 0, none⟩) := (V.puts_eval (by decide) (by show 10 < 96; omega)).symm.trans h10
    simp only [V.puts, List.foldl_cons, List.foldl_nil, h10', h11, h12, Act.put, List.setIfInBounds_toArray, List.set_cons_zero, List.set_cons_succ]
    have hA4 := hA.out.below hw4
    replace b0 := hide (bthen b0.out hw4)
    obtain ⟨a1, a2, a3⟩ := hA4.cells
    obtain ⟨b1, b2, b3⟩ := hAb.cells
    have t1 := str_of hs11
    have t0 := str_of (HS.out.below b0.out)
    have hq := vne_run k i s k i s
    simp only [Z.same_self] at hq
    have HS11 := hide hs11
    generalize strOfNums (ints l) = S0 at t1 t0
    clear hk hx h10 h10' h11 h12 hs11 hA4 hAb hw4 hbB s1 HS3 HBK HLT HN1 hA HS11
    go_wp2_with fail
    refine (vof_any ao len cap l kind _ (HS.out.below b0.out) H2.out (by omega)).mono ?_
    intro e w5 ho
    obtain ⟨x4, c4, he, s4, hb⟩ := ho
    subst he
    have HVI := hide (oV_in H2.out kind)
    by_cases hE : Z.oE l kind = 0
    · obtain ⟨g1, g2⟩ := back_two H2.out hE
      obtain ⟨⟨vk, vi, vs⟩, hV⟩ : ∃ v, Z.oV l kind = v := ⟨_, rfl⟩
      obtain ⟨R, hR⟩ : ∃ R, Z.oR l kind = R := ⟨_, rfl⟩
      rw [hV] at g1 g2 HVI
      rw [hR] at g2 s4 ⊢
      rw [hE, hV]
      simp only [Z.V.v]
      have ebl : Z.bl ⟨vk, vi, vs⟩ = Z.lb ⟨vk, vi, vs⟩ := by unfold Z.bl; rw [g1]; rfl
      have ebe : Z.be ⟨vk, vi, vs⟩ = 0 := by unfold Z.be; rw [g1]; rfl
      have HB2 := hide fun w => vbytes_any vk vi vs w HVI.out
      have HM2 := hide fun w => may_any vk vi vs w HVI.out
      rw [g1] at HM2
      unfold BytesOf at HB2
      rw [ebl, ebe] at HB2
      obtain ⟨bl2, hbl2⟩ : ∃ bl, Z.lb ⟨vk, vi, vs⟩ = bl := ⟨_, rfl⟩
      rw [hbl2] at HB2 g2
      have hsum := str_append bl2 R
      rw [g2] at hsum
      have hlen : bl2.length + R.length ≤ 140737488351232 := by rw [← List.length_append, g2, HLL.out]; exact hm
      have hadd : (strOfNums (ints bl2)).size + (strOfNums (ints R)).size ≤ 9223372036854775807 := by rw [strOfNums_size, strOfNums_size, ints_length, ints_length]; omega
      obtain ⟨n4, hn4⟩ : ∃ n, R.length = n := ⟨_, rfl⟩
      obtain ⟨n5, hn5⟩ : ∃ n, bl2.length = n := ⟨_, rfl⟩
      rw [hn4] at s4 ⊢
      rw [hn5] at HB2
      have hP := At.new w5 vk vi vs
      have bP := below_one w5 (.cells #[.int .i64 vk, .int .i64 vi, .string vs] 23)
      replace b0 := hide (bthen (bthen b0.out hb) bP)
      replace s4 := hide (s4.below bP)
      have HAD := hide hadd
      have HSU := hide hsum
      clear hb bP hE g1 g2 hV hR ebl ebe hbl2 hsum hlen hadd hn4 hn5 HVI
      go_wp2_with fail
      refine (HB2.out _).mono ?_
      rintro e w6 ⟨x6, c6, rfl, s6, hb⟩
      replace b0 := hide (bthen b0.out hb)
      replace hP := hP.below hb
      replace s4 := hide (s4.out.below hb)
      replace s6 := hide s6
      obtain ⟨p1, p2, p3⟩ := hP.cells
      clear hb hP
      go_wp2_with fail
      refine (HM2.out _).mono ?_
      rintro e w7 ⟨rfl, hb⟩
      replace b0 := hide (bthen b0.out hb)
      have t4 := str_of (s4.out.below hb)
      have t6 := str_of (s6.out.below hb)
      have t0 := str_of (HS.out.below b0.out)
      have hadd := HAD.out
      have hsum := HSU.out
      generalize strOfNums (ints bl2) = S6 at t6 hadd hsum
      generalize strOfNums (ints R) = S4 at t4 hadd hsum
      generalize strOfNums (ints l) = S0 at t0 hsum
      clear hb p1 p2 p3 HAD HSU HB2 HM2 s4 s6
      go_wp2
      go_ret
      exact ⟨rfl, b0.out⟩
    · have hR : Z.oR l kind = [] := by unfold Z.oR; rw [if_neg hE]
      rw [hR]
      obtain ⟨⟨vk, vi, vs⟩, hV⟩ : ∃ v, Z.oV l kind = v := ⟨_, rfl⟩
      rw [hV]
      simp only [Z.V.v, List.length_nil]
      obtain ⟨e3, he3⟩ : ∃ e : Int, ((Z.oE l kind : Nat) : Int) = e := ⟨_, rfl⟩
      have hne : e3 ≠ 0 := by omega
      rw [he3]
      have bP := below_one w5 (.cells #[.int .i64 vk, .int .i64 vi, .string vs] 23)
      replace b0 := hide (bthen (bthen b0.out hb) bP)
      clear hb bP hR hV he3 hE s4 HVI
      go_wp2
      go_ret
      exact ⟨rfl, b0.out⟩
theorem valBack_walk (w : World) (k i : Int) (s : ByteArray) (hk : Z.I64 k) (hi : Z.I64 i) (hs : s.size ≤ maxLen) (a : Option Addr) (len cap : Nat) (z : List Int) (c : Came .u8 w a len cap z) (hr : cap * 1 ≤ 140737488351232) (kind : Int) (wk : (Lit.int .i64 kind).wf = true) :
    Calls Try.prog 4 #[.agg #[.int .i64 k, .int .i64 i, .string s], .slice a len cap, .int .i64 kind] w fun e w' => e = .returned (.bool true) ∧ Below w.heap.size w w' := by
  obtain ⟨l, rfl, h256⟩ := came_bytes c
  have hc := c.1.2.1
  cases hm : Z.may ⟨k, i, s⟩ with
  | true => exact valBack_yes w k i s hi hm a len cap l c.1 h256 (by omega) kind
  | false => exact valBack_no w k i s hi hm a len cap l c.1 h256 (by omega) kind
end Go.Proofs.Ytahpbenobhodnaa

/- DeltaMoves: numbers that are moved all by as much have the same steps, and, from the width on, the same bytes; numbers one like the other need no bits. Conditions: none. -/
import Derived.Test.YtkcpfgjkplailaaBdX
import Derived.Test.YtkcpfgjkplailaaBdKK
import Derived.Test.YtkcpfgjkplailaaBdKL
import Derived.Test.YtkcpfgjkplailaaBdM
import Derived.Test.YtkcpfgjkplailaaBdK
import Derived.Test.YtkcpfgjkplailaaBdY
namespace Go.Proofs.Ytkcpfgjkplailaa
set_option linter.unusedVariables false
set_option maxRecDepth 10000
open Go.RowKit
/-- A column moved. -/
def Z.mv (b : Int) (z : List Int) : List Int := z.map fun x => wrap64 (x + b)
theorem mv_snoc {b : Int} {z : List Int} {j : Nat} {x y : Int} (h : z[j]? = some x) (hy : wrap64 (x + b) = y) : Z.vals (Z.mv b (z.take (j + 1))) = Z.vals (Z.mv b (z.take j)) ++ [⟨1, y, ⟨#[]⟩⟩] := by
  unfold Z.mv Z.vals
  rw [List.take_add_one, h, List.map_append, List.map_append, ← hy]
  rfl
theorem rep_snoc (x : Int) (j : Nat) : Z.vals (List.replicate (j + 1) x) = Z.vals (List.replicate j x) ++ [⟨1, x, ⟨#[]⟩⟩] := by
  rw [List.replicate_succ']
  unfold Z.vals
  rw [List.map_append]
  rfl
theorem mv_take_length {b : Int} {z : List Int} {j : Nat} (h : j ≤ z.length) : (Z.vals (Z.mv b (z.take j))).length = j := by unfold Z.mv; rw [vals_length, List.length_map, List.length_take]; omega
theorem mv_i64 (b : Int) (z : List Int) : ∀ x ∈ Z.mv b z, Z.I64 x := fun x hx => by
  obtain ⟨y, _, rfl⟩ := List.mem_map.1 hx
  exact (wrap64_is _).1
theorem dtl_same {l m : List Z.V} (h : Z.dst l = Z.dst m) : Z.dtl l = Z.dtl m := by unfold Z.dtl; rw [h]
/-- What holds of a column, the moved one, and the one all alike. -/
theorem moved_facts (b x : Int) (t : List Int) (hl : (x :: t).length ≤ 4096) :
    Z.chk (Z.vals (x :: t)) 1 = 0 ∧ Z.chk (Z.vals (Z.mv b (x :: t))) 1 = 0 ∧ Z.chk (Z.vals (List.replicate (t.length + 1) x)) 1 = 0 ∧ Z.chk (Z.vals [x]) 1 = 0 ∧ Z.chk (Z.vals [wrap64 (x + b)]) 1 = 0 := by
  simp only [List.length_cons] at hl
  exact ⟨vals_chk (by simpa using hl), vals_chk (by simpa [Z.mv] using hl), vals_chk (by simpa using hl), vals_chk (by simp), vals_chk (by simp)⟩
theorem moved_bytes (b x : Int) (t : List Int) (hl : (x :: t).length ≤ 4096) :
    (Z.decb (Z.vals (x :: t))).drop ((Z.decb (Z.vals [x])).length - 1) = (Z.decb (Z.vals (Z.mv b (x :: t)))).drop ((Z.decb (Z.vals [wrap64 (x + b)])).length - 1) ∧
    2 ≤ (Z.decb (Z.vals [x])).length ∧ 2 ≤ (Z.decb (Z.vals [wrap64 (x + b)])).length ∧ (Z.decb (Z.vals [x])).length ≤ (Z.decb (Z.vals (x :: t))).length ∧ (Z.decb (Z.vals [wrap64 (x + b)])).length ≤ (Z.decb (Z.vals (Z.mv b (x :: t)))).length ∧
    Z.decb (Z.vals (List.replicate (t.length + 1) x)) = Z.decb (Z.vals [x]) := by
  obtain ⟨h1, h2, h3, h4, h5⟩ := moved_facts b x t hl
  rw [decb_ok h1, decb_ok h2, decb_ok h3, decb_ok h4, decb_ok h5]
  obtain ⟨g1, g2, g3⟩ := deb_rest ⟨1, x, ⟨#[]⟩⟩ (Z.vals t)
  obtain ⟨k1, k2, k3⟩ := deb_rest ⟨1, wrap64 (x + b), ⟨#[]⟩⟩ (Z.vals (Z.mv b t))
  refine ⟨?_, g3, k3, g2, k2, deb_alike x t.length⟩
  have hd : Z.dst (Z.vals (Z.mv b (x :: t))) = Z.dst (Z.vals (x :: t)) := dst_moved b x t
  exact g1.trans ((dtl_same hd.symm).trans k1.symm)
def movesTbl (va : Option Addr) (len vc : Nat) (ua : Option Addr) (uc : Nat) (sa : Option Addr) (sc : Nat) (pa : Option Addr) (K1 pc : Nat) (qa : Option Addr) (K2 qc : Nat) (ra : Option Addr) (J1 rc : Nat) (oa : Option Addr) (oc : Nat) (ta : Option Addr) (J2 tc I1 I2 M : Nat) (us x1 x2 y1 : List Nat) : List (Nat × V.Ent) :=
  [(5, V.Ent.is (.bool true)),
    (6, V.Ent.is (.slice va len vc)),
    (7, V.Ent.is (.slice ua len uc)),
    (8, V.Ent.is (.slice sa len sc)),
    (10, V.Ent.is (.slice pa K1 pc)),
    (12, V.Ent.is (.slice qa K2 qc)),
    (14, V.Ent.is (.slice ra J1 rc)),
    (16, V.Ent.is (.slice oa J1 oc)),
    (18, V.Ent.is (.slice ta J2 tc)),
    (129, V.Ent.is (.bool true)),
    (130, V.Ent.is (.bool true)),
    (131, V.Ent.is (.slice va len vc)),
    (132, V.Ent.slU M us),
    (133, V.Ent.is (.slice ua len uc)),
    (134, V.Ent.slU M us),
    (135, V.Ent.is (.bool true)),
    (136, V.Ent.is (.bool true)),
    (137, V.Ent.is (.bool true)),
    (138, V.Ent.is (.slice pa K1 pc)),
    (139, V.Ent.is (.slice oa J1 oc)),
    (140, V.Ent.is (.int .i64 (J1 : Int))),
    (141, V.Ent.is (.int .i64 (I1 : Int))),
    (142, V.Ent.sl ((K1 - I1)) ((x1.drop I1))),
    (143, V.Ent.is (.string (strOfNums (ints ((x1.drop I1)))))),
    (144, V.Ent.is (.slice qa K2 qc)),
    (145, V.Ent.is (.slice ta J2 tc)),
    (146, V.Ent.is (.int .i64 (J2 : Int))),
    (147, V.Ent.is (.int .i64 (I2 : Int))),
    (148, V.Ent.sl ((K2 - I2)) ((x2.drop I2))),
    (149, V.Ent.is (.string (strOfNums (ints ((x2.drop I2)))))),
    (150, V.Ent.is (.bool true)),
    (151, V.Ent.is (.bool true)),
    (152, V.Ent.is (.bool true)),
    (153, V.Ent.is (.slice ra J1 rc)),
    (154, V.Ent.is (.string (strOfNums (ints y1)))),
    (155, V.Ent.is (.slice oa J1 oc)),
    (156, V.Ent.is (.string (strOfNums (ints y1)))),
    (157, V.Ent.is (.bool true)),
    (158, V.Ent.is (.bool true)),
    (159, V.Ent.is (.bool true)),
    (160, V.Ent.is (.slice sa len sc)),
    (161, V.Ent.is (.bool true)),
    (162, V.Ent.is (.bool true)),
    (4, V.Ent.is (.bool true))]
set_option maxHeartbeats 8000000 in
theorem deltaMoves_in (w : World) (a : Option Addr) (len cap : Nat) (z : List Int) (hs : Sl w .i64 a len cap z) (hz : ∀ x ∈ z, Z.I64 x) (by' : Int) (hby : Z.I64 by') :
    Calls Try.prog 5 #[.slice a len cap, .int .i64 by'] w fun e w' => e = .returned (.bool true) ∧ Below w.heap.size w w' := by
  have HS := hide hs
  have HZ := hide hz
  have HLL := hide hs.1
  clear hs hz
  go_enter Try.func5, Try.ntmps5
  go_wp2_with fail
  refine (mshown_any _).mono ?_
  rintro e w1 ⟨rfl, hb⟩
  have b0 := hide hb
  clear hb
  by_cases hbig : 1000 < len
  · go_wp2
    go_ret
    exact ⟨rfl, b0.out⟩
  · by_cases hz0 : len = 0
    · subst hz0
      go_wp2
      go_ret
      exact ⟨rfl, b0.out⟩
    · have hl1 : len ≤ 1000 := by omega
      have hlz : ((len : Int) == 0) = false := by simp; omega
      have hlp : 0 < len := by omega
      obtain ⟨bb, off, rfl, hlt, k0⟩ := HS.out.here (j := 0) (by omega)
      obtain ⟨x0, hx0⟩ : ∃ x, z[0]? = some x := ⟨z[0]'(by rw [HLL.out]; omega), List.getElem?_eq_getElem _⟩
      have HX0 := hide hx0
      clear k0 hx0
      go_wp2_with fail
      go_loopw [6, 7, 8, 9] (fun v u s i wr => ∃ j : Nat, j ≤ len ∧ i = .int .i64 j ∧ Hid (OwnV wr w1.heap.size v (Z.vals (z.take j))) ∧ Hid (OwnV wr w1.heap.size u (Z.vals (Z.mv by' (z.take j)))) ∧ Hid (OwnV wr w1.heap.size s (Z.vals (List.replicate j x0))) ∧ Hid (Apart v u) ∧ Hid (Apart v s) ∧ Hid (Apart u s) ∧ Hid (Below w1.heap.size w1 wr)) (fun _ _ _ i _ => len - (intOf i).toNat)
      case atStart => exact ⟨0, Nat.zero_le _, rfl, hide (World.ownsRow_nil _ _ _ _), hide (World.ownsRow_nil _ _ _ _), hide (World.ownsRow_nil _ _ _ _), hide (Apart.none _), hide (Apart.none _), hide (Apart.none _), hide (Below.refl _ _)⟩
      case round =>
        obtain ⟨j, hj, rfl, hrow, hmov, hrep, hvu, hvs, hus, hbw⟩ := hrel
        by_cases hjl : j < len
        · obtain ⟨bb', off', hbb, _, c0⟩ := HS.out.here hjl
          obtain ⟨rfl, rfl⟩ : bb = bb' ∧ off = off' := by injection hbb with e; injection e with e1 e2; exact ⟨e1, e2⟩
          obtain ⟨x, hx⟩ : ∃ x, z[j]? = some x := ⟨z[j]'(by rw [HLL.out]; exact hjl), List.getElem?_eq_getElem _⟩
          rw [show z.getD j 0 = x by rw [List.getD_eq_getElem?_getD, hx]; rfl] at c0
          obtain ⟨y, hy⟩ : ∃ y, wrap64 (x + by') = y := ⟨_, rfl⟩
          have hy2 : IntKind.i64.wrap (x + by') = y := by rw [IntKind.wrap_i64, ← hy]; unfold wrap64; omega
          have hb1 := bthen b0.out hbw.out
          have d1 : wr.cell? ⟨bb, off + j, none⟩ = some (.int .i64 x) := by rw [hb1.cell (p := ⟨bb, off + j, none⟩) hlt]; exact c0
          obtain ⟨n, hn⟩ : ∃ n, j + 1 = n := ⟨_, rfl⟩
          have hsn := vals_snoc hx
          have hsm := mv_snoc hx hy
          have hsr := rep_snoc x0 j
          rw [hn] at hsn hsm hsr
          have HN := hide hn
          have HC0 := hide c0
          have HSN := hide hsn
          have HSM := hide hsm
          have HSR := hide hsr
          have HVL := hide (vals_take_length (z := z) (j := j) (by rw [HLL.out]; exact hj))
          have HVM := hide (mv_take_length (b := by') (z := z) (j := j) (by rw [HLL.out]; exact hj))
          have HVR : Hid ((Z.vals (List.replicate j x0)).length = j) := by show _ = _; rw [vals_length, List.length_replicate]
          have HVN := hide (vals_take_length (z := z) (j := n) (by rw [HLL.out]; omega))
          have h00 : (Z.vals (z.take n))[0]? = some ⟨1, x0, ⟨#[]⟩⟩ := by
            unfold Z.vals
            rw [List.getElem?_map, List.getElem?_take_of_lt (by omega), HX0.out]
            rfl
          have H00 := hide h00
          have hrow2 : OwnV (wr.alloc (.cells #[.int .i64 1, .int .i64 x, .string ⟨#[]⟩] 42)) w1.heap.size u6 (Z.vals (z.take j)) := World.ownsRow.alloc hrow.out _
          have hmov2 : OwnV (wr.alloc (.cells #[.int .i64 1, .int .i64 x, .string ⟨#[]⟩] 42)) w1.heap.size u7 (Z.vals (Z.mv by' (z.take j))) := World.ownsRow.alloc hmov.out _
          have hrep2 : OwnV (wr.alloc (.cells #[.int .i64 1, .int .i64 x, .string ⟨#[]⟩] 42)) w1.heap.size u8 (Z.vals (List.replicate j x0)) := World.ownsRow.alloc hrep.out _
          have HR2 := hide hrow2
          have HM2 := hide hmov2
          have HP2 := hide hrep2
          have HB2 := hide (bthen hbw.out (below_one wr (.cells #[.int .i64 1, .int .i64 x, .string ⟨#[]⟩] 42)))
          have hsz2 := HB2.out.size
          have hn1 : n ≤ len := by omega
          have hn0 : 0 < n := by omega
          clear c0 hx hbb hrow hmov hrep hrow2 hmov2 hrep2 hb1 hn hsn hsm hsr h00
          go_wp2_with (at_builtin; refine wpList_appV rfl _ _ rfl w1.heap.size _ (Z.vals (z.take j)) rfl HR2.out (some ⟨wr.heap.size, 0, none⟩) 1 1 [⟨1, x, ⟨#[]⟩⟩] rfl (slV_one wr 1 x ⟨#[]⟩) (by rw [HVL.out]; omega) hsz2 ?_)
          intro v4 w4 ho4 has _
          have hb4 : Below w1.heap.size w1 w4 := HB2.out.trans (has.below hsz2 (fun g hg => (owns_lt HR2.out hg).1))
          rw [← HSN.out] at ho4
          obtain ⟨hm4, ap47⟩ := own_beside HM2.out hvu.out has
          obtain ⟨hp4, ap48⟩ := own_beside HP2.out hvs.out has
          have HB4 := hide hb4
          have AP47 := hide ap47
          have AP48 := hide ap48
          have e1 : w4.cell? ⟨bb, off + j, none⟩ = some (.int .i64 x) := by rw [(bthen b0.out hb4).cell (p := ⟨bb, off + j, none⟩) hlt]; exact HC0.out
          have hm5 : OwnV (w4.alloc (.cells #[.int .i64 1, .int .i64 y, .string ⟨#[]⟩] 42)) w1.heap.size u7 (Z.vals (Z.mv by' (z.take j))) := World.ownsRow.alloc hm4 _
          have hr5 : OwnV (w4.alloc (.cells #[.int .i64 1, .int .i64 y, .string ⟨#[]⟩] 42)) w1.heap.size v4 (Z.vals (z.take n)) := World.ownsRow.alloc ho4 _
          have hp5 : OwnV (w4.alloc (.cells #[.int .i64 1, .int .i64 y, .string ⟨#[]⟩] 42)) w1.heap.size u8 (Z.vals (List.replicate j x0)) := World.ownsRow.alloc hp4 _
          have HM5 := hide hm5
          have HR5 := hide hr5
          have HP5 := hide hp5
          have HB5 := hide (bthen hb4 (below_one w4 (.cells #[.int .i64 1, .int .i64 y, .string ⟨#[]⟩] 42)))
          have hsz5 := HB5.out.size
          clear ho4 hb4 has hm4 hp4 ap47 ap48 hm5 hr5 hp5 d1 HR2 HM2 HP2 hsz2 hvu hvs HB2
          go_wp2_with (at_builtin; refine wpList_appV rfl _ _ rfl w1.heap.size _ (Z.vals (Z.mv by' (z.take j))) rfl HM5.out (some ⟨w4.heap.size, 0, none⟩) 1 1 [⟨1, y, ⟨#[]⟩⟩] rfl (slV_one w4 1 y ⟨#[]⟩) (by rw [HVM.out]; omega) hsz5 ?_)
          intro v5 w6 ho6 has _
          have hb6 : Below w1.heap.size w1 w6 := HB5.out.trans (has.below hsz5 (fun g hg => (owns_lt HM5.out hg).1))
          rw [← HSM.out] at ho6
          obtain ⟨hr6, ap54⟩ := own_beside HR5.out AP47.out.swap has
          obtain ⟨hp6, ap58⟩ := own_beside HP5.out hus.out has
          obtain ⟨a4, c4, hv4, hs4, _⟩ := SlV.of_own hr6
          rw [HVN.out] at hv4 hs4
          subst hv4
          obtain ⟨g4, o4, k4, i4, s4, rfl, hg4, h4, m1, m2, m3⟩ := hs4.here (j := 0) hn0
          rw [H00.out] at h4
          injection h4 with h4
          injection h4 with e41 e42 e43
          subst e41 e42 e43
          have f1 : w6.cell? ⟨g4, o4, none⟩ = some (.int .i64 1) := m1
          have f2 : w6.cell? ⟨g4, o4 + 1, none⟩ = some (.int .i64 x0) := by have := m2; rwa [show o4 + 0 * 3 + 1 = o4 + 1 by omega] at this
          have f3 : w6.cell? ⟨g4, o4 + 2, none⟩ = some (.string ⟨#[]⟩) := by have := m3; rwa [show o4 + 0 * 3 + 2 = o4 + 2 by omega] at this
          have HB6 := hide hb6
          have AP54 := hide ap54
          have AP58 := hide ap58
          have hr7 : OwnV (w6.alloc (.cells #[.int .i64 1, .int .i64 x0, .string ⟨#[]⟩] 42)) w1.heap.size (.slice (some ⟨g4, o4, none⟩) n c4) (Z.vals (z.take n)) := World.ownsRow.alloc hr6 _
          have hm7 : OwnV (w6.alloc (.cells #[.int .i64 1, .int .i64 x0, .string ⟨#[]⟩] 42)) w1.heap.size v5 (Z.vals (Z.mv by' (z.take n))) := World.ownsRow.alloc ho6 _
          have hp7 : OwnV (w6.alloc (.cells #[.int .i64 1, .int .i64 x0, .string ⟨#[]⟩] 42)) w1.heap.size u8 (Z.vals (List.replicate j x0)) := World.ownsRow.alloc hp6 _
          have HR7 := hide hr7
          have HM7 := hide hm7
          have HP7 := hide hp7
          have HB7 := hide (bthen hb6 (below_one w6 (.cells #[.int .i64 1, .int .i64 x0, .string ⟨#[]⟩] 42)))
          have hsz7 := HB7.out.size
          clear ho6 hb6 has hr6 hp6 ap54 ap58 hr7 hm7 hp7 e1 HM5 HR5 HP5 hsz5 hus hs4 m1 m2 m3 HB5 AP47
          go_wp2_with (at_builtin; refine wpList_appV rfl _ _ rfl w1.heap.size _ (Z.vals (List.replicate j x0)) rfl HP7.out (some ⟨w6.heap.size, 0, none⟩) 1 1 [⟨1, x0, ⟨#[]⟩⟩] rfl (slV_one w6 1 x0 ⟨#[]⟩) (by rw [HVR.out]; omega) hsz7 ?_)
          intro v7 w8 ho8 has _
          have hb8 : Below w1.heap.size w1 w8 := HB7.out.trans (has.below hsz7 (fun g hg => (owns_lt HP7.out hg).1))
          rw [← HSR.out] at ho8
          obtain ⟨hr8, ap74⟩ := own_beside HR7.out AP48.out.swap has
          obtain ⟨hm8, ap75⟩ := own_beside HM7.out AP58.out.swap has
          have HR8 := hide hr8
          have HM8 := hide hm8
          have HP8 := hide ho8
          have AP74 := hide ap74.swap
          have AP75 := hide ap75.swap
          have HB8 := hide hb8
          clear ho8 hb8 has hr8 hm8 ap74 ap75 f1 f2 f3 HR7 HM7 HP7 hsz7 AP48 AP58
          go_wp2
          go_roundw
          case rel => exact ⟨n, hn1, by rw [← HN.out]; go_num, HR8, HM8, HP8, hide AP54.out.swap, AP74, AP75, HB8⟩
          case measure => have := HN.out; simp [intOf]; omega
        · obtain rfl : j = len := by omega
          have hrow1 := hrow.out
          have hmov1 := hmov.out
          have hrep1 := hrep.out
          rw [show z.take j = z from by rw [← HLL.out, List.take_length]] at hrow1 hmov1
          obtain ⟨x, t, hzt⟩ : ∃ x t, z = x :: t := by
            cases z with
            | nil => have := HLL.out; simp at this; omega
            | cons x t => exact ⟨x, t, rfl⟩
          have hxx : x = x0 := by have := HX0.out; rw [hzt] at this; simpa using this
          subst hxx
          have htl : t.length + 1 = j := by rw [← HLL.out, hzt]; rfl
          obtain ⟨c1, c2, c3, c4, c5⟩ := moved_facts by' x t (by rw [List.length_cons]; omega)
          obtain ⟨m1, m2, m3, m4, m5, m6⟩ := moved_bytes by' x t (by rw [List.length_cons]; omega)
          have hdst : Z.dst (Z.vals (Z.mv by' (x :: t))) = Z.dst (Z.vals (x :: t)) := dst_moved by' x t
          rw [htl] at c3 m6
          have ht1 : (Z.vals (x :: t)).take 1 = Z.vals [x] := rfl
          have ht2 : (Z.vals (Z.mv by' (x :: t))).take 1 = Z.vals [wrap64 (x + by')] := rfl
          have hV1 := vals_i64 HZ.out
          have hV2 := vals_i64 (mv_i64 by' z)
          have hV3 : ∀ y ∈ Z.vals (List.replicate j x), Z.I64 y.i := vals_i64 fun y hy => by rw [(List.mem_replicate.1 hy).2]; exact HZ.out x (by rw [hzt]; simp)
          have hV4 : ∀ y ∈ Z.vals [x], Z.I64 y.i := vals_i64 fun y hy => by simp at hy; subst hy; exact HZ.out y (by rw [hzt]; simp)
          have hV5 : ∀ y ∈ Z.vals [wrap64 (x + by')], Z.I64 y.i := vals_i64 fun y hy => by simp at hy; subst hy; exact (wrap64_is _).1
          rw [← hzt] at c1 c2 m1 m4 m5 hdst ht1 ht2
          have hn1 : (Z.vals z).length = j := by rw [vals_length]; exact HLL.out
          have hn2 : (Z.vals (Z.mv by' z)).length = j := by unfold Z.mv; rw [vals_length, List.length_map]; exact HLL.out
          have hn3 : (Z.vals (List.replicate j x)).length = j := by rw [vals_length, List.length_replicate]
          have hup := up_alike x j
          obtain ⟨l1, e1⟩ : ∃ l, Z.vals z = l := ⟨_, rfl⟩
          obtain ⟨l2, e2⟩ : ∃ l, Z.vals (Z.mv by' z) = l := ⟨_, rfl⟩
          obtain ⟨l3, e3⟩ : ∃ l, Z.vals (List.replicate j x) = l := ⟨_, rfl⟩
          obtain ⟨l4, e4⟩ : ∃ l, Z.vals [x] = l := ⟨_, rfl⟩
          obtain ⟨l5, e5⟩ : ∃ l, Z.vals [wrap64 (x + by')] = l := ⟨_, rfl⟩
          rw [e1] at hrow1 c1 m1 m4 hdst ht1 hV1 hn1
          rw [e2] at hmov1 c2 m1 m5 hdst ht2 hV2 hn2
          rw [e3] at hrep1 c3 m6 hV3 hn3 hup
          rw [e4] at c4 m1 m2 m4 m6 ht1 hV4
          rw [e5] at c5 m1 m3 m5 ht2 hV5
          obtain ⟨us, hus'⟩ : ∃ us, Z.dst l1 = us := ⟨_, rfl⟩
          rw [hus'] at hdst
          obtain ⟨M, hM⟩ : ∃ M, us.length = M := ⟨_, rfl⟩
          have hM4 : M ≤ 1000 := by rw [← hM, ← hus', dst_length, hn1]; omega
          have k1 := decb_len hV1
          have k2 := decb_len hV2
          obtain ⟨x1, ex1⟩ : ∃ b, Z.decb l1 = b := ⟨_, rfl⟩
          obtain ⟨x2, ex2⟩ : ∃ b, Z.decb l2 = b := ⟨_, rfl⟩
          obtain ⟨y1, ey1⟩ : ∃ b, Z.decb l4 = b := ⟨_, rfl⟩
          obtain ⟨y2, ey2⟩ : ∃ b, Z.decb l5 = b := ⟨_, rfl⟩
          rw [ex1] at m1 m4 k1
          rw [ex2] at m1 m5 k2
          rw [ey1] at m1 m2 m4 m6
          rw [ey2] at m1 m3 m5
          obtain ⟨K1, eK1⟩ : ∃ K, x1.length = K := ⟨_, rfl⟩
          obtain ⟨K2, eK2⟩ : ∃ K, x2.length = K := ⟨_, rfl⟩
          obtain ⟨J1, eJ1⟩ : ∃ K, y1.length = K := ⟨_, rfl⟩
          obtain ⟨J2, eJ2⟩ : ∃ K, y2.length = K := ⟨_, rfl⟩
          rw [eK1] at m4 k1
          rw [eK2] at m5 k2
          rw [eJ1] at m1 m2 m4
          rw [eJ2] at m1 m3 m5
          obtain ⟨I1, eI1⟩ : ∃ I, J1 - 1 = I := ⟨_, rfl⟩
          obtain ⟨I2, eI2⟩ : ∃ I, J2 - 1 = I := ⟨_, rfl⟩
          rw [eI1, eI2] at m1
          have HEQ := hide m1
          have HI1 := hide eI1
          have HI2 := hide eI2
          obtain ⟨va, vc, hv, hs1, _⟩ := SlV.of_own hrow1
          obtain ⟨ua, uc, hu, hs2, _⟩ := SlV.of_own hmov1
          obtain ⟨sa, sc, hs, hs3, _⟩ := SlV.of_own hrep1
          rw [hn1] at hv hs1
          rw [hn2] at hu hs2
          rw [hn3] at hs hs3
          subst hv hu hs
          replace b0 := hide (bthen b0.out hbw.out)
          have bytes : ∀ (l : List Z.V) (n : Nat) (xs : List Nat) (K : Nat), (∀ y ∈ l, Z.I64 y.i) → Z.chk l 1 = 0 → Z.decb l = xs → xs.length = K → ∀ (w9 : World) (ao : Option Addr) (c : Nat), SlV w9 ao n c l → Calls Try.prog 10 #[.slice ao n c] w9 fun e w' => ∃ a c, e = .returned (.tuple #[.slice a K c, .int .i64 0]) ∧ Sl w' .u8 a K c (ints xs) ∧ Below w9.heap.size w9 w' := fun l n xs K h1 h2 h3 h4 w9 ao c h9 => by
            have := debytes_any ao n c l w9 h9 h1
            unfold DeltaBytesAns at this
            rwa [h3, h4, h2] at this
          have D1 := hide (bytes l1 j x1 K1 hV1 c1 ex1 eK1)
          have D2 := hide (bytes l2 j x2 K2 hV2 c2 ex2 eK2)
          have D3 := hide (bytes l3 j y1 J1 hV3 c3 m6 eJ1)
          have D4 := hide (bytes l4 1 y1 J1 hV4 c4 ey1 eJ1)
          have D5 := hide (bytes l5 1 y2 J2 hV5 c5 ey2 eJ2)
          have SA : Hid (∀ w9 : World, Below wr.heap.size wr w9 → Calls Try.prog 15 #[.slice va j vc] w9 fun e w' => ∃ a c, e = .returned (.slice a M c) ∧ Sl w' .u64 a M c (ints us) ∧ Below w9.heap.size w9 w') := fun w9 h9 => by
            have := steps_any va j vc l1 w9 (hs1.below h9) hV1 (by omega)
            unfold StepsAns at this
            rwa [hus', hM] at this
          have SB : Hid (∀ w9 : World, Below wr.heap.size wr w9 → Calls Try.prog 15 #[.slice ua j uc] w9 fun e w' => ∃ a c, e = .returned (.slice a M c) ∧ Sl w' .u64 a M c (ints us) ∧ Below w9.heap.size w9 w') := fun w9 h9 => by
            have := steps_any ua j uc l2 w9 (hs2.below h9) hV2 (by omega)
            unfold StepsAns at this
            rwa [hdst, hM] at this
          have SC : Hid (∀ w9 : World, Below wr.heap.size wr w9 → Calls Try.prog 17 #[.slice sa j sc] w9 fun e w' => e = .returned (.bool true) ∧ Below w9.heap.size w9 w') := fun w9 h9 => by
            have := sorted_any sa j sc l3 w9 (hs3.below h9) (by omega)
            rwa [hup] at this
          have V1 := hide hs1
          have V2 := hide hs2
          have V3 := hide hs3
          have T1 := hide ht1
          have T2 := hide ht2
          clear bytes hrow1 hmov1 hrep1 hzt htl c1 c2 c3 c4 c5 m1 m6 hdst ht1 ht2 hV1 hV2 hV3 hV4 hV5 hn1 hn2 hn3 hup e1 e2 e3 e4 e5 hus' hM ex1 ex2 ey1 ey2 eK1 eK2 eJ1 eJ2 eI1 eI2 hs1 hs2 hs3 hrow hmov hrep hvu hvs hus
          go_wp2_with fail
          refine (D1.out wr va vc V1.out).mono ?_
          rintro e w3 ⟨pa, pc, rfl, hs3, hb⟩
          have B3 := hide hb
          have HX1 := hide hs3
          clear hb hs3 D1
          go_wp2_with fail
          refine (D2.out w3 ua uc (V2.out.below B3.out)).mono ?_
          rintro e w4 ⟨qa, qc, rfl, hs4, hb⟩
          have B4 := hide (bthen B3.out hb)
          replace HX1 := hide (HX1.out.below hb)
          have HX2 := hide hs4
          clear hb hs4 D2 B3
          go_wp2_with fail
          refine (D3.out w4 sa sc (V3.out.below B4.out)).mono ?_
          rintro e w5 ⟨ra, rc, rfl, hs5, hb⟩
          have B5 := hide (bthen B4.out hb)
          replace HX1 := hide (HX1.out.below hb)
          replace HX2 := hide (HX2.out.below hb)
          have HX3 := hide hs5
          obtain ⟨ha, hqs, hr1, hr2⟩ := head_one (V1.out.below B5.out) hlp
          rw [T1.out] at hqs
          have HQS := hide hqs
          clear hb hs5 D3 B4 hqs
          go_wp2_with fail
          refine (D4.out w5 ha vc HQS.out).mono ?_
          rintro e w6 ⟨oa, oc, rfl, hs6, hb⟩
          have B6 := hide (bthen B5.out hb)
          replace HX1 := hide (HX1.out.below hb)
          replace HX2 := hide (HX2.out.below hb)
          replace HX3 := hide (HX3.out.below hb)
          have HY1 := hide hs6
          clear hr1 hr2
          obtain ⟨ga, hqs, hr1, hr2⟩ := head_one (V2.out.below B6.out) hlp
          rw [T2.out] at hqs
          replace HQS := hide hqs
          clear hb hs6 D4 B5 hqs
          go_wp2_with fail
          refine (D5.out w6 ga uc HQS.out).mono ?_
          rintro e w7 ⟨ta, tc, rfl, hs7, hb⟩
          have B7 := hide (bthen B6.out hb)
          replace HX1 := hide (HX1.out.below hb)
          replace HX2 := hide (HX2.out.below hb)
          replace HX3 := hide (HX3.out.below hb)
          replace HY1 := hide (HY1.out.below hb)
          replace b0 := hide (bthen b0.out B7.out)
          clear hb hs7 D5 B6 hr1 hr2 HQS
          have S1 : Hid (∀ w9 : World, Below w7.heap.size w7 w9 → Calls Try.prog 15 #[.slice va j vc] w9 fun e w' => ∃ a c, e = .returned (.slice a M c) ∧ Sl w' .u64 a M c (ints us) ∧ Below w9.heap.size w9 w') := fun w9 h9 => SA.out w9 (bthen B7.out h9)
          have S2 : Hid (∀ w9 : World, Below w7.heap.size w7 w9 → Calls Try.prog 15 #[.slice ua j uc] w9 fun e w' => ∃ a c, e = .returned (.slice a M c) ∧ Sl w' .u64 a M c (ints us) ∧ Below w9.heap.size w9 w') := fun w9 h9 => SB.out w9 (bthen B7.out h9)
          have DS : Hid (∀ w9 : World, Below w7.heap.size w7 w9 → Calls Try.prog 17 #[.slice sa j sc] w9 fun e w' => e = .returned (.bool true) ∧ Below w9.heap.size w9 w') := fun w9 h9 => SC.out w9 (bthen B7.out h9)
          have g1 : decide ((J1 : Int) < 2) = false := by simp; omega
          have g2 : decide ((J2 : Int) < 2) = false := by simp; omega
          have g3 : decide ((K1 : Int) < (J1 : Int)) = false := by simp; omega
          have g4 : decide ((K2 : Int) < (J2 : Int)) = false := by simp; omega
          clear SA SB SC V1 V2 V3 T1 T2 B7
          go_wp2_with fail
          have hi1 := HI1.out
          have hi2 := HI2.out
          refine V.wp_region (w0 := w7) [5, 6, 7, 8, 10, 12, 14, 16, 18] (movesTbl va j vc ua uc sa sc pa K1 pc qa K2 qc ra J1 rc oa oc ta J2 tc I1 I2 M us x1 x2 y1) (by kernel_rfl) (by kernel_rfl) (Below.refl _ _) ?hb ?hs ?hd
          case hb =>
            intro d hd
            simp only [List.mem_cons, List.not_mem_nil, or_false] at hd
            rcases hd with rfl | rfl | rfl | rfl | rfl | rfl | rfl | rfl | rfl <;> rfl
          case hs =>
            refine ⟨?_, ?_, ?_, ?_, ?_, ?_, ?_, ?_, ?_, ?_, ?_, ?_, ?_, ?_, ?_, ?_, ?_, ?_, ?_, ?_, ?_, ?_, ?_, ?_, ?_, ?_, ?_, ?_, ?_, ?_, ?_, ?_, ?_, ?_, ?_, trivial⟩
            · exact V.Step.move (.inl rfl) (.inl rfl) (.inl ⟨_, rfl⟩) (fun _ h => by cases h; rfl)
            · exact V.Step.move (.inl rfl) (.inl rfl) (.inl ⟨_, rfl⟩) (fun _ h => by cases h; rfl)
            · exact V.Step.move (.inr ⟨_, _, _, rfl, rfl, rfl⟩) (.inl rfl) (.inl ⟨_, rfl⟩) (fun _ h => by cases h; rfl)
            · exact V.Step.call1 (.inr ⟨_, _, _, rfl, rfl, rfl⟩) rfl rfl Try.func15 (by decide +kernel) rfl (fun w1 hw1 => (S1.out w1 hw1).mono (by rintro e w9 ⟨a9, c9, rfl, hs9, hb9⟩; exact ⟨_, rfl, hb9, fun d h => by cases h; exact ⟨a9, c9, rfl, hs9⟩⟩)) 
            · exact V.Step.move (.inr ⟨_, _, _, rfl, rfl, rfl⟩) (.inl rfl) (.inl ⟨_, rfl⟩) (fun _ h => by cases h; rfl)
            · exact V.Step.call1 (.inr ⟨_, _, _, rfl, rfl, rfl⟩) rfl rfl Try.func15 (by decide +kernel) rfl (fun w1 hw1 => (S2.out w1 hw1).mono (by rintro e w9 ⟨a9, c9, rfl, hs9, hb9⟩; exact ⟨_, rfl, hb9, fun d h => by cases h; exact ⟨a9, c9, rfl, hs9⟩⟩)) 
            · exact V.Step.callR2 (.inr ⟨_, _, _, rfl, rfl, rfl⟩) rfl Try.func14 (by decide +kernel) rfl (fun w1 v1 v2 hw1 h1 h2 => by obtain ⟨a8, c8, rfl, s8⟩ := h1; obtain ⟨a9, c9, rfl, s9⟩ := h2; refine (u64same_yes a8 a9 M c8 c9 (ints us) w1 s8 s9 (by omega)).mono ?_; rintro e w9 ⟨rfl, hk9⟩; exact ⟨_, rfl, hk9.below (Nat.le_refl _) (by simp), fun d h => by cases h; rfl⟩)
            · exact V.Step.pick (b := true) (.inl rfl) rfl ⟨_, rfl, rfl⟩ (.inl ⟨_, rfl⟩) (fun _ h => by cases h; rfl)
            · exact V.Step.move (.inl rfl) (.inl rfl) (.inl ⟨_, rfl⟩) (fun _ h => by cases h; rfl)
            · exact V.Step.move (.inr ⟨_, _, _, rfl, rfl, rfl⟩) (.inl rfl) (.inl ⟨_, rfl⟩) (fun _ h => by cases h; rfl)
            · exact V.Step.move (.inr ⟨_, _, _, rfl, rfl, rfl⟩) (.inl rfl) (.inl ⟨_, rfl⟩) (fun _ h => by cases h; rfl)
            · exact V.Step.len (.inr ⟨_, _, _, rfl, rfl, rfl⟩) rfl (fun v w h => ⟨_, _, h⟩) (fun _ h => by cases h; rfl)
            · exact V.Step.bin (v1 := .int .i64 (J1 : Int)) (v2 := .int .i64 1) (v := .int .i64 (I1 : Int)) (.inr ⟨_, _, _, rfl, rfl, rfl⟩) rfl (.inl ⟨_, rfl⟩) (.inr ⟨_, rfl⟩) rfl rfl (fun w => ⟨rfl, V.sub_of (by rw [V.wrap_in ⟨by omega, by omega⟩]; omega) w⟩) (fun _ h => by cases h; rfl)
            · exact V.Step.rest (.inr ⟨_, _, _, rfl, rfl, rfl⟩) rfl rfl rfl HX1.out (by omega) (fun _ h => by cases h; rfl)
            · exact V.Step.str (.inr ⟨_, _, _, rfl, rfl, rfl⟩) rfl rfl (fun _ h => by cases h; rfl)
            · exact V.Step.move (.inr ⟨_, _, _, rfl, rfl, rfl⟩) (.inl rfl) (.inl ⟨_, rfl⟩) (fun _ h => by cases h; rfl)
            · exact V.Step.move (.inr ⟨_, _, _, rfl, rfl, rfl⟩) (.inl rfl) (.inl ⟨_, rfl⟩) (fun _ h => by cases h; rfl)
            · exact V.Step.len (.inr ⟨_, _, _, rfl, rfl, rfl⟩) rfl (fun v w h => ⟨_, _, h⟩) (fun _ h => by cases h; rfl)
            · exact V.Step.bin (v1 := .int .i64 (J2 : Int)) (v2 := .int .i64 1) (v := .int .i64 (I2 : Int)) (.inr ⟨_, _, _, rfl, rfl, rfl⟩) rfl (.inl ⟨_, rfl⟩) (.inr ⟨_, rfl⟩) rfl rfl (fun w => ⟨rfl, V.sub_of (by rw [V.wrap_in ⟨by omega, by omega⟩]; omega) w⟩) (fun _ h => by cases h; rfl)
            · exact V.Step.rest (.inr ⟨_, _, _, rfl, rfl, rfl⟩) rfl rfl rfl HX2.out (by omega) (fun _ h => by cases h; rfl)
            · exact V.Step.str (.inr ⟨_, _, _, rfl, rfl, rfl⟩) rfl rfl (fun _ h => by cases h; rfl)
            · exact V.Step.bin (v1 := .string (strOfNums (ints (x1.drop I1)))) (v2 := .string (strOfNums (ints (x2.drop I2)))) (v := .bool true) (.inr ⟨_, _, _, rfl, rfl, rfl⟩) rfl (.inl ⟨_, rfl⟩) (.inl ⟨_, rfl⟩) rfl rfl (fun w => ⟨rfl, by rw [HEQ.out]; simp [go_sem]⟩) (fun _ h => by cases h; rfl)
            · exact V.Step.pick (b := true) (.inl rfl) rfl ⟨_, rfl, rfl⟩ (.inl ⟨_, rfl⟩) (fun _ h => by cases h; rfl)
            · exact V.Step.move (.inl rfl) (.inl rfl) (.inl ⟨_, rfl⟩) (fun _ h => by cases h; rfl)
            · exact V.Step.move (.inr ⟨_, _, _, rfl, rfl, rfl⟩) (.inl rfl) (.inl ⟨_, rfl⟩) (fun _ h => by cases h; rfl)
            · exact V.Step.strOld (.inr ⟨_, _, _, rfl, rfl, rfl⟩) rfl rfl HX3.out (fun _ h => by cases h; rfl)
            · exact V.Step.move (.inr ⟨_, _, _, rfl, rfl, rfl⟩) (.inl rfl) (.inl ⟨_, rfl⟩) (fun _ h => by cases h; rfl)
            · exact V.Step.strOld (.inr ⟨_, _, _, rfl, rfl, rfl⟩) rfl rfl HY1.out (fun _ h => by cases h; rfl)
            · exact V.Step.bin (v1 := .string (strOfNums (ints y1))) (v2 := .string (strOfNums (ints y1))) (v := .bool true) (.inr ⟨_, _, _, rfl, rfl, rfl⟩) rfl (.inl ⟨_, rfl⟩) (.inl ⟨_, rfl⟩) rfl rfl (fun w => ⟨rfl, by simp [go_sem]⟩) (fun _ h => by cases h; rfl)
            · exact V.Step.pick (b := true) (.inl rfl) rfl ⟨_, rfl, rfl⟩ (.inl ⟨_, rfl⟩) (fun _ h => by cases h; rfl)
            · exact V.Step.move (.inl rfl) (.inl rfl) (.inl ⟨_, rfl⟩) (fun _ h => by cases h; rfl)
            · exact V.Step.move (.inr ⟨_, _, _, rfl, rfl, rfl⟩) (.inl rfl) (.inl ⟨_, rfl⟩) (fun _ h => by cases h; rfl)
            · exact V.Step.call1 (.inr ⟨_, _, _, rfl, rfl, rfl⟩) rfl rfl Try.func17 (by decide +kernel) rfl (fun w1 hw1 => (DS.out w1 hw1).mono (by rintro e w9 ⟨rfl, hb9⟩; exact ⟨_, rfl, hb9, fun d h => by cases h; rfl⟩)) 
            · exact V.Step.pick (b := true) (.inl rfl) rfl ⟨_, rfl, rfl⟩ (.inl ⟨_, rfl⟩) (fun _ h => by cases h; rfl)
            · exact V.Step.move (.inl rfl) (.inr rfl) (.inl ⟨_, rfl⟩) (fun _ h => by cases h; rfl)
          case hd =>
            intro a0 w9 hw1 hdf hk
            have h4 : a0.tmps[4]?.getD undef = .bool true := V.slot_of (hk 34 _ 4 rfl rfl)
            go_wp2
            exact bodyPost_ret (v := .bool true) (by simp [results, Try.results5, h4, go_sem]) hdf ⟨rfl, b0.out.trans (hw1.mono b0.out.size)⟩
theorem deltaMoves_walk (w : World) (a : Option Addr) (len cap : Nat) (z : List Int) (c : Came .i64 w a len cap z) (hr : cap * 8 ≤ 140737488351232) (by' : Int) (wb : (Lit.int .i64 by').wf = true) :
    Calls Try.prog 5 #[.slice a len cap, .int .i64 by'] w fun e w' => e = .returned (.bool true) ∧ Below w.heap.size w w' :=
  deltaMoves_in w a len cap z c.1 (fun x hx => wf_i64 (c.2 x hx)) by' (wf_i64 wb)
end Go.Proofs.Ytkcpfgjkplailaa

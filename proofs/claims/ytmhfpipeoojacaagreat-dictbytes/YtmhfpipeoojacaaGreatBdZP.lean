/- The document's Words: by insertion. Conditions: at most 2^20 values, texts that a machine can hold. -/
import Derived.Test.YtmhfpipeoojacaaGreatBdZO
import Derived.Test.YtmhfpipeoojacaaGreatBdT
namespace Go.Proofs.YtmhfpipeoojacaaGreat
set_option linter.unusedVariables false
set_option maxRecDepth 10000
open Go.RowKit
theorem own_lowV9 {w : World} {B C : Nat} {v : Value} {l : List Z.V} (h : OwnV w B v l) (hC : C ≤ B) : OwnV w C v l := owns_base h fun g hg => Nat.le_trans hC (owns_lt h hg).1
theorem own_bareV9 (w : World) {B : Nat} (hB : B ≤ w.heap.size) : OwnV (w.alloc (.cells #[] 45)) B (.slice (some ⟨w.heap.size, 0, none⟩) 0 0) [] := World.ownsRow_lit w #[] 0 hB (by decide) rfl
def RWordsAns (w : World) (l : List Z.V) (e : Ending) (w' : World) : Prop := ∃ v, e = .returned v ∧ OwnV w' w.heap.size v (Z.wds l) ∧ Below w.heap.size w w'
set_option maxHeartbeats 2000000 in
theorem rwords_any (ao : Option Addr) (len cap : Nat) (l : List Z.V) (w : World) (h : SlV w ao len cap l) (hsz : ∀ x ∈ l, x.s.size ≤ 9223372036854775807) (hl : len ≤ 1048576) :
    Calls Tryz.prog 15 #[.slice ao len cap] w (RWordsAns w l) := by
  have HS := hide h
  have HSZ := hide hsz
  have HL := hide h.1
  clear h hsz
  go_enter Tryz.func15, Tryz.ntmps15
  go_wp2_with fail
  go_loopw [3, 4] (fun v i wr => ∃ j : Nat, j ≤ len ∧ i = .int .i64 j ∧ Hid (OwnV wr w.heap.size v (Z.wds (l.take j))) ∧ Hid (Below w.heap.size w wr)) (fun _ i _ => len - (intOf i).toNat)
  case atStart => exact ⟨0, Nat.zero_le _, rfl, hide (World.ownsRow_nil _ _ _ _), hide (Below.refl _ _)⟩
  case round =>
    obtain ⟨j, hj, rfl, hrow, hbw⟩ := hrel
    by_cases hjl : j < len
    · obtain ⟨b, off, xk, xi, xs, rfl, hlt, hx, c1, c2, c3⟩ := HS.out.at hjl
      have d1 : wr.cell? ⟨b, off + j * 3, none⟩ = some (.int .i64 xk) := by rw [hbw.out.cell (p := ⟨b, off + j * 3, none⟩) hlt]; exact c1
      have d2 : wr.cell? ⟨b, off + j * 3 + 1, none⟩ = some (.int .i64 xi) := by rw [hbw.out.cell (p := ⟨b, off + j * 3 + 1, none⟩) hlt]; exact c2
      have d3 : wr.cell? ⟨b, off + j * 3 + 2, none⟩ = some (.string xs) := by rw [hbw.out.cell (p := ⟨b, off + j * 3 + 2, none⟩) hlt]; exact c3
      have HC1 := hide c1
      have HC2 := hide c2
      have HC3 := hide c3
      have hxz : xs.size ≤ 9223372036854775807 := HSZ.out _ (List.mem_of_getElem? hx)
      obtain ⟨ws, hws⟩ : ∃ ws, Z.wds (l.take j) = ws := ⟨_, rfl⟩
      have hrise : Z.Rise ws := by rw [← hws]; exact wds_rise _
      have hwsz : ∀ y ∈ ws, y.s.size ≤ 9223372036854775807 := fun y hy => HSZ.out y (List.mem_of_mem_take (words_mem (words_of (l.take j)) (by rw [hws]; exact hy)))
      have hnext : Z.wds (l.take (j + 1)) = Z.ins ws ⟨xk, xi, xs⟩ := by rw [take_snocV hx, wds_snoc, hws]
      have hwl : ws.length ≤ j := by
        rw [← hws]
        have := wds_len (l.take j)
        rw [List.length_take] at this
        omega
      have hrow1 := hrow.out
      rw [hws] at hrow1
      obtain ⟨oa, oc, hv, hsl, _⟩ := SlV.of_own hrow1
      obtain ⟨m, hm⟩ : ∃ m, ws.length = m := ⟨_, rfl⟩
      rw [hm] at hv hsl hwl
      have HROW := hide hrow1
      have HSL := hide hsl
      have HRISE := hide hrise
      have HNEXT := hide hnext
      have HM := hide hm
      have HWSZ := hide hwsz
      have HBL := hide (rbelow_any oa m oc ws xk xi xs wr hsl hwsz hxz (by omega))
      have hble := blw_le ws ⟨xk, xi, xs⟩
      rw [hm] at hble
      obtain ⟨at', hat⟩ : ∃ n, Z.blw ws ⟨xk, xi, xs⟩ = n := ⟨_, rfl⟩
      rw [hat] at HBL hble
      have HAT := hide hat
      have HV := hide hv
      rw [hv]
      clear c1 c2 c3 hx hws hrise hwsz hnext hrow1 hrow hsl hm hat hv
      go_wp2_with fail
      refine HBL.out.mono ?_
      rintro e w2 ⟨rfl, hb2⟩
      have HB2 := hide (bthen hbw.out hb2)
      have HSL2 := hide (HSL.out.below hb2)
      have HROW2 := hide (HROW.out.below hb2)
      have HXZ := hide hxz
      have f1 : ∀ p : BBy w2, p.v.cell? ⟨b, off + j * 3, none⟩ = some (.int .i64 xk) := fun p => by rw [(bthen HB2.out p.h).cell (p := ⟨b, off + j * 3, none⟩) hlt]; exact HC1.out
      have f2 : ∀ p : BBy w2, p.v.cell? ⟨b, off + j * 3 + 1, none⟩ = some (.int .i64 xi) := fun p => by rw [(bthen HB2.out p.h).cell (p := ⟨b, off + j * 3 + 1, none⟩) hlt]; exact HC2.out
      have f3 : ∀ p : BBy w2, p.v.cell? ⟨b, off + j * 3 + 2, none⟩ = some (.string xs) := fun p => by rw [(bthen HB2.out p.h).cell (p := ⟨b, off + j * 3 + 2, none⟩) hlt]; exact HC3.out
      have inh : Nonempty (BBy w2) := ⟨⟨w2, Below.refl _ _⟩⟩
      clear hb2 HBL HSL HROW hbw d1 d2 d3 hxz
      cases hh : Z.has ws ⟨xk, xi, xs⟩ with
      | true =>
        obtain ⟨⟨yk, yi, ys⟩, hy, hc0⟩ := (rise_has HRISE.out ⟨xk, xi, xs⟩).1 hh
        rw [HAT.out] at hy
        have hlm : at' < m := by rw [← HM.out]; exact (List.getElem?_eq_some_iff.1 hy).1
        obtain ⟨bv, ov, k1, k2, k3, rfl, hx2, g1, g2, g3⟩ := HSL2.out.atP hlm
        rw [hx2] at hy
        injection hy with hy
        injection hy with hy1 hy2 hy3
        subst hy1 hy2 hy3
        have CMP : Hid (∀ p : BBy w2, Calls Tryz.prog 43 #[.agg #[.int .i64 k1, .int .i64 k2, .string k3], .agg #[.int .i64 xk, .int .i64 xi, .string xs]] p.v fun e w' => e = .returned (.int .i64 0) ∧ Below p.v.heap.size p.v w') := by
          intro p
          have := (ucompare_two k1 k2 k3 xk xi xs p.v (HWSZ.out _ (List.mem_of_getElem? hx2)) HXZ.out).mono fun _ _ h => CmpAns.below h
          rwa [hc0] at this
        have HINS := hide (ins_has hh)
        clear hc0 hx2 hh
        go_wp2_with fail
        refine region_below (by kernel_rfl) ?_
        repeat (quiet_step (first | (go_at_call 43; refine Calls.below_of (CMP.out _))))
        refine wpQuiet_nil ?_
        intro w3 hw'
        obtain ⟨⟨w3', hb3⟩, hw''⟩ := hw'
        obtain rfl : w3 = w3' := hw''
        have HB3 := hide (bthen HB2.out hb3)
        have HROW3 := hide (HROW2.out.below hb3)
        clear hb3 CMP f1 f2 f3 g1 g2 g3
        go_wp2
        go_roundw
        case rel => exact ⟨j + 1, by omega, by go_num, by rw [HNEXT.out, HINS.out, ← HV.out]; exact HROW3, HB3⟩
        case measure => simp [intOf]; omega
      | false =>
        have HINS := hide (ins_new hh)
        rw [HAT.out] at HINS
        have hcase : (at' < m ∧ ∃ y, ws[at']? = some y ∧ Z.cv y ⟨xk, xi, xs⟩ ≠ 0) ∨ ¬ at' < m := by
          by_cases hlm : at' < m
          · obtain ⟨y, hy⟩ : ∃ y, ws[at']? = some y := ⟨ws[at']'(by rw [HM.out]; exact hlm), List.getElem?_eq_getElem _⟩
            refine .inl ⟨hlm, y, hy, fun h0 => ?_⟩
            have := (rise_has HRISE.out ⟨xk, xi, xs⟩).2 ⟨y, by rw [HAT.out]; exact hy, h0⟩
            rw [hh] at this
            cases this
          · exact .inr hlm
        have CMP : Hid (∀ (p : BBy w2) (y : Z.V), y ∈ ws → Calls Tryz.prog 43 #[.agg #[.int .i64 y.k, .int .i64 y.i, .string y.s], .agg #[.int .i64 xk, .int .i64 xi, .string xs]] p.v fun e w' => e = .returned (.int .i64 (Z.cv y ⟨xk, xi, xs⟩)) ∧ Below p.v.heap.size p.v w') := fun p y hy =>
          (ucompare_two y.k y.i y.s xk xi xs p.v (HWSZ.out _ hy) HXZ.out).mono fun _ _ h => CmpAns.below h
        have STEP : Hid (∀ (a' : Act) (K : Exit → Act → World → Prop), True) := fun _ _ => trivial
        clear hh STEP
        obtain ⟨qa, hqa, hr1, hr2⟩ := head_V HSL2.out hble
        obtain ⟨qb, hqb, hr3, hr4⟩ := rest_V HSL2.out hble
        have HQA := hide hqa
        have HQB := hide hqb
        have hmj : m ≤ 1048576 := by omega
        clear hqa hqb
        rcases hcase with ⟨hlm, y, hy, hc0⟩ | hlm
        · obtain ⟨bv, ov, k1, k2, k3, rfl, hx2, g1, g2, g3⟩ := HSL2.out.atP hlm
          rw [hx2] at hy
          injection hy with hy
          subst hy
          have CM2 : Hid (∀ p : BBy w2, Calls Tryz.prog 43 #[.agg #[.int .i64 k1, .int .i64 k2, .string k3], .agg #[.int .i64 xk, .int .i64 xi, .string xs]] p.v fun e w' => e = .returned (.int .i64 (Z.cv ⟨k1, k2, k3⟩ ⟨xk, xi, xs⟩)) ∧ Below p.v.heap.size p.v w') := fun p => CMP.out p ⟨k1, k2, k3⟩ (List.mem_of_getElem? hx2)
          obtain ⟨c, hc⟩ : ∃ c, Z.cv ⟨k1, k2, k3⟩ ⟨xk, xi, xs⟩ = c := ⟨_, rfl⟩
          rw [hc] at CM2 hc0
          have hcb : (c == 0) = false := by simpa using hc0
          clear hx2 hc hc0 CMP
          go_wp2_with fail
          refine region_below (by kernel_rfl) ?_
          repeat (quiet_step (first | (go_at_call 43; refine Calls.below_of (CM2.out _))))
          refine wpQuiet_nil ?_
          intro w3 hw'
          obtain ⟨⟨w3', hb3⟩, hw''⟩ := hw'
          obtain rfl : w3 = w3' := hw''
          have HB3 := hide (bthen HB2.out hb3)
          have HQA3 := hide (HQA.out.below hb3)
          have HQB3 := hide (HQB.out.below hb3)
          clear hb3 CM2 f1 f2 f3 g1 g2 g3 HQA HQB
          go_wp2_with (at_builtin; refine wpList_appV rfl _ _ rfl w3.heap.size _ [] rfl (own_bareV9 w3 (Nat.le_refl _)) qa at' oc (ws.take at') rfl (HQA3.out.below (below_one w3 _)) (by simp; omega) (by simp) ?_)
          intro v4 w4 ho4 has4 _
          have hb4 : Below w3.heap.size w3 w4 := (below_one w3 _).trans (has4.below (by simp) (fun k hk => by simp [Value.ownBlock] at hk; omega))
          have HB4 := hide hb4
          have HO4 := hide ho4
          have hlw : w.heap.size ≤ w3.heap.size := HB3.out.size
          have d1 : w4.cell? ⟨b, off + j * 3, none⟩ = some (.int .i64 xk) := by rw [(bthen HB3.out hb4).cell (p := ⟨b, off + j * 3, none⟩) hlt]; exact HC1.out
          have d2 : w4.cell? ⟨b, off + j * 3 + 1, none⟩ = some (.int .i64 xi) := by rw [(bthen HB3.out hb4).cell (p := ⟨b, off + j * 3 + 1, none⟩) hlt]; exact HC2.out
          have d3 : w4.cell? ⟨b, off + j * 3 + 2, none⟩ = some (.string xs) := by rw [(bthen HB3.out hb4).cell (p := ⟨b, off + j * 3 + 2, none⟩) hlt]; exact HC3.out
          have hsz4 := hb4.size
          have HA4 := hide (World.ownsRow.alloc ho4 (.cells #[.int .i64 xk, .int .i64 xi, .string xs] 45))
          have HTL : Hid ((ws.take at').length = at') := by show _ = _; rw [List.length_take, HM.out]; omega
          have HB5 := hide (bthen hb4 (below_one w4 (.cells #[.int .i64 xk, .int .i64 xi, .string xs] 45)))
          have hsz5 := HB5.out.size
          clear hb4 ho4 has4
          go_wp2_with (at_builtin; refine wpList_appV rfl _ _ rfl w3.heap.size v4 (ws.take at') rfl HA4.out (some ⟨w4.heap.size, 0, none⟩) 1 1 [⟨xk, xi, xs⟩] rfl (slV_one w4 xk xi xs) (by rw [HTL.out]; omega) hsz5 ?_)
          intro v6 w6 ho6 has6 _
          have hb6 : Below w3.heap.size w3 w6 := HB5.out.trans (has6.below hsz5 (fun k hk => (owns_lt HA4.out hk).1))
          have HB6 := hide hb6
          have HO6 := hide ho6
          have hsz6 := hb6.size
          have HQB6 := hide (HQB3.out.below hb6)
          clear hb6 ho6 has6 d1 d2 d3
          go_wp2_with (at_builtin; refine wpList_appV rfl _ _ rfl w3.heap.size v6 (ws.take at' ++ [⟨xk, xi, xs⟩]) rfl HO6.out qb (m - at') (oc - at') (ws.drop at') rfl HQB6.out (by rw [List.length_append, HTL.out]; simp; omega) hsz6 ?_)
          intro v7 w7 ho7 has7 _
          have hb7 : Below w3.heap.size w3 w7 := HB6.out.trans (has7.below hsz6 (fun k hk => (owns_lt HO6.out hk).1))
          have HB7 := hide (bthen HB3.out hb7)
          have ho8 : OwnV w7 w.heap.size v7 (Z.wds (l.take (j + 1))) := by
            have e : ws.take at' ++ (⟨xk, xi, xs⟩ : Z.V) :: ws.drop at' = Z.wds (l.take (j + 1)) := by rw [HNEXT.out, HINS.out]
            rw [← e]
            exact own_lowV9 ho7 hlw
          have HO8 := hide ho8
          clear ho7 has7 hb7 ho8
          go_wp2
          go_roundw
          case rel => exact ⟨j + 1, by omega, by go_num, HO8, HB7⟩
          case measure => simp [intOf]; omega
        · clear CMP f1 f2 f3
          go_wp2_with fail
          go_quiet (fail)
          obtain ⟨w3, hw3⟩ : ∃ w3, w2.drewN nq = w3 := ⟨_, rfl⟩
          have hb3 : Below w2.heap.size w2 w3 := by rw [← hw3]; exact below_drewN (Below.refl _ _) nq
          rw [hw3]
          clear hw3
          have HB3 := hide (bthen HB2.out hb3)
          have HQA3 := hide (HQA.out.below hb3)
          have HQB3 := hide (HQB.out.below hb3)
          clear hb3 HQA HQB
          go_wp2_with (at_builtin; refine wpList_appV rfl _ _ rfl w3.heap.size _ [] rfl (own_bareV9 w3 (Nat.le_refl _)) qa at' oc (ws.take at') rfl (HQA3.out.below (below_one w3 _)) (by simp; omega) (by simp) ?_)
          intro v4 w4 ho4 has4 _
          have hb4 : Below w3.heap.size w3 w4 := (below_one w3 _).trans (has4.below (by simp) (fun k hk => by simp [Value.ownBlock] at hk; omega))
          have HB4 := hide hb4
          have HO4 := hide ho4
          have hlw : w.heap.size ≤ w3.heap.size := HB3.out.size
          have d1 : w4.cell? ⟨b, off + j * 3, none⟩ = some (.int .i64 xk) := by rw [(bthen HB3.out hb4).cell (p := ⟨b, off + j * 3, none⟩) hlt]; exact HC1.out
          have d2 : w4.cell? ⟨b, off + j * 3 + 1, none⟩ = some (.int .i64 xi) := by rw [(bthen HB3.out hb4).cell (p := ⟨b, off + j * 3 + 1, none⟩) hlt]; exact HC2.out
          have d3 : w4.cell? ⟨b, off + j * 3 + 2, none⟩ = some (.string xs) := by rw [(bthen HB3.out hb4).cell (p := ⟨b, off + j * 3 + 2, none⟩) hlt]; exact HC3.out
          have hsz4 := hb4.size
          have HA4 := hide (World.ownsRow.alloc ho4 (.cells #[.int .i64 xk, .int .i64 xi, .string xs] 45))
          have HTL : Hid ((ws.take at').length = at') := by show _ = _; rw [List.length_take, HM.out]; omega
          have HB5 := hide (bthen hb4 (below_one w4 (.cells #[.int .i64 xk, .int .i64 xi, .string xs] 45)))
          have hsz5 := HB5.out.size
          clear hb4 ho4 has4
          go_wp2_with (at_builtin; refine wpList_appV rfl _ _ rfl w3.heap.size v4 (ws.take at') rfl HA4.out (some ⟨w4.heap.size, 0, none⟩) 1 1 [⟨xk, xi, xs⟩] rfl (slV_one w4 xk xi xs) (by rw [HTL.out]; omega) hsz5 ?_)
          intro v6 w6 ho6 has6 _
          have hb6 : Below w3.heap.size w3 w6 := HB5.out.trans (has6.below hsz5 (fun k hk => (owns_lt HA4.out hk).1))
          have HB6 := hide hb6
          have HO6 := hide ho6
          have hsz6 := hb6.size
          have HQB6 := hide (HQB3.out.below hb6)
          clear hb6 ho6 has6 d1 d2 d3
          go_wp2_with (at_builtin; refine wpList_appV rfl _ _ rfl w3.heap.size v6 (ws.take at' ++ [⟨xk, xi, xs⟩]) rfl HO6.out qb (m - at') (oc - at') (ws.drop at') rfl HQB6.out (by rw [List.length_append, HTL.out]; simp; omega) hsz6 ?_)
          intro v7 w7 ho7 has7 _
          have hb7 : Below w3.heap.size w3 w7 := HB6.out.trans (has7.below hsz6 (fun k hk => (owns_lt HO6.out hk).1))
          have HB7 := hide (bthen HB3.out hb7)
          have ho8 : OwnV w7 w.heap.size v7 (Z.wds (l.take (j + 1))) := by
            have e : ws.take at' ++ (⟨xk, xi, xs⟩ : Z.V) :: ws.drop at' = Z.wds (l.take (j + 1)) := by rw [HNEXT.out, HINS.out]
            rw [← e]
            exact own_lowV9 ho7 hlw
          have HO8 := hide ho8
          clear ho7 has7 hb7 ho8
          go_wp2
          go_roundw
          case rel => exact ⟨j + 1, by omega, by go_num, HO8, HB7⟩
          case measure => simp [intOf]; omega
    · obtain rfl : j = len := by omega
      have HR : Hid (OwnV wr w.heap.size u3 (Z.wds l)) := by
        have := hrow.out
        rwa [← HL.out, List.take_length] at this
      clear hrow
      go_wp2
      go_ret
      exact ⟨_, rfl, HR.out, hbw.out⟩
end Go.Proofs.YtmhfpipeoojacaaGreat
/- The document's Some, Of. -/
namespace Go.Proofs.YtmhfpipeoojacaaGreat
set_option linter.unusedVariables false
open Go.RowKit

/-- What Some answers. -/
def SomeAns (b : List Nat) (N : Nat) (kind : Int) (w : World) (e : Ending) (w' : World) : Prop :=
  Below w.heap.size w w' ∧ ((Z.pE kind N b = 0 ∧ ∃ v a c, e = .returned (.tuple #[v, .slice a (Z.pR kind N b).length c, .int .i64 0]) ∧ OwnV w' w.heap.size v (Z.pL kind N b) ∧ Sl w .u8 a (Z.pR kind N b).length c (ints (Z.pR kind N b))) ∨
    (Z.pE kind N b ≠ 0 ∧ e = .returned (.tuple #[.slice none 0 0, .slice none 0 0, .int .i64 ((Z.pE kind N b : Nat) : Int)])))

set_option maxHeartbeats 2000000 in
theorem some_any (ao : Option Addr) (len cap : Nat) (b : List Nat) (N : Nat) (kind : Int) (w : World) (h : Sl w .u8 ao len cap (ints b)) (h256 : ∀ x ∈ b, x < 256) (hm : len ≤ 140737488355328) (hN : N ≤ 4096) :
    Calls Tryz.prog 35 #[.slice ao len cap, .int .i64 (N : Int), .int .i64 kind] w (SomeAns b N kind w) := by
  have hl : b.length = len := by rw [← h.1, ints_length]
  have HH := hide h
  have H256 := hide h256
  have HL := hide hl
  clear h h256 hl
  go_enter Tryz.func35, Tryz.ntmps35
  go_wp2_with fail
  go_loopw [0, 9, 10] (fun s v i wr => ∃ j n : Nat, ∃ a c, j ≤ N ∧ i = .int .i64 j ∧ s = .slice a n c ∧ Hid (Sl w .u8 a n c (ints (Z.pR kind j b))) ∧ Hid (OwnV wr w.heap.size v (Z.pL kind j b)) ∧ Hid (Z.pE kind j b = 0) ∧ n ≤ 140737488355328 ∧ Hid (Below w.heap.size w wr)) (fun _ _ i _ => N - (intOf i).toNat)
  case atStart => exact ⟨0, len, ao, cap, Nat.zero_le _, rfl, rfl, HH, hide (World.ownsRow_nil _ _ _ _), hide rfl, hm, hide (Below.refl _ _)⟩
  case round =>
    obtain ⟨j, n, a, c, hj, rfl, rfl, hs, hrow, hok, hn, hbw⟩ := hrel
    by_cases hjl : j < N
    · have HCL := hide (uofAt_any a n c (Z.pR kind j b) kind wr w hs.out (hs.out.below hbw.out) (pR_lt j b H256.out) hn)
      have HNN := hide (pL_length kind j b)
      go_wp2_with fail
      refine HCL.out.mono ?_
      rintro e w1 ⟨ra, rc, rfl, hs1, hb1⟩
      obtain ⟨E, hE⟩ : ∃ E : Nat, Z.oE (Z.pR kind j b) kind = E := ⟨_, rfl⟩
      obtain ⟨⟨vk, vi, vs⟩, hv⟩ : ∃ x, Z.oV (Z.pR kind j b) kind = x := ⟨_, rfl⟩
      obtain ⟨m, hmm⟩ : ∃ m, (Z.oR (Z.pR kind j b) kind).length = m := ⟨_, rfl⟩
      rw [hE, hv, hmm, show (Z.V.v ⟨vk, vi, vs⟩) = .agg #[.int .i64 vk, .int .i64 vi, .string vs] from rfl]
      rw [hmm] at hs1
      have hb2 := bthen (bthen hbw.out hb1) (below_one w1 (.cells #[.int .i64 vk, .int .i64 vi, .string vs] 45))
      have HB2 := hide hb2
      by_cases hE0 : E = 0
      · subst hE0
        obtain ⟨v0, v1, v2⟩ := (At.new w1 vk vi vs).cells
        have hrow2 : OwnV (w1.alloc (.cells #[.int .i64 vk, .int .i64 vi, .string vs] 45)) w.heap.size u9 (Z.pL kind j b) := World.ownsRow.alloc (OwnV.below hrow.out hb1) _
        have hml : m ≤ 140737488355328 := by
          have h2 := pR_len kind (j + 1) b
          rw [pR_succ, hmm, HL.out] at h2
          omega
        have HR2 := hide hrow2
        have HE := hide hE
        have HV := hide hv
        have hsz2 := hb2.size
        have hone : SlV ((w1.alloc (.cells #[.int .i64 vk, .int .i64 vi, .string vs] 45)).alloc (.cells #[.int .i64 vk, .int .i64 vi, .string vs] 45)) (some ⟨w1.heap.size + 1, 0, none⟩) 1 1 [⟨vk, vi, vs⟩] := by
          have := slV_one (w1.alloc (.cells #[.int .i64 vk, .int .i64 vi, .string vs] 45)) vk vi vs
          simpa only [World.size_alloc] using this
        have hrow3 : OwnV ((w1.alloc (.cells #[.int .i64 vk, .int .i64 vi, .string vs] 45)).alloc (.cells #[.int .i64 vk, .int .i64 vi, .string vs] 45)) w.heap.size u9 (Z.pL kind j b) := World.ownsRow.alloc hrow2 _
        have hb3 := bthen hb2 (below_one (w1.alloc (.cells #[.int .i64 vk, .int .i64 vi, .string vs] 45)) (.cells #[.int .i64 vk, .int .i64 vi, .string vs] 45))
        have H1 := hide hone
        have H2 := hide hrow3
        have H3 := hide hs1
        have H4 := hide hb3
        have hsz3 := hb3.size
        clear hone hrow3 hb3 hrow2 hE hv hmm hb2 hb1 hs1 HCL
        go_wp2_with (at_builtin; refine wpList_appV rfl _ _ rfl w.heap.size u9 (Z.pL kind j b) rfl H2.out (some ⟨w1.heap.size + 1, 0, none⟩) 1 1 [⟨vk, vi, vs⟩] rfl H1.out (by rw [HNN.out]; omega) hsz3 ?_)
        intro v5 w4 ho4 has _
        have hb4 : Below w.heap.size w w4 := H4.out.trans (has.below hsz3 (fun k hk => (owns_lt H2.out hk).1))
        have hs4 : Sl w .u8 ra m rc (ints (Z.pR kind (j + 1) b)) := by
          rw [pR_succ]
          exact H3.out
        have ho5 : OwnV w4 w.heap.size v5 (Z.pL kind (j + 1) b) := by
          rw [pL_succ, HV.out]
          exact ho4
        have HO5 := hide ho5
        have HS4 := hide hs4
        have HB4 := hide hb4
        have HOK : Hid (Z.pE kind (j + 1) b = 0) := by show _ = _; rw [pE_succ kind j b hok.out]; exact HE.out
        clear ho4 has hb4 hs4 ho5
        go_wp2
        go_roundw
        case rel => exact ⟨j + 1, m, ra, rc, hjl, by go_num, rfl, HS4, HO5, HOK, hml, HB4⟩
        case measure => simp [intOf]; omega
      · have hEi : ((E : Nat) : Int) ≠ 0 := by omega
        obtain ⟨e, he⟩ : ∃ e : Int, ((E : Nat) : Int) = e := ⟨_, rfl⟩
        rw [he] at hEi ⊢
        have HP : Hid (Z.pE kind N b = E) := by
          show _ = _
          rw [pE_stop hok.out hjl (by rw [hE]; exact hE0), hE]
        have HEI := hide hE0
        have HEE := hide he
        clear hE hv hmm hb2 hb1 hs1 hE0 he HCL
        go_wp2
        go_ret3
        exact ⟨HB2.out, .inr ⟨by rw [HP.out]; exact HEI.out, by rw [HP.out, HEE.out]; rfl⟩⟩
    · obtain rfl : j = N := by omega
      have HN2 : Hid ((Z.pR kind j b).length = n) := by show _ = _; rw [← hs.out.1, ints_length]
      go_wp2
      go_ret3
      exact ⟨hbw.out, .inl ⟨hok.out, u9, a, c, by rw [HN2.out]; rfl, hrow.out, by rw [HN2.out]; exact hs.out⟩⟩
end Go.Proofs.YtmhfpipeoojacaaGreat

/- The walk of the statement: with a value more, or less, or one that is nothing among them, nothing is joined. -/
import Derived.Test.YtbgofbajihdjdaaTF
import Derived.Test.YtbgofbajihdjdaaT9
namespace Go.Proofs.Ytbgofbajihdjdaa
set_option linter.unusedVariables false
open Go.RowKit

/-- What the region holds in which a value more is joined. -/
def moreTbl (a : Option Addr) (len cap : Nat) (p : Option Addr) (n cp : Nat) (B W : Nat) (L : List Z.V) (k i : Int) (s : ByteArray) : List (Nat × V.Ent) :=
  [(0, V.Ent.is (.slice a len cap)), (6, V.Ent.is (.slice p n cp)), (3, V.Ent.is (.pointer (some ⟨B, 0, none⟩))), (48, V.Ent.is (.slice a len cap)), (49, V.Ent.bareV W), (50, V.Ent.is (.slice p n cp)), (51, V.Ent.ownV W L), (52, V.Ent.is (.agg #[.int .i64 k, .int .i64 i, .string s])), (53, V.Ent.slV 1 [⟨k, i, s⟩]), (54, V.Ent.ownV W (L ++ [⟨k, i, s⟩])), (55, V.Ent.tupE 4), (47, V.Ent.tupE 4), (56, V.Ent.any), (57, V.Ent.is (.int .i64 4)), (10, V.Ent.any), (11, V.Ent.is (.int .i64 4))]

set_option maxHeartbeats 8000000 in
theorem nullMore_walk (w : World) (a : Option Addr) (len cap : Nat) (bs : List Bool) (hs : Sb w a len cap bs) (hr : cap * 1 ≤ 140737488351232) (k i : Int) (s : ByteArray) (ik : Z.I64 k) (ij : Z.I64 i) (sz : s.size ≤ maxLen) :
    Calls Try.prog 6 #[.slice a len cap, .agg #[.int .i64 k, .int .i64 i, .string s]] w fun e w' => e = .returned (.bool true) ∧ Below w.heap.size w w' := by
  have hlen : len ≤ 140737488351232 := by have := hs.2.1; omega
  have HS := hide hs
  have HBL := hide hs.1
  have HCB := hide hs.cellsB
  clear hs hr ik ij sz
  have hA := At.new w k i s
  have bA := below_one w (.cells #[.int .i64 k, .int .i64 i, .string s] 44)
  go_enter Try.func6, Try.ntmps6
  go_wp2_with fail
  refine (nshown_any _).mono ?_
  rintro e w1 ⟨rfl, hb⟩
  have b0 := hide (bthen bA hb)
  replace hA := hA.below hb
  clear hb bA
  obtain ⟨x1, x2, x3⟩ := hA.cells
  have HA := hide hA
  clear hA
  obtain ⟨q, hq⟩ : ∃ q, (k == 0) = q := ⟨_, rfl⟩
  have HQ := hide hq
  cases q with
  | true =>
    go_wp2
    go_ret
    exact ⟨rfl, b0.out⟩
  | false =>
    by_cases hbig : 2000 < len
    · go_wp2
      go_ret
      exact ⟨rfl, b0.out⟩
    · go_wp2_with fail
      go_loopw [6, 7] (fun v6 v7 wr => ∃ j n : Nat, j ≤ len ∧ v7 = .int .i64 j ∧ n ≤ j ∧ Hid ((bs.take j).count false = n) ∧ Hid (OwnV wr w1.heap.size v6 (List.replicate n ⟨k, i, s⟩)) ∧ Hid (Below w1.heap.size w1 wr)) (fun _ v7 _ => len - (intOf v7).toNat)
      case atStart => exact ⟨0, 0, Nat.zero_le _, rfl, Nat.le_refl _, hide rfl, hide (World.ownsRow_nil _ _ _ _), hide (Below.refl _ _)⟩
      case round =>
        obtain ⟨j, n, hj, rfl, hnj, hcn, ho6, hwr⟩ := hrel
        have hsz := hwr.out.size
        obtain ⟨y1, y2, y3⟩ := (HA.out.below hwr.out).cells
        by_cases hjl : j < len
        · obtain ⟨g, off, rfl, hlt, g1⟩ := HCB.out j (by rw [HBL.out]; exact hjl)
          have f1 : wr.cell? ⟨g, off + j, none⟩ = some (.bool (bs.getD j false)) := by rw [(bthen b0.out hwr.out).cell (p := ⟨g, off + j, none⟩) hlt]; exact g1
          have HJB : Hid (j < bs.length) := by show _ < _; rw [HBL.out]; exact hjl
          obtain ⟨t, ht⟩ : ∃ t, bs.getD j false = t := ⟨_, rfl⟩
          rw [ht] at f1
          have HT := hide ht
          clear g1 ht x1 x2 x3
          cases t with
          | true =>
            go_wp2
            go_roundw
            case rel => exact ⟨j + 1, n, hjl, by go_num, by omega, hide (by rw [count_yes bs j HJB.out HT.out]; exact hcn.out), ho6, hwr⟩
            case measure => simp [intOf]; omega
          | false =>
            go_wp2_with (at_builtin; refine wpList_appV rfl (.tmp 37) (.tmp 39) rfl w1.heap.size _ (List.replicate n ⟨k, i, s⟩) rfl (OwnV.below ho6.out (below_one wr _)) (some ⟨wr.heap.size, 0, none⟩) 1 1 [⟨k, i, s⟩] rfl (slV_one wr k i s) (by rw [List.length_replicate]; omega) (by simp; omega) ?_)
            intro v6 w2 ho2 has _
            have hb2 : Below w1.heap.size w1 w2 := (hwr.out.alloc hsz _).trans (has.below (by simp; omega) (fun k hk => (owns_lt ho6.out hk).1))
            have HB2 := hide hb2
            have HO2 : Hid (OwnV w2 w1.heap.size v6 (List.replicate (n + 1) ⟨k, i, s⟩)) := by
              show OwnV _ _ _ _
              rw [List.replicate_succ']
              exact ho2
            clear hb2 ho2 has y1 y2 y3
            go_wp2
            go_roundw
            case rel => exact ⟨j + 1, n + 1, hjl, by go_num, by omega, hide (by rw [count_no bs j HJB.out HT.out, hcn.out]), HO2, HB2⟩
            case measure => simp [intOf]; omega
        · obtain rfl : j = len := by omega
          clear x1 x2 x3 y1 y2 y3
          have hnc : n + cntT bs = j := by
            have h1 := count_tf bs
            have h2 := hcn.out
            rw [← HBL.out, List.take_length] at h2
            rw [h2, HBL.out] at h1
            exact h1
          obtain ⟨L, hL⟩ : ∃ L, List.replicate n (⟨k, i, s⟩ : Z.V) = L := ⟨_, rfl⟩
          have hLl : L.length = n := by rw [← hL, List.length_replicate]
          have hLa : anyN L = false := by rw [← hL]; exact anyN_rep n ⟨k, i, s⟩ HQ.out
          rw [hL] at ho6
          have HE1 : Hid (joinE bs L = 0) := join_yes bs L (by rw [hLl, HBL.out]; exact hnc) hLa
          have HE2 : Hid (joinE bs (L ++ [⟨k, i, s⟩]) = 4) := join_len bs _ (by rw [List.length_append, hLl, HBL.out]; simp; omega)
          have HE3 : Hid (0 < n → joinE bs (L.drop 1) = 4) := fun h0 => join_len bs _ (by rw [List.length_drop, hLl, HBL.out]; omega)
          have HE4 : Hid (0 < n → joinE bs (L.set 0 Z.z0) = 4) := fun h0 => join_any bs _ (anyN_set L (by rw [hLl]; exact h0))
          have HLL := hide hLl
          obtain ⟨p, cp, rfl, sl, _⟩ := SlV.of_own ho6.out
          have HO6 := ho6
          rw [hLl] at sl HO6 ⊢
          have HSL := hide sl
          have b1 := hide (bthen b0.out hwr.out)
          have HAW := hide (HA.out.below hwr.out)
          have HSZ := hide hsz
          clear hL hLl hLa sl ho6 hcn hwr hsz
          go_wp2_with fail
          refine (zjoin_any a j cap bs p n cp L _ (HS.out.below b1.out) HSL.out (by omega) (by omega)).mono ?_
          rintro e w2 ⟨v8, rfl, ho8, hb⟩
          rw [HE1.out]
          replace b1 := hide (bthen b1.out hb)
          replace HAW := hide (HAW.out.below hb)
          replace HSL := hide (HSL.out.below hb)
          replace HO6 := hide (OwnV.below HO6.out hb)
          replace HSZ := hide (Nat.le_trans HSZ.out hb.size)
          clear ho8 hb
          go_wp2_with fail
          refine V.wp_region_dead (w0 := w2) [48, 49, 50, 51, 52, 53, 54, 55, 47, 56, 57, 10, 11] [0, 6, 3] [(6, [49, 51, 53])] (moreTbl a j cap p n cp w.heap.size w2.heap.size L k i s) (fun _ _ => True) 6 rfl (by kernel_rfl) (by kernel_rfl) (by kernel_rfl) (Below.refl _ _) ?hb ?hs ?hX ?hd
          case hb =>
            intro d hd
            simp only [List.mem_cons, List.not_mem_nil, or_false] at hd
            rcases hd with rfl | rfl | rfl <;> rfl
          case hs =>
            refine ⟨.inl ⟨rfl, by decide, ?_⟩, .inl ⟨rfl, by decide, ?_⟩, .inl ⟨rfl, by decide, ?_⟩, .inl ⟨rfl, by decide, ?_⟩, .inl ⟨rfl, by decide, ?_⟩, .inl ⟨rfl, by decide, ?_⟩, .inr ⟨.inl rfl, ?_⟩, .inl ⟨rfl, by decide, ?_⟩, .inl ⟨rfl, by decide, ?_⟩, .inl ⟨rfl, by decide, ?_⟩, .inl ⟨rfl, by decide, ?_⟩, .inl ⟨rfl, by decide, ?_⟩, .inl ⟨rfl, by decide, ?_⟩, trivial⟩
            · exact V.Step.move (.inl rfl) (.inl rfl) (.inl ⟨_, rfl⟩) (fun _ h => by cases h; rfl)
            · exact V.Step.bareV (.inl rfl) rfl (fun _ h => by cases h; rfl)
            · exact V.Step.move (.inl rfl) (.inl rfl) (.inl ⟨_, rfl⟩) (fun _ h => by cases h; rfl)
            · exact V.Step.appV rfl rfl rfl rfl HSL.out (by omega) (fun _ h => by cases h; rfl)
            · obtain ⟨c1, c2, c3⟩ := HAW.out.cells
              exact V.Step.ldV (.inl rfl) rfl rfl (lt_of_block HAW.out) c1 c2 c3 (fun _ h => by cases h; rfl)
            · exact V.Step.oneV (.inl rfl) rfl rfl (fun _ h => by cases h; rfl)
            · refine V.Touch.appV (l := L) (news := [⟨k, i, s⟩]) rfl rfl rfl rfl (by rw [HLL.out]; omega) (fun _ h => by cases h; rfl) (fun d hd => ?_)
              replace hd : d ∈ [0, 6, 3] ∨ d ∈ [48, 50, 52] := by
                rcases hd with hd | hd
                · exact .inl hd
                · exact .inr (V.mem_alive [48, 50, 52] hd (by kernel_rfl))
              simp only [List.mem_cons, List.not_mem_nil, or_false] at hd
              rcases hd with (rfl | rfl | rfl) | (rfl | rfl | rfl)
              all_goals exact ⟨_, rfl⟩
            · refine V.Step.callR2 (.inl rfl) rfl Try.func12 (by decide +kernel) rfl (fun wc v v2 hwc hv hv2 => ?_)
              obtain rfl : v = .slice a j cap := hv
              obtain ⟨qa, qc, rfl, hqs, _⟩ := SlV.of_own hv2
              refine (zjoin_any a j cap bs qa _ qc (L ++ [⟨k, i, s⟩]) wc ((HS.out.below b1.out).below hwc) hqs (by omega) (by rw [List.length_append, HLL.out]; simp; omega)).mono ?_
              rintro e w9 ⟨v9, rfl, ho9, hb9⟩
              rw [HE2.out]
              exact ⟨_, rfl, hb9, fun d h => by cases h; exact ⟨_, rfl⟩⟩
            · exact V.Step.move (.inl rfl) (.inl rfl) (.inl ⟨_, rfl⟩) (fun _ h => by cases h; rfl)
            · exact V.Step.extA (.inl rfl) rfl rfl (fun _ h => by cases h; rfl)
            · exact V.Step.extE (.inl rfl) rfl rfl (fun _ h => by cases h; rfl)
            · exact V.Step.move (.inl rfl) (.inr rfl) (.inl ⟨_, rfl⟩) (fun _ h => by cases h; rfl)
            · exact V.Step.move (.inl rfl) (.inr rfl) (.inl ⟨_, rfl⟩) (fun _ h => by cases h; rfl)
          case hX => intros; trivial
          case hd =>
          intro vs w3 hw3 hk _
          have v11 : vs 11 = .int .i64 4 := hk 12 _ 11 rfl rfl (by decide)
          simp only [V.puts, List.foldl_cons, List.foldl_nil, v11, Act.put, List.setIfInBounds_toArray, List.set_cons_zero, List.set_cons_succ]
          clear hk v11
          generalize vs 48 = u48
          generalize vs 49 = u49
          generalize vs 50 = u50
          generalize vs 51 = u51
          generalize vs 52 = u52
          generalize vs 53 = u53
          generalize vs 54 = u54
          generalize vs 55 = u55
          generalize vs 47 = u47
          generalize vs 56 = u56
          generalize vs 57 = u57
          generalize vs 10 = u10
          replace b1 := hide (bthen b1.out hw3)
          replace HSL := hide (HSL.out.below hw3)
          replace HO6 := hide (OwnV.below HO6.out hw3)
          replace HSZ := hide (Nat.le_trans HSZ.out hw3.size)
          clear hw3 HAW
          by_cases h0 : n = 0
          · subst h0
            go_wp2
            go_ret
            exact ⟨rfl, b1.out⟩
          · have h0p : 0 < n := by omega
            have hn0 : ((n : Int) == 0) = false := by simp; omega
            obtain ⟨qa, hv, hr, hr2⟩ := rest_V (K := 1) HSL.out h0p
            have hr' : ∀ w : World, (Instr.slice 22 (.slice p n cp) (some (.int .i64 1)) none none).run Try.prog w = .ok (.slice qa (n - 1) (cp - 1)) w := hr
            have hr2' : ∀ w : World, (Instr.sliceAt 22 (.slice p n cp) (some (.int .i64 1)) none none).run Try.prog w = .ok (.slice qa (n - 1) (cp - 1)) w := hr2
            have HV := hide hv
            clear hr hr2 hv
            go_wp2_with fail
            refine (zjoin_any a j cap bs qa (n - 1) (cp - 1) (L.drop 1) _ (HS.out.below b1.out) HV.out (by omega) (by omega)).mono ?_
            rintro e w4 ⟨v9, rfl, ho9, hb⟩
            rw [HE3.out h0p]
            replace b1 := hide (bthen b1.out hb)
            have hown : OwnV w4 w1.heap.size (.slice p n cp) L := OwnV.below HO6.out hb
            have hsz4 : w1.heap.size ≤ w4.heap.size := Nat.le_trans HSZ.out hb.size
            unfold OwnV at hown
            rw [HLL.out] at hown
            obtain ⟨g, cg, hvv, hg1, hg2, hg3⟩ := owns_pos hown h0p
            injection hvv with hv1 hv2 hv3
            subst hv1; subst hv3
            obtain ⟨z, hz⟩ : ∃ z, L[0]? = some z := ⟨L[0]'(by rw [HLL.out]; exact h0p), List.getElem?_eq_getElem _⟩
            obtain ⟨z0, z1, z2⟩ := cellsV_get L 0 z hz
            have c0 : w4.cell? ⟨g, 0, none⟩ = some (.int .i64 z.k) := (hown.cellAt 0 (by omega)).trans z0
            have c1 : w4.cell? ⟨g, 0 + 1, none⟩ = some (.int .i64 z.i) := (hown.cellAt 1 (by omega)).trans z1
            have c2 : w4.cell? ⟨g, 0 + 2, none⟩ = some (.string z.s) := (hown.cellAt 2 (by omega)).trans z2
            have f0 := hown.frozenAt 0
            have f1 := hown.frozenAt 1
            have f2 := hown.frozenAt 2
            have HOW := hide hown
            clear hown hb ho9 z0 z1 z2 hz HO6 HSL HV hr' hr2' hv2
            go_wp2_with fail
            have hst := ((((HOW.out.stored 0 (.int .i64 0)).1.stored 1 (.int .i64 0)).1).stored 2 (.string ⟨#[]⟩)).1
            have hst2 : OwnV (((w4.setCell ⟨g, 0, none⟩ (.int .i64 0)).setCell ⟨g, 1, none⟩ (.int .i64 0)).setCell ⟨g, 2, none⟩ (.string ⟨#[]⟩)) w1.heap.size (.slice (some ⟨g, 0, none⟩) n cp) (L.set 0 Z.z0) := by
              unfold OwnV
              rw [cellsV_set L 0 Z.z0 (by rw [HLL.out]; exact h0p), List.length_set, HLL.out]
              exact hst
            have hb5 : Below w1.heap.size w4 (((w4.setCell ⟨g, 0, none⟩ (.int .i64 0)).setCell ⟨g, 1, none⟩ (.int .i64 0)).setCell ⟨g, 2, none⟩ (.string ⟨#[]⟩)) :=
              (((Below.refl w1.heap.size w4).setCell (p := ⟨g, 0, none⟩) hg1 _).setCell (p := ⟨g, 1, none⟩) hg1 _).setCell (p := ⟨g, 2, none⟩) hg1 _
            obtain ⟨w5, hw5⟩ : ∃ w5, ((w4.setCell ⟨g, 0, none⟩ (.int .i64 0)).setCell ⟨g, 1, none⟩ (.int .i64 0)).setCell ⟨g, 2, none⟩ (.string ⟨#[]⟩) = w5 := ⟨_, rfl⟩
            rw [hw5] at hst2 hb5 ⊢
            have hw15 := b0.out.size
            have b2 := hide (b1.out.trans (hb5.mono hw15))
            obtain ⟨ao, co, hvv, hsl5, _⟩ := SlV.of_own hst2
            have hl5 : (L.set 0 Z.z0).length = n := by rw [List.length_set, HLL.out]
            rw [hl5] at hvv hsl5
            injection hvv with hv1 hv2 hv3
            subst hv1; subst hv3
            have HS5 := hide hsl5
            clear hst hst2 hb5 hw5 hsl5 hl5 hv2 c0 c1 c2 f0 f1 f2 HOW
            refine (zjoin_any a j cap bs (some ⟨g, 0, none⟩) n cp (L.set 0 Z.z0) _ (HS.out.below b2.out) HS5.out (by omega) (by omega)).mono ?_
            rintro e w6 ⟨v10, rfl, ho10, hb⟩
            rw [HE4.out h0p]
            have b3 := hide (bthen b2.out hb)
            clear ho10 hb
            go_wp2
            go_ret
            exact ⟨rfl, b3.out⟩
end Go.Proofs.Ytbgofbajihdjdaa

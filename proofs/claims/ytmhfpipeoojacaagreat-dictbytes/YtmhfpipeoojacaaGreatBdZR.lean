/- The document's Of: a column's values, of bytes. Conditions: fewer than 2^47 bytes. -/
import Derived.Test.YtmhfpipeoojacaaGreatBdZQ
import Derived.Test.YtmhfpipeoojacaaGreatBdZO
import Derived.Test.YtmhfpipeoojacaaGreatBdR
import Derived.Test.YtmhfpipeoojacaaGreatBdH
import Derived.Lib.AppendZeros
import Derived.Test.YtmhfpipeoojacaaGreatBdZK
import Derived.Test.YtmhfpipeoojacaaGreatBdZI
import Derived.Test.YtmhfpipeoojacaaGreatBdZN
import Derived.Test.YtmhfpipeoojacaaGreatBdJ
namespace Go.Proofs.YtmhfpipeoojacaaGreat
set_option linter.unusedVariables false
set_option maxRecDepth 10000
open Go.RowKit
theorem rtocodes_any (ao : Option Addr) (len cap : Nat) (b : List Nat) (n kind : Int) (w : World) (h : Sl w .u8 ao len cap (ints b)) (h256 : ∀ x ∈ b, x < 256) (hm : len ≤ 140737488355328) :
    Calls Tryz.prog 11 #[.slice ao len cap, .int .i64 n, .int .i64 kind] w (ToCodesAns b n kind w) := by
  cases hk : Z.kindOk kind with
  | false =>
    have HP : Hid (Z.dE b n kind = 1) := dE_kind hk
    have HK := hide hk
    have HB0 : Hid (Below w.heap.size w w) := Below.refl _ _
    clear hk h h256
    go_enter Tryz.func11, Tryz.ntmps11
    go_wp2_with fail
    refine (kinds_any _ _).mono ?_
    rintro e w1 ⟨rfl, hww⟩
    obtain rfl : w = w1 := hww.symm
    rw [HK.out]
    go_wp2
    go_ret3
    exact ToCodesAns.no HP.out (by decide) HB0.out
  | true =>
    by_cases hn : n < 0 ∨ 4096 < n
    · have HP : Hid (Z.dE b n kind = 2) := dE_many hk hn
      have HK := hide hk
      have HB0 : Hid (Below w.heap.size w w) := Below.refl _ _
      clear hk h h256
      rcases hn with hn | hn
      · go_enter Tryz.func11, Tryz.ntmps11
        go_wp2_with fail
        refine (kinds_any _ _).mono ?_
        rintro e w1 ⟨rfl, hww⟩
        obtain rfl : w = w1 := hww.symm
        rw [HK.out]
        go_wp2
        go_ret3
        exact ToCodesAns.no HP.out (by decide) HB0.out
      · have hn0 : ¬ n < 0 := by omega
        go_enter Tryz.func11, Tryz.ntmps11
        go_wp2_with fail
        refine (kinds_any _ _).mono ?_
        rintro e w1 ⟨rfl, hww⟩
        obtain rfl : w = w1 := hww.symm
        rw [HK.out]
        go_wp2
        go_ret3
        exact ToCodesAns.no HP.out (by decide) HB0.out
    · obtain ⟨N, rfl⟩ := Int.eq_ofNat_of_zero_le (show 0 ≤ n by omega)
      exact rtocodes_some ao len cap b N kind w h h256 hm (by omega) hk
theorem dV_snoc {ws : List Z.V} {cs : List Nat} {j x : Nat} {y : Z.V} (hx : cs[j]? = some x) (hy : ws[x]? = some y) : Z.dV ws (cs.take (j + 1)) = Z.dV ws (cs.take j) ++ [y] := by
  unfold Z.dV
  rw [List.take_add_one, hx, List.map_append]
  simp [hy]
set_option maxHeartbeats 2000000 in
theorem rdof_any (ao : Option Addr) (len cap : Nat) (b : List Nat) (n kind : Int) (w : World) (h : Sl w .u8 ao len cap (ints b)) (h256 : ∀ x ∈ b, x < 256) (hm : len ≤ 140737488355328) :
    Calls Tryz.prog 9 #[.slice ao len cap, .int .i64 n, .int .i64 kind] w (DictOfAns b n kind w) := by
  have HTC := hide (rtocodes_any ao len cap b n kind w h h256 hm)
  clear h h256
  go_enter Tryz.func9, Tryz.ntmps9
  go_wp2_with fail
  refine HTC.out.mono ?_
  rintro e w1 ⟨a1, c1, a2, c2, rfl, hs1, hs2, hb1⟩
  have HB1 := hide hb1
  clear hb1 HTC
  obtain ⟨X, hX⟩ : ∃ X, Z.dE b n kind = X := ⟨_, rfl⟩
  rw [hX]
  have HX := hide hX
  by_cases hX0 : X = 0
  · subst hX0
    obtain ⟨g0, g1, g2, g3, g4⟩ := dE_ok hX
    obtain ⟨N, rfl⟩ := Int.eq_ofNat_of_zero_le g0
    have hN : N ≤ 4096 := by omega
    obtain ⟨ws, hws⟩ : ∃ ws, Z.dWs b (N : Int) kind = ws := ⟨_, rfl⟩
    obtain ⟨cs, hcs⟩ : ∃ cs, Z.dCs b (N : Int) kind = cs := ⟨_, rfl⟩
    have hdv : Z.dVs b (N : Int) kind = Z.dV ws cs := by unfold Z.dVs; rw [hws, hcs]
    rw [hws] at hs1 g2 g4 ⊢
    rw [hcs] at hs2 g3 g4 ⊢
    have hcn : cs.length = N := by omega
    rw [hcn] at hs2 ⊢
    obtain ⟨M, hM⟩ : ∃ M, ws.length = M := ⟨_, rfl⟩
    rw [hM] at hs1 g2 g4 ⊢
    have HS1 := hide hs1
    have HS2 := hide hs2
    have HG := hide g4
    have HCN := hide hcn
    have HDV := hide hdv
    clear hs1 hs2 g0 g1 g3 g4 hws hcs hcn hdv hX hM
    go_wp2_with fail
    go_loopw [11, 12] (fun v i wr => ∃ j : Nat, j ≤ N ∧ i = .int .i64 j ∧ Hid (OwnV wr w1.heap.size v (Z.dV ws (cs.take j))) ∧ Hid (Below w1.heap.size w1 wr)) (fun _ i _ => N - (intOf i).toNat)
    case atStart => exact ⟨0, Nat.zero_le _, rfl, hide (World.ownsRow_nil _ _ _ _), hide (Below.refl _ _)⟩
    case round =>
      obtain ⟨j, hj, rfl, hrow, hbw⟩ := hrel
      by_cases hjl : j < N
      · obtain ⟨bc, oc, rfl, hltc, d0⟩ := HS2.out.at hjl
        obtain ⟨x, hx⟩ : ∃ x, cs[j]? = some x := ⟨cs[j]'(by rw [HCN.out]; exact hjl), List.getElem?_eq_getElem _⟩
        have hxg : (ints cs).getD j 0 = (x : Int) := by rw [ints_getD, List.getD_eq_getElem?_getD, hx]; rfl
        rw [hxg] at d0
        have d1 : wr.cell? ⟨bc, oc + j, none⟩ = some (.int .u64 (x : Int)) := by rw [hbw.out.cell (p := ⟨bc, oc + j, none⟩) hltc]; exact d0
        have hxM : x < M := HG.out x (List.mem_of_getElem? hx)
        obtain ⟨bv, ov, vk, vi, vs, rfl, hltv, hy, k1, k2, k3⟩ := HS1.out.at hxM
        have e1 : wr.cell? ⟨bv, ov + x * 3, none⟩ = some (.int .i64 vk) := by rw [hbw.out.cell (p := ⟨bv, ov + x * 3, none⟩) hltv]; exact k1
        have e2 : wr.cell? ⟨bv, ov + x * 3 + 1, none⟩ = some (.int .i64 vi) := by rw [hbw.out.cell (p := ⟨bv, ov + x * 3 + 1, none⟩) hltv]; exact k2
        have e3 : wr.cell? ⟨bv, ov + x * 3 + 2, none⟩ = some (.string vs) := by rw [hbw.out.cell (p := ⟨bv, ov + x * 3 + 2, none⟩) hltv]; exact k3
        have hsn := dV_snoc (ws := ws) hx hy
        have hvl : (Z.dV ws (cs.take j)).length = j := by rw [dV_length, List.length_take, HCN.out]; omega
        have HSN := hide hsn
        have HVL := hide hvl
        have HR2 := hide (World.ownsRow.alloc hrow.out (.cells #[.int .i64 vk, .int .i64 vi, .string vs] 45))
        have HB2 := hide (bthen hbw.out (below_one wr (.cells #[.int .i64 vk, .int .i64 vi, .string vs] 45)))
        have hsz2 := HB2.out.size
        clear d0 k1 k2 k3 hx hy hxg hsn hvl
        go_wp2_with (at_builtin; refine wpList_appV rfl _ _ rfl w1.heap.size _ (Z.dV ws (cs.take j)) rfl HR2.out (some ⟨wr.heap.size, 0, none⟩) 1 1 [⟨vk, vi, vs⟩] rfl (slV_one wr vk vi vs) (by rw [HVL.out]; omega) hsz2 ?_)
        intro v4 w4 ho4 has _
        have hb4 : Below w1.heap.size w1 w4 := HB2.out.trans (has.below hsz2 (fun g hg => (owns_lt HR2.out hg).1))
        rw [← HSN.out] at ho4
        have HO4 := hide ho4
        have HB4 := hide hb4
        clear ho4 hb4 has e1 e2 e3 d1
        go_wp2
        go_roundw
        case rel => exact ⟨j + 1, by omega, by go_num, HO4, HB4⟩
        case measure => simp [intOf]; omega
      · obtain rfl : j = N := by omega
        have hrow1 := hrow.out
        rw [← HCN.out, List.take_length, ← HDV.out] at hrow1
        have hlen : (Z.dVs b (j : Int) kind).length = j := by rw [HDV.out, dV_length]; exact HCN.out
        obtain ⟨ra, rc, hv, hsl, _⟩ := SlV.of_own hrow1
        have FIN : Hid (DictOfAns b (j : Int) kind w (.returned (.tuple #[u11, .int .i64 0])) wr) := ⟨ra, rc, by rw [hv, HX.out], hsl, bthen HB1.out hbw.out⟩
        clear hrow1 hlen hsl hrow hv
        go_wp2
        go_ret2
        exact FIN.out
  · have hyb : (X != 0) = true := by simpa using hX0
    have HX0 := hide hX0
    clear hX hX0 hs1 hs2
    go_wp2
    go_ret2
    exact DictOfAns.no HX.out HX0.out HB1.out
end Go.Proofs.YtmhfpipeoojacaaGreat
/- slices.Concat of three rows of bytes. Conditions: at most 2^46 bytes together. -/
namespace Go.Proofs.YtmhfpipeoojacaaGreat
set_option linter.unusedVariables false
set_option maxRecDepth 10000
open Go.RowKit
theorem grow_none (w : World) : Calls Tryz.prog 57 #[.slice none 0 0, .int .i64 0] w fun e w' => e = .returned (.slice none 0 0) ∧ w' = w := by
  go_enter Tryz.func57, Tryz.ntmps57
  go_wp2
  go_ret
  exact ⟨rfl, rfl⟩
theorem cut_made (g : Nat) (n C : Nat) (w : World) : (Instr.slice 23 (.slice (some ⟨g, 0, none⟩) n C) none (some (.int .i64 0)) none).run Tryz.prog w = .ok (.slice (some ⟨g, 0, none⟩) 0 C) w := by
  have hr := run_slice_h (P := Tryz.prog) w 23 (some ⟨g, 0, none⟩) n C Tryz.underlying23 .i64 (0 : Int) (by omega) (by omega)
  have e1 : Tryz.prog.elem 23 = 5 := by kernel_rfl
  have e2 : (sizeOf 5).run Tryz.prog w = .ok 1 w := by kernel_rfl
  rw [e1, e2] at hr
  simp only [Result.andThen_ok, sliced, Nat.sub_zero] at hr
  rw [show (0 : Int) = ((0 : Nat) : Int) from rfl] at *
  simpa [Addr.add] using hr
theorem grow_some (n : Nat) (w : World) (h0 : 0 < n) (hn : n ≤ 70368744177664) : Calls Tryz.prog 57 #[.slice none 0 0, .int .i64 (n : Int)] w fun e w' => ∃ v, e = .returned v ∧ w'.ownsRow w.heap.size 5 1 v 0 [] ∧ Below w.heap.size w w' := by
  obtain ⟨i0, hi, hz0, hz1, hz2⟩ := info_parts Tryz.infoU8
  have e1 : decide ((n : Int) < 0) = false := by simp
  have e2 : decide (0 < (n : Int)) = true := by simp; omega
  obtain ⟨C, hC⟩ : ∃ C, grownCap w n 0 5 = C := ⟨_, rfl⟩
  have happ : ∀ ty, (Builtin.append_ #[23, 3] ty #[.slice none 0 0, .int .i64 (n : Int)]).run Tryz.prog w = .ok (.slice (some ⟨w.heap.size, 0, none⟩) n C) (w.drew.alloc (.cells (Builtin.zeroCells #[.int .u8 0] n ++ Builtin.zeroCells #[.int .u8 0] (C - n)) 5)) := fun ty => by
    rw [← hC]; exact Lib.run_append_nil_zeros w 23 3 ty 5 i0 (.int .u8 0) .i64 .i64 Tryz.underlying23 Tryz.underlying3 hi hz0 n h0 (by rw [hz1]; decide) (by omega) (by rw [hz2]; omega)
  go_enter Tryz.func57, Tryz.ntmps57
  go_wp2_with (at_builtin; refine Lib.wpList_append_run _ rfl _ _ 23 3 rfl _ _ rfl rfl _ _ (happ _) ?_)
  have HC : Hid (n ≤ C ∧ C ≤ maxLen) := by show _ ∧ _; rw [← hC]; exact ⟨grownCap_ge w n 0 5, grownCap_le_maxLen w n 0 5 (by unfold maxLen; omega)⟩
  have hc := cut_made w.heap.size n C
  clear hC happ hi hz0 hz1 hz2
  go_wp2
  go_ret
  refine ⟨_, rfl, ⟨by simp, .inr ⟨w.heap.size, C, Builtin.zeroCells #[.int .u8 0] n ++ Builtin.zeroCells #[.int .u8 0] (C - n), rfl, Nat.le_refl _, heap_alloc_new w _, Nat.zero_le _, HC.out.2, ?_, by simp⟩⟩, ((below_one w _)).drew⟩
  have := HC.out.1
  simp [Builtin.zeroCells]
  omega
theorem grow_any (n : Nat) (w : World) (hn : n ≤ 70368744177664) : Calls Tryz.prog 57 #[.slice none 0 0, .int .i64 (n : Int)] w fun e w' => ∃ v, e = .returned v ∧ w'.ownsRow w.heap.size 5 1 v ([] : List Nat).length (B8 []) ∧ Below w.heap.size w w' := by
  rcases Nat.eq_zero_or_pos n with rfl | h0
  · refine (grow_none w).mono ?_
    rintro e w' ⟨rfl, rfl⟩
    exact ⟨_, rfl, World.ownsRow_nil _ _ _ _, Below.refl _ _⟩
  · exact grow_some n w h0 hn
/-- Three rows of bytes, as a row of slices. -/
structure Three (w : World) (g : Nat) (l1 l2 l3 : List Nat) : Prop where
  lt : g < w.heap.size
  fst : ∃ a c, w.cell? ⟨g, 0, none⟩ = some (.slice a l1.length c) ∧ Sl w .u8 a l1.length c (ints l1)
  snd : ∃ a c, w.cell? ⟨g, 1, none⟩ = some (.slice a l2.length c) ∧ Sl w .u8 a l2.length c (ints l2)
  thd : ∃ a c, w.cell? ⟨g, 2, none⟩ = some (.slice a l3.length c) ∧ Sl w .u8 a l3.length c (ints l3)
def upTo (l1 l2 l3 : List Nat) : Nat → List Nat
  | 0 => []
  | 1 => l1
  | 2 => l1 ++ l2
  | _ => l1 ++ l2 ++ l3
theorem Three.at {w : World} {g : Nat} {l1 l2 l3 : List Nat} (h : Three w g l1 l2 l3) {j : Nat} (hj : j < 3) : ∃ a n c l, w.cell? ⟨g, j, none⟩ = some (.slice a n c) ∧ Sl w .u8 a n c (ints l) ∧ upTo l1 l2 l3 j ++ l = upTo l1 l2 l3 (j + 1) := by
  match j, hj with
  | 0, _ => obtain ⟨a, c, h1, h2⟩ := h.fst; exact ⟨a, _, c, l1, h1, h2, rfl⟩
  | 1, _ => obtain ⟨a, c, h1, h2⟩ := h.snd; exact ⟨a, _, c, l2, h1, h2, rfl⟩
  | 2, _ => obtain ⟨a, c, h1, h2⟩ := h.thd; exact ⟨a, _, c, l3, h1, h2, rfl⟩
theorem upTo_le (l1 l2 l3 : List Nat) (j : Nat) : (upTo l1 l2 l3 j).length ≤ (l1 ++ l2 ++ l3).length := by
  match j with
  | 0 => simp [upTo]
  | 1 => simp [upTo]
  | 2 => simp [upTo]
  | j + 3 => simp [upTo]
set_option maxHeartbeats 1000000 in
theorem concat_any (g : Nat) (l1 l2 l3 : List Nat) (w : World) (h : Three w g l1 l2 l3) (hn : (l1 ++ l2 ++ l3).length ≤ 70368744177664) :
    Calls Tryz.prog 22 #[.slice (some ⟨g, 0, none⟩) 3 3] w fun e w' => ∃ v, e = .returned v ∧ w'.ownsRow w.heap.size 5 1 v (l1 ++ l2 ++ l3).length (B8 (l1 ++ l2 ++ l3)) ∧ Below w.heap.size w w' := by
  have HT := hide h
  have HU : Hid (∀ j, (upTo l1 l2 l3 j).length ≤ 70368744177664) := fun j => Nat.le_trans (upTo_le l1 l2 l3 j) hn
  have HG := h.lt
  clear h hn
  go_enter Tryz.func22, Tryz.ntmps22
  go_wp2_with fail
  go_loopw [3, 11] (fun s i wr => ∃ j m : Nat, j ≤ 3 ∧ i = .int .i64 j ∧ s = .int .i64 m ∧ Hid (m = (upTo l1 l2 l3 j).length) ∧ m ≤ 70368744177664 ∧ wr = w) (fun _ i _ => 3 - (intOf i).toNat)
  case atStart => exact ⟨0, 0, by omega, rfl, rfl, hide rfl, by omega, rfl⟩
  case round =>
    obtain ⟨j, m, hj, rfl, rfl, HM, hm, hww⟩ := hrel
    obtain rfl : w = wr := hww.symm
    by_cases hjl : j < 3
    · obtain ⟨a, n, c, l, d1, hs, hup⟩ := HT.out.at hjl
      have hnl : l.length = n := by rw [← hs.1, ints_length]
      have hmn : m + n = (upTo l1 l2 l3 (j + 1)).length := by rw [← hup, List.length_append, HM.out, hnl]
      have hmb : m + n ≤ 70368744177664 := by rw [hmn]; exact HU.out _
      have HMN := hide hmn
      have e1 : decide ((m : Int) + (n : Int) < 0) = false := by simp; omega
      clear hs hup hnl hmn
      go_wp2
      go_round
      · exact ⟨j + 1, m + n, by omega, by go_num, by go_num, HMN, hmb, trivial⟩
      · simp [intOf]; omega
    · obtain rfl : j = 3 := by omega
      have HM3 : m = (upTo l1 l2 l3 3).length := HM.out
      have HGR := hide (grow_any m w hm)
      clear HM HM3
      go_wp2_with fail
      refine HGR.out.mono ?_
      rintro e w1 ⟨v1, rfl, ho1, hb1⟩
      have HB1 := hide hb1
      have HO1 := hide ho1
      clear hb1 ho1 HGR
      go_wp2_with fail
      go_loopw [6, 27] (fun s i w2 => ∃ j : Nat, j ≤ 3 ∧ i = .int .i64 j ∧ Hid (w2.ownsRow w.heap.size 5 1 s (upTo l1 l2 l3 j).length (B8 (upTo l1 l2 l3 j))) ∧ Hid (Below w.heap.size w w2)) (fun _ i _ => 3 - (intOf i).toNat)
      case atStart => exact ⟨0, by omega, rfl, HO1, HB1⟩
      case round =>
        obtain ⟨j, hj, rfl, HO, HB⟩ := hrel
        by_cases hjl : j < 3
        · obtain ⟨a, n, c, l, d1, hs, hup⟩ := HT.out.at hjl
          have d2 : wr.cell? ⟨g, j, none⟩ = some (.slice a n c) := by rw [HB.out.cell (p := ⟨g, j, none⟩) HG]; exact d1
          have hnl : l.length = n := by rw [← hs.1, ints_length]
          have hlim : (upTo l1 l2 l3 j).length + n ≤ 140737488355328 := by
            have := HU.out (j + 1)
            rw [← hup, List.length_append, hnl] at this
            omega
          have HS := hide (hs.below HB.out)
          have hsz := HB.out.size
          have HUP := hide hup
          clear d1 hs hup hnl
          go_wp2_with (at_builtin; refine wpList_app rfl _ _ rfl w.heap.size _ (upTo l1 l2 l3 j) rfl HO.out a n c l rfl HS.out hlim hsz (upTo l1 l2 l3 (j + 1)) HUP.out ?_)
          intro v3 w3 hown has
          have hb3 : Below w.heap.size w w3 := HB.out.trans (has.below hsz (fun k hk => (owns_lt HO.out hk).1))
          have HB3 := hide hb3
          have HO3 := hide hown
          clear hb3 hown has
          go_wp2
          go_roundw
          case rel => exact ⟨j + 1, by omega, by go_num, HO3, HB3⟩
          case measure => simp [intOf]; omega
        · obtain rfl : j = 3 := by omega
          go_wp2
          go_ret
          exact ⟨_, rfl, HO.out, HB.out⟩
end Go.Proofs.YtmhfpipeoojacaaGreat
/- dict.Bytes: a column's values laid down. Conditions: values whose parts are machine numbers. -/
namespace Go.Proofs.YtmhfpipeoojacaaGreat
set_option linter.unusedVariables false
set_option maxRecDepth 10000
open Go.RowKit
theorem owns_low {w : World} {B C : Nat} {e : TypeId} {s n : Nat} {v : Value} {xs : List Value} (h : w.ownsRow B e s v n xs) (hC : C ≤ B) : w.ownsRow C e s v n xs := owns_base h fun g hg => Nat.le_trans hC (owns_lt h hg).1
theorem concat_new (w : World) (a1 a2 a3 : Option Addr) (n1 n2 n3 c1 c2 c3 : Nat) (l1 l2 l3 : List Nat) (h1 : Sl w .u8 a1 n1 c1 (ints l1)) (h2 : Sl w .u8 a2 n2 c2 (ints l2)) (h3 : Sl w .u8 a3 n3 c3 (ints l3)) (hn : n1 + n2 + n3 ≤ 70368744177664) :
    Calls Tryz.prog 22 #[.slice (some ⟨w.heap.size, 0, none⟩) 3 3] (w.alloc (.cells #[.slice a1 n1 c1, .slice a2 n2 c2, .slice a3 n3 c3] 23)) fun e w' => ∃ v, e = .returned v ∧ w'.ownsRow w.heap.size 5 1 v (l1 ++ l2 ++ l3).length (B8 (l1 ++ l2 ++ l3)) ∧ Below w.heap.size w w' := by
  obtain rfl : n1 = l1.length := by rw [← h1.1, ints_length]
  obtain rfl : n2 = l2.length := by rw [← h2.1, ints_length]
  obtain rfl : n3 = l3.length := by rw [← h3.1, ints_length]
  have hb := below_one w (.cells #[.slice a1 l1.length c1, .slice a2 l2.length c2, .slice a3 l3.length c3] 23)
  refine (concat_any w.heap.size l1 l2 l3 _ ⟨by simp, ⟨a1, c1, by simp, h1.below hb⟩, ⟨a2, c2, by simp, h2.below hb⟩, ⟨a3, c3, by simp, h3.below hb⟩⟩ (by simp; omega)).mono ?_
  rintro e w' ⟨v, rfl, ho, hb2⟩
  exact ⟨v, rfl, owns_low ho (by simp), bthen hb hb2⟩
theorem chk_words {l : List Z.V} {kind : Int} (h : Z.chk l kind = 0) : Z.chk (Z.wds l) kind = 0 := by
  obtain ⟨h1, h2, h3, h4⟩ := chk_zero h
  have hm : ∀ x ∈ Z.wds l, x ∈ l := fun x hx => words_mem (words_of l) hx
  exact chk_of h1 (Nat.le_trans (wds_len l) h2) (fun x hx => h3 x (hm x hx)) (fun x hx => h4 x (hm x hx))
theorem cdL_lt (l : List Z.V) : ∀ x ∈ Z.cdL (Z.wds l) l, x < (Z.wds l).length := (cdOk_iff.1 (codes_ok l)).1
theorem pack_codes {l : List Z.V} (hl : l.length ≤ 4096) : packC (ints (Z.cdL (Z.wds l) l)) ((Z.dwd (Z.wds l).length : Nat) : Int) = 0 ∧ packB (ints (Z.cdL (Z.wds l) l)) ((Z.dwd (Z.wds l).length : Nat) : Int) = A.bytesOf (bitsAll (ints (Z.cdL (Z.wds l) l)) (Z.dwd (Z.wds l).length)) := by
  have hw := wds_len l
  have hd := dwd_le (n := (Z.wds l).length) (by omega)
  have ho : packOk (ints (Z.cdL (Z.wds l) l)) ((Z.dwd (Z.wds l).length : Nat) : Int) = true := packOk_yes (by omega) (by omega) (by rw [Int.toNat_natCast]; exact cI_fit (cdL_lt l))
  unfold packC packB
  rw [ho, if_pos rfl, if_pos rfl, Int.toNat_natCast]
  exact ⟨rfl, rfl⟩
def DictBytesAns (l : List Z.V) (kind : Int) (w : World) (e : Ending) (w' : World) : Prop := ∃ a c, e = .returned (.tuple #[.slice a (Z.dcb l kind).length c, .int .i64 (Z.chk l kind)]) ∧ Sl w' .u8 a (Z.dcb l kind).length c (ints (Z.dcb l kind)) ∧ Below w.heap.size w w'
set_option maxHeartbeats 2000000 in
theorem dbytes_ok (ao : Option Addr) (cap : Nat) (l : List Z.V) (kind : Int) (w : World) (h : SlV w ao l.length cap l) (hI : ∀ x ∈ l, Z.I64 x.i) (h0 : Z.chk l kind = 0) :
    Calls Tryz.prog 6 #[.slice ao l.length cap, .int .i64 kind] w (DictBytesAns l kind w) := by
  have hl : l.length ≤ 4096 := (chk_zero h0).2.1
  have hwl := wds_len l
  have HCK := hide (check_any _ _ _ l kind w h hI)
  rw [h0] at HCK
  have HS := hide h
  have HI := hide hI
  have H0 := hide h0
  clear h hI h0
  obtain ⟨len, hlen⟩ : ∃ len, l.length = len := ⟨_, rfl⟩
  rw [hlen] at hl hwl HCK HS ⊢
  have HLEN := hide hlen
  clear hlen
  go_enter Tryz.func6, Tryz.ntmps6
  go_wp2_with fail
  refine HCK.out.mono ?_
  rintro e w1 ⟨rfl, hb1⟩
  have HB1 := hide hb1
  have HWD := hide (words_some ao len cap l w1 (HS.out.below hb1) (by omega))
  clear hb1 HCK
  go_wp2_with fail
  refine HWD.out.mono ?_
  rintro e w2 ⟨wa, m, wc, rfl, hsw, _, hb2⟩
  have HB2 := hide (bthen HB1.out hb2)
  have hml : (Z.wds l).length = m := hsw.1
  have hm : m ≤ 4096 := by omega
  have HML := hide hml
  have HSW := hide hsw
  have HPB := hide (pbytes_any wa m wc (Z.wds l) kind w2 hsw (fun x hx => HI.out x (words_mem (words_of l) hx)))
  clear hsw hb2 hml HWD
  go_wp2_with fail
  refine HPB.out.mono ?_
  rintro e w3 ⟨pa, pc, rfl, hsp, hb3⟩
  rw [chk_words H0.out, cb_ok (chk_words H0.out)]
  rw [cb_ok (chk_words H0.out)] at hsp
  have HB3 := hide (bthen HB2.out hb3)
  have HSW3 := hide (HSW.out.below hb3)
  obtain ⟨pn, hpn⟩ : ∃ pn, (Z.pb (Z.wds l)).length = pn := ⟨_, rfl⟩
  rw [hpn] at hsp ⊢
  have hpl : pn ≤ 4235264 := by
    rw [← hpn]
    have := pb_le (Z.wds l) (fun x hx => HI.out x (words_mem (words_of l) hx)) (chk_zero (chk_words H0.out)).2.2.2
    have h2 := HML.out
    omega
  have HSP := hide hsp
  have HCD : Hid (Calls Tryz.prog 16 #[.slice wa m wc, .slice ao len cap] w3 (CodesAns w3 (Z.wds l) l)) := by
    have h1 := HSW3.out
    have h2 := HS.out.below HB3.out
    rw [← HML.out] at h1 ⊢
    rw [← HLEN.out] at h2 ⊢
    exact codes_any wa wc (Z.wds l) ao cap l w3 h1 h2 (by rw [HML.out]; omega) (by rw [HLEN.out]; omega)
  clear hsp hb3 hpn HPB HSW
  go_wp2_with fail
  refine HCD.out.mono ?_
  rintro e w4 ⟨ca, cn, cc, rfl, hsc, hb4⟩
  rw [words_cdE l]
  have HB4 := hide (bthen HB3.out hb4)
  have HSP4 := hide (HSP.out.below hb4)
  obtain rfl : cn = len := by rw [← hsc.1, ints_length, cdL_ok (words_cdE l), List.length_map, HLEN.out]
  have HSC := hide hsc
  have HDW := hide (dwidth_any wa m wc w4 (by omega))
  clear hsc hb4 HCD HSP
  go_wp2_with fail
  refine HDW.out.mono ?_
  rintro e w5 ⟨rfl, hb5⟩
  have HB5 := hide (bthen HB4.out hb5)
  have HSP5 := hide (HSP4.out.below hb5)
  have hin : In64 (ints (Z.cdL (Z.wds l) l)) := cI_in (m := m) hm (by rw [← HML.out]; exact cdL_lt l)
  have HPK := hide (pack_u ca cn cc (ints (Z.cdL (Z.wds l) l)) ((Z.dwd m : Nat) : Int) w5 (HSC.out.below hb5) (by omega) hin)
  have hpc : packC (ints (Z.cdL (Z.wds l) l)) ((Z.dwd m : Nat) : Int) = 0 ∧ packB (ints (Z.cdL (Z.wds l) l)) ((Z.dwd m : Nat) : Int) = A.bytesOf (bitsAll (ints (Z.cdL (Z.wds l) l)) (Z.dwd m)) := by
    have := pack_codes (l := l) (by rw [HLEN.out]; exact hl)
    rwa [HML.out] at this
  have hpl2 := packB_le (ints (Z.cdL (Z.wds l) l)) ((Z.dwd m : Nat) : Int)
  rw [HSC.out.1] at hpl2
  rw [hpc.1] at HPK
  have HPC := hide hpc.2
  obtain ⟨dw, hdw⟩ : ∃ dw, Z.dwd m = dw := ⟨_, rfl⟩
  have HDD := hide hdw
  rw [hdw] at HPK hpl2 ⊢
  have HPL := hide hpl2
  clear hb5 hin hpc hdw HDW HSC HSP4 hpl2
  go_wp2_with fail
  refine HPK.out.mono ?_
  rintro e w6 ⟨v6, rfl, ho6, hb6⟩
  have HB6 := hide (bthen HB5.out hb6)
  have HSP6 := hide (HSP5.out.below hb6)
  obtain ⟨qa, qc, hv6, hs6, _⟩ := Sl.of_bytes ho6
  obtain ⟨qn, hqn⟩ : ∃ qn, (packB (ints (Z.cdL (Z.wds l) l)) (dw : Int)).length = qn := ⟨_, rfl⟩
  have hpl2 := HPL.out
  rw [hqn] at hv6 hs6 hpl2
  clear HPL
  subst hv6
  have HS6 := hide hs6
  have HPU := hide (put_any (m : Int) w6 (by omega) (by omega))
  have eM : IntKind.u64.wrap (m : Int) = (m : Int) := by rw [u64_wrap]; omega
  clear ho6 hs6 hqn hb6 HPK HSP5
  go_wp2_with fail
  refine HPU.out.mono ?_
  rintro e w7 ⟨v7, rfl, ho7, hb7⟩
  rw [Int.toNat_natCast] at ho7
  have HB7 := hide (bthen HB6.out hb7)
  obtain ⟨ra, rc, hv7, hs7, _⟩ := Sl.of_bytes ho7
  obtain ⟨rn, hrn⟩ : ∃ rn, (E.leb m).length = rn := ⟨_, rfl⟩
  have hr10 := E.leb_ten m (by omega)
  rw [hrn] at hv7 hs7 hr10
  subst hv7
  have HCC := hide (concat_new w7 ra pa qa rn pn qn rc pc qc (E.leb m) (Z.pb (Z.wds l)) _ hs7 (HSP6.out.below hb7) (HS6.out.below hb7) (by omega))
  clear ho7 hs7 hrn hb7 HPU HS6 HSP6
  go_wp2_with fail
  refine HCC.out.mono ?_
  rintro e w8 ⟨v8, rfl, ho8, hb8⟩
  have hdb : Z.dcb l kind = E.leb m ++ Z.pb (Z.wds l) ++ packB (ints (Z.cdL (Z.wds l) l)) (dw : Int) := by
    rw [dcb_ok H0.out]
    unfold Z.db
    rw [HML.out, HDD.out, List.append_assoc, ← HDD.out, HPC.out]
  rw [← hdb] at ho8
  obtain ⟨xa, xc, hv8, hs8, _⟩ := Sl.of_bytes ho8
  have FIN : Hid (DictBytesAns l kind w (.returned (.tuple #[v8, .int .i64 0])) w8) := ⟨xa, xc, by rw [hv8, H0.out], hs8, bthen HB7.out hb8⟩
  clear ho8 hs8 hv8 hdb hb8 HCC
  go_wp2
  go_ret2
  exact FIN.out
theorem dbytes_any (ao : Option Addr) (len cap : Nat) (l : List Z.V) (kind : Int) (w : World) (h : SlV w ao len cap l) (hI : ∀ x ∈ l, Z.I64 x.i) :
    Calls Tryz.prog 6 #[.slice ao len cap, .int .i64 kind] w (DictBytesAns l kind w) := by
  obtain rfl : len = l.length := h.1.symm
  by_cases h0 : Z.chk l kind = 0
  · exact dbytes_ok ao cap l kind w h hI h0
  · have HCK := hide (check_any _ _ _ l kind w h hI)
    obtain ⟨E, hE⟩ : ∃ E, Z.chk l kind = E := ⟨_, rfl⟩
    have hE0 : (E != 0) = true := by rw [← hE]; simpa using h0
    have FIN : Hid (∀ w', Below w.heap.size w w' → DictBytesAns l kind w (.returned (.tuple #[.slice none 0 0, .int .i64 E])) w') := fun w' hb => by
      unfold DictBytesAns; rw [dcb_bad h0, hE]
      exact ⟨none, 0, rfl, Sl.nil _ _, hb⟩
    rw [hE] at HCK
    clear h hI hE h0
    go_enter Tryz.func6, Tryz.ntmps6
    go_wp2_with fail
    refine HCK.out.mono ?_
    rintro e w1 ⟨rfl, hb1⟩
    replace hb1 := hide hb1
    clear HCK
    go_wp2
    go_ret2
    exact FIN.out _ hb1.out
end Go.Proofs.YtmhfpipeoojacaaGreat

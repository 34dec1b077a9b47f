/- slices.Concat of three rows of bytes. Conditions: at most 2^46 bytes together. -/
import Derived.Test.YtkcpfgjkplailaaBdT
import Derived.Test.YtkcpfgjkplailaaBdF
import Derived.Lib.AppendZeros
import Derived.Test.YtkcpfgjkplailaaBdN
import Derived.Test.YtkcpfgjkplailaaBdO
import Derived.Test.YtkcpfgjkplailaaBdQ
import Derived.Test.YtkcpfgjkplailaaBdR
import Derived.Test.YtkcpfgjkplailaaBdS
namespace Go.Proofs.Ytkcpfgjkplailaa
set_option linter.unusedVariables false
set_option maxRecDepth 10000
open Go.RowKit
theorem grow_none (w : World) : Calls Try.prog 50 #[.slice none 0 0, .int .i64 0] w fun e w' => e = .returned (.slice none 0 0) ∧ w' = w := by
  go_enter Try.func50, Try.ntmps50
  go_wp2
  go_ret
  exact ⟨rfl, rfl⟩
theorem cut_made (g : Nat) (n C : Nat) (w : World) : (Instr.slice 23 (.slice (some ⟨g, 0, none⟩) n C) none (some (.int .i64 0)) none).run Try.prog w = .ok (.slice (some ⟨g, 0, none⟩) 0 C) w := by
  have hr := run_slice_h (P := Try.prog) w 23 (some ⟨g, 0, none⟩) n C Try.underlying23 .i64 (0 : Int) (by omega) (by omega)
  have e1 : Try.prog.elem 23 = 5 := by kernel_rfl
  have e2 : (sizeOf 5).run Try.prog w = .ok 1 w := by kernel_rfl
  rw [e1, e2] at hr
  simp only [Result.andThen_ok, sliced, Nat.sub_zero] at hr
  rw [show (0 : Int) = ((0 : Nat) : Int) from rfl] at *
  simpa [Addr.add] using hr
theorem grow_some (n : Nat) (w : World) (h0 : 0 < n) (hn : n ≤ 70368744177664) : Calls Try.prog 50 #[.slice none 0 0, .int .i64 (n : Int)] w fun e w' => ∃ v, e = .returned v ∧ w'.ownsRow w.heap.size 5 1 v 0 [] ∧ Below w.heap.size w w' := by
  obtain ⟨i0, hi, hz0, hz1, hz2⟩ := info_parts Try.infoU8
  have e1 : decide ((n : Int) < 0) = false := by simp
  have e2 : decide (0 < (n : Int)) = true := by simp; omega
  obtain ⟨C, hC⟩ : ∃ C, grownCap w n 0 5 = C := ⟨_, rfl⟩
  have happ : ∀ ty, (Builtin.append_ #[23, 3] ty #[.slice none 0 0, .int .i64 (n : Int)]).run Try.prog w = .ok (.slice (some ⟨w.heap.size, 0, none⟩) n C) (w.drew.alloc (.cells (Builtin.zeroCells #[.int .u8 0] n ++ Builtin.zeroCells #[.int .u8 0] (C - n)) 5)) := fun ty => by
    rw [← hC]; exact Lib.run_append_nil_zeros w 23 3 ty 5 i0 (.int .u8 0) .i64 .i64 Try.underlying23 Try.underlying3 hi hz0 n h0 (by rw [hz1]; decide) (by omega) (by rw [hz2]; omega)
  go_enter Try.func50, Try.ntmps50
  go_wp2_with (at_builtin; refine Lib.wpList_append_run _ rfl _ _ 23 3 rfl _ _ rfl rfl _ _ (happ _) ?_)
  have HC : Hid (n ≤ C ∧ C ≤ maxLen) := by show _ ∧ _; rw [← hC]; exact ⟨grownCap_ge w n 0 5, grownCap_le_maxLen w n 0 5 (by unfold maxLen; omega)⟩
  have hc := cut_made w.heap.size n C
  clear hC happ hi hz0 hz1 hz2
  go_wp2
  go_ret
  refine ⟨_, rfl, ⟨by simp, .inr ⟨w.heap.size, C, Builtin.zeroCells #[.int .u8 0] n ++ Builtin.zeroCells #[.int .u8 0] (C - n), rfl, Nat.le_refl _, heap_alloc_new w _, Nat.zero_le _, HC.out.2, ?_, by simp⟩⟩, ((below_one w _)).drew⟩
  have := HC.out.1
  simp [Builtin.zeroCells]
  omega
theorem grow_any (n : Nat) (w : World) (hn : n ≤ 70368744177664) : Calls Try.prog 50 #[.slice none 0 0, .int .i64 (n : Int)] w fun e w' => ∃ v, e = .returned v ∧ w'.ownsRow w.heap.size 5 1 v ([] : List Nat).length (B8 []) ∧ Below w.heap.size w w' := by
  rcases Nat.eq_zero_or_pos n with rfl | h0
  · refine (grow_none w).mono ?_
    rintro e w' ⟨rfl, rfl⟩
    exact ⟨_, rfl, World.ownsRow_nil _ _ _ _, Below.refl _ _⟩
  · exact grow_some n w h0 hn
/-- Three rows of bytes, as a row of slices. -/
structure Three (w : World) (g : Nat) (l1 l2 l3 : List Nat) : Prop where
  lt : g < w.heap.size
  fst : ∃ a c, w.cell? ⟨g, 0, none⟩ = some (.slice a l1.length c) ∧ Sl w .u8 a l1.length c (ints l1)
  snd : ∃ a c, w.cell? ⟨g, 1, none⟩ = some (.slice a l2.length c) ∧ Sl w .u8 a l2.length c (ints l2)
  thd : ∃ a c, w.cell? ⟨g, 2, none⟩ = some (.slice a l3.length c) ∧ Sl w .u8 a l3.length c (ints l3)
def upTo (l1 l2 l3 : List Nat) : Nat → List Nat
  | 0 => []
  | 1 => l1
  | 2 => l1 ++ l2
  | _ => l1 ++ l2 ++ l3
theorem Three.at {w : World} {g : Nat} {l1 l2 l3 : List Nat} (h : Three w g l1 l2 l3) {j : Nat} (hj : j < 3) : ∃ a n c l, w.cell? ⟨g, j, none⟩ = some (.slice a n c) ∧ Sl w .u8 a n c (ints l) ∧ upTo l1 l2 l3 j ++ l = upTo l1 l2 l3 (j + 1) := by
  match j, hj with
  | 0, _ => obtain ⟨a, c, h1, h2⟩ := h.fst; exact ⟨a, _, c, l1, h1, h2, rfl⟩
  | 1, _ => obtain ⟨a, c, h1, h2⟩ := h.snd; exact ⟨a, _, c, l2, h1, h2, rfl⟩
  | 2, _ => obtain ⟨a, c, h1, h2⟩ := h.thd; exact ⟨a, _, c, l3, h1, h2, rfl⟩
theorem upTo_le (l1 l2 l3 : List Nat) (j : Nat) : (upTo l1 l2 l3 j).length ≤ (l1 ++ l2 ++ l3).length := by
  match j with
  | 0 => simp [upTo]
  | 1 => simp [upTo]
  | 2 => simp [upTo]
  | j + 3 => simp [upTo]
set_option maxHeartbeats 1000000 in
theorem concat_any (g : Nat) (l1 l2 l3 : List Nat) (w : World) (h : Three w g l1 l2 l3) (hn : (l1 ++ l2 ++ l3).length ≤ 70368744177664) :
    Calls Try.prog 23 #[.slice (some ⟨g, 0, none⟩) 3 3] w fun e w' => ∃ v, e = .returned v ∧ w'.ownsRow w.heap.size 5 1 v (l1 ++ l2 ++ l3).length (B8 (l1 ++ l2 ++ l3)) ∧ Below w.heap.size w w' := by
  have HT := hide h
  have HU : Hid (∀ j, (upTo l1 l2 l3 j).length ≤ 70368744177664) := fun j => Nat.le_trans (upTo_le l1 l2 l3 j) hn
  have HG := h.lt
  clear h hn
  go_enter Try.func23, Try.ntmps23
  go_wp2_with fail
  go_loopw [3, 11] (fun s i wr => ∃ j m : Nat, j ≤ 3 ∧ i = .int .i64 j ∧ s = .int .i64 m ∧ Hid (m = (upTo l1 l2 l3 j).length) ∧ m ≤ 70368744177664 ∧ wr = w) (fun _ i _ => 3 - (intOf i).toNat)
  case atStart => exact ⟨0, 0, by omega, rfl, rfl, hide rfl, by omega, rfl⟩
  case round =>
    obtain ⟨j, m, hj, rfl, rfl, HM, hm, hww⟩ := hrel
    obtain rfl : w = wr := hww.symm
    by_cases hjl : j < 3
    · obtain ⟨a, n, c, l, d1, hs, hup⟩ := HT.out.at hjl
      have hnl : l.length = n := by rw [← hs.1, ints_length]
      have hmn : m + n = (upTo l1 l2 l3 (j + 1)).length := by rw [← hup, List.length_append, HM.out, hnl]
      have hmb : m + n ≤ 70368744177664 := by rw [hmn]; exact HU.out _
      have HMN := hide hmn
      have e1 : decide ((m : Int) + (n : Int) < 0) = false := by simp; omega
      clear hs hup hnl hmn
      go_wp2
      go_round
      · exact ⟨j + 1, m + n, by omega, by go_num, by go_num, HMN, hmb, trivial⟩
      · simp [intOf]; omega
    · obtain rfl : j = 3 := by omega
      have HM3 : m = (upTo l1 l2 l3 3).length := HM.out
      have HGR := hide (grow_any m w hm)
      clear HM HM3
      go_wp2_with fail
      refine HGR.out.mono ?_
      rintro e w1 ⟨v1, rfl, ho1, hb1⟩
      have HB1 := hide hb1
      have HO1 := hide ho1
      clear hb1 ho1 HGR
      go_wp2_with fail
      go_loopw [6, 27] (fun s i w2 => ∃ j : Nat, j ≤ 3 ∧ i = .int .i64 j ∧ Hid (w2.ownsRow w.heap.size 5 1 s (upTo l1 l2 l3 j).length (B8 (upTo l1 l2 l3 j))) ∧ Hid (Below w.heap.size w w2)) (fun _ i _ => 3 - (intOf i).toNat)
      case atStart => exact ⟨0, by omega, rfl, HO1, HB1⟩
      case round =>
        obtain ⟨j, hj, rfl, HO, HB⟩ := hrel
        by_cases hjl : j < 3
        · obtain ⟨a, n, c, l, d1, hs, hup⟩ := HT.out.at hjl
          have d2 : wr.cell? ⟨g, j, none⟩ = some (.slice a n c) := by rw [HB.out.cell (p := ⟨g, j, none⟩) HG]; exact d1
          have hnl : l.length = n := by rw [← hs.1, ints_length]
          have hlim : (upTo l1 l2 l3 j).length + n ≤ 140737488355328 := by
            have := HU.out (j + 1)
            rw [← hup, List.length_append, hnl] at this
            omega
          have HS := hide (hs.below HB.out)
          have hsz := HB.out.size
          have HUP := hide hup
          clear d1 hs hup hnl
          go_wp2_with (at_builtin; refine wpList_app rfl _ _ rfl w.heap.size _ (upTo l1 l2 l3 j) rfl HO.out a n c l rfl HS.out hlim hsz (upTo l1 l2 l3 (j + 1)) HUP.out ?_)
          intro v3 w3 hown has
          have hb3 : Below w.heap.size w w3 := HB.out.trans (has.below hsz (fun k hk => (owns_lt HO.out hk).1))
          have HB3 := hide hb3
          have HO3 := hide hown
          clear hb3 hown has
          go_wp2
          go_roundw
          case rel => exact ⟨j + 1, by omega, by go_num, HO3, HB3⟩
          case measure => simp [intOf]; omega
        · obtain rfl : j = 3 := by omega
          go_wp2
          go_ret
          exact ⟨_, rfl, HO.out, HB.out⟩
end Go.Proofs.Ytkcpfgjkplailaa
/- slices.Concat of three rows of bytes, at the call. Conditions: 2^46 bytes at most. -/
namespace Go.Proofs.Ytkcpfgjkplailaa
set_option linter.unusedVariables false
set_option maxRecDepth 10000
open Go.RowKit
theorem owns_low {w : World} {B C : Nat} {e : TypeId} {s n : Nat} {v : Value} {xs : List Value} (h : w.ownsRow B e s v n xs) (hC : C ≤ B) : w.ownsRow C e s v n xs := owns_base h fun g hg => Nat.le_trans hC (owns_lt h hg).1
theorem concat_new (w : World) (a1 a2 a3 : Option Addr) (n1 n2 n3 c1 c2 c3 : Nat) (l1 l2 l3 : List Nat) (h1 : Sl w .u8 a1 n1 c1 (ints l1)) (h2 : Sl w .u8 a2 n2 c2 (ints l2)) (h3 : Sl w .u8 a3 n3 c3 (ints l3)) (hn : n1 + n2 + n3 ≤ 70368744177664) :
    Calls Try.prog 23 #[.slice (some ⟨w.heap.size, 0, none⟩) 3 3] (w.alloc (.cells #[.slice a1 n1 c1, .slice a2 n2 c2, .slice a3 n3 c3] 23)) fun e w' => ∃ v, e = .returned v ∧ w'.ownsRow w.heap.size 5 1 v (l1 ++ l2 ++ l3).length (B8 (l1 ++ l2 ++ l3)) ∧ Below w.heap.size w w' := by
  obtain rfl : n1 = l1.length := by rw [← h1.1, ints_length]
  obtain rfl : n2 = l2.length := by rw [← h2.1, ints_length]
  obtain rfl : n3 = l3.length := by rw [← h3.1, ints_length]
  have hb := below_one w (.cells #[.slice a1 l1.length c1, .slice a2 l2.length c2, .slice a3 l3.length c3] 23)
  refine (concat_any w.heap.size l1 l2 l3 _ ⟨by simp, ⟨a1, c1, by simp, h1.below hb⟩, ⟨a2, c2, by simp, h2.below hb⟩, ⟨a3, c3, by simp, h3.below hb⟩⟩ (by simp; omega)).mono ?_
  rintro e w' ⟨v, rfl, ho, hb2⟩
  exact ⟨v, rfl, owns_low ho (by simp), bthen hb hb2⟩
end Go.Proofs.Ytkcpfgjkplailaa
/- delta.Bytes, and the document's: a column's numbers laid down. Conditions: values whose parts are machine numbers. -/
namespace Go.Proofs.Ytkcpfgjkplailaa
set_option linter.unusedVariables false
set_option maxRecDepth 10000
open Go.RowKit
def DeltaBytesAns (l : List Z.V) (w : World) (e : Ending) (w' : World) : Prop := ∃ a c, e = .returned (.tuple #[.slice a (Z.decb l).length c, .int .i64 (Z.chk l 1)]) ∧ Sl w' .u8 a (Z.decb l).length c (ints (Z.decb l)) ∧ Below w.heap.size w w'
theorem DeltaBytesAns.no {l : List Z.V} {E : Int} {w w' : World} (h : Z.chk l 1 = E) (h0 : E ≠ 0) (hb : Below w.heap.size w w') : DeltaBytesAns l w (.returned (.tuple #[.slice none 0 0, .int .i64 E])) w' := by
  unfold DeltaBytesAns; rw [decb_bad (by rw [h]; exact h0), h]
  exact ⟨none, 0, rfl, Sl.nil _ _, hb⟩
theorem DeltaBytesAns.none {w w' : World} (hb : Below w.heap.size w w') : DeltaBytesAns [] w (.returned (.tuple #[.slice none 0 0, .int .i64 0])) w' := by
  have h : Z.chk [] 1 = 0 := by decide
  unfold DeltaBytesAns; rw [decb_ok h, h]
  exact ⟨.none, 0, rfl, Sl.nil _ _, hb⟩
/-- Steps packed with their own width. -/
theorem pack_steps (l : List Z.V) : packC (ints (Z.dst l)) ((wid (ints (Z.dst l)) : Nat) : Int) = 0 ∧ packB (ints (Z.dst l)) ((wid (ints (Z.dst l)) : Nat) : Int) = A.bytesOf (bitsAll (ints (Z.dst l)) (wid (ints (Z.dst l)))) := by
  have hin := In64_ints (dst_lt l)
  have hw := wid_le _ hin
  have ho : packOk (ints (Z.dst l)) ((wid (ints (Z.dst l)) : Nat) : Int) = true := packOk_yes (by omega) (by omega) (by rw [Int.toNat_natCast]; exact (fit_wid _ _ hin).2 (Nat.le_refl _))
  unfold packC packB
  rw [ho, if_pos rfl, if_pos rfl, Int.toNat_natCast]
  exact ⟨rfl, rfl⟩
set_option maxHeartbeats 2000000 in
theorem debytes_ok (ao : Option Addr) (cap : Nat) (x : Z.V) (t : List Z.V) (w : World) (h : SlV w ao (t.length + 1) cap (x :: t)) (hI : ∀ y ∈ x :: t, Z.I64 y.i) (h0 : Z.chk (x :: t) 1 = 0) :
    Calls Try.prog 10 #[.slice ao ((t.length + 1 : Nat)) cap] w (DeltaBytesAns (x :: t) w) := by
  obtain ⟨l, hl0⟩ : ∃ l, x :: t = l := ⟨_, rfl⟩
  have hl : l.length ≤ 4096 := by rw [← hl0]; exact (chk_zero h0).2.1
  rw [hl0] at h hI h0 ⊢
  obtain ⟨len, hlen⟩ : ∃ len, t.length + 1 = len := ⟨_, rfl⟩
  have hlen2 : l.length = len := by rw [← hlen, ← hl0]; rfl
  rw [hlen] at h ⊢
  have hlp : ((len : Int) == 0) = false := by simp; omega
  have HCK := hide (check_any _ _ _ l 1 w h hI)
  rw [h0] at HCK
  obtain ⟨b, off, xk, xi, xs, rfl, hlt, hx, c1, c2, c3⟩ := h.here (j := 0) (by omega)
  have hxi : Z.V.mk xk xi xs = x := by rw [← hl0] at hx; injection hx with hx; exact hx.symm
  have hxI : Z.I64 xi := by have := hI x (by rw [← hl0]; simp); rw [← hxi] at this; exact this
  have HS := hide h
  have HI := hide hI
  have H0 := hide h0
  have HC2 : Hid (w.cell? ⟨b, off + 0 * 3 + 1, none⟩ = some (.int .i64 xi)) := c2
  have HDEB : Hid (Z.decb l = E.leb (E.zig xi) ++ (E.leb (wid (ints (Z.dst l))) ++ A.bytesOf (bitsAll (ints (Z.dst l)) (wid (ints (Z.dst l)))))) := by
    show _ = _
    rw [decb_ok h0, ← hl0, Z.deb, ← hxi]
  have HSL : Hid ((Z.dst l).length = len - 1) := by show _ = _; rw [dst_length, hlen2]
  have hl4 : len ≤ 4096 := by omega
  have hlen1 : 1 ≤ len := by omega
  clear h hI h0 hl0 hx c1 c2 c3 hxi hlen hlen2 hl
  go_enter Try.func10, Try.ntmps10
  go_wp2_with fail
  refine HCK.out.mono ?_
  rintro e w1 ⟨rfl, hb1⟩
  have HB1 := hide hb1
  have HST := hide (steps_any (some ⟨b, off, none⟩) len cap l w1 (HS.out.below hb1) HI.out (by omega))
  clear hb1 HCK
  go_wp2_with fail
  refine HST.out.mono ?_
  rintro e w2 ⟨sa, sc, rfl, hs2, hb2⟩
  have HB2 := hide (bthen HB1.out hb2)
  obtain ⟨S, hS⟩ : ∃ S, Z.dst l = S := ⟨_, rfl⟩
  have hpk := pack_steps l
  have hin := In64_ints (dst_lt l)
  rw [hS] at hs2 hpk hin HDEB HSL ⊢
  obtain ⟨sn, hsn⟩ : ∃ sn, S.length = sn := ⟨_, rfl⟩
  rw [hsn] at hs2 HSL ⊢
  have hsn4 : sn ≤ 4096 := by have := HSL.out; omega
  have HS2 := hide hs2
  have HPK := hide hpk
  have HIN := hide hin
  obtain ⟨W, hW⟩ : ∃ W, wid (ints S) = W := ⟨_, rfl⟩
  have hW64 : W ≤ 64 := by rw [← hW]; exact wid_le _ hin
  have HWD : Hid (Calls Try.prog 21 #[.slice sa sn sc] w2 fun e w' => e = .returned (.int .i64 (W : Int)) ∧ w' = w2) := by
    have := width_w sa sn sc (ints S) w2 hs2 (by omega) hin
    rwa [hW] at this
  rw [hW] at HPK HDEB
  have HWW := hide hW
  clear hs2 hpk hin hS hsn hW hb2 HST
  go_wp2_with fail
  refine HWD.out.mono ?_
  rintro e w3 ⟨rfl, rfl⟩
  have HPU := hide (pack_u sa sn sc (ints S) (W : Int) w3 HS2.out (by omega) HIN.out)
  rw [HPK.out.1] at HPU
  clear HWD
  go_wp2_with fail
  refine HPU.out.mono ?_
  rintro e w4 ⟨v4, rfl, ho4, hb4⟩
  have HB4 := hide (bthen HB2.out hb4)
  have hpl := packB_le (ints S) (W : Int)
  rw [HS2.out.1] at hpl
  obtain ⟨qa, qc, hv4, hs4, _⟩ := Sl.of_bytes ho4
  obtain ⟨pk, hpk⟩ : ∃ pk, packB (ints S) (W : Int) = pk := ⟨_, rfl⟩
  have hpk2 := HPK.out.2
  rw [hpk] at hv4 hs4 hpl hpk2
  obtain ⟨qn, hqn⟩ : ∃ qn, pk.length = qn := ⟨_, rfl⟩
  rw [hqn] at hv4 hs4 hpl
  subst hv4
  have HS4 := hide hs4
  have HPK2 := hide hpk2
  have d2 : w4.cell? ⟨b, off + 0 * 3 + 1, none⟩ = some (.int .i64 xi) := by rw [HB4.out.cell (p := ⟨b, off + 0 * 3 + 1, none⟩) hlt]; exact HC2.out
  have hlen0 : (0 : Int) < (len : Int) := by omega
  have hzl := E.zig_lt xi hxI.1 hxI.2
  have HXI := hide hxI
  obtain ⟨z, hz⟩ : ∃ z, E.zig xi = z := ⟨_, rfl⟩
  have HZG : Hid (∀ w, Calls Try.prog 25 #[.int .i64 xi] w fun e w' => e = .returned (.int .u64 (z : Int)) ∧ w' = w) := by
    intro w; have := zig_any xi w HXI.out.1 HXI.out.2; rwa [hz] at this
  rw [hz] at hzl HDEB
  have HPZ := hide (put_any (z : Int))
  have hWc : IntKind.u64.wrap (W : Int) = (W : Int) := by rw [u64_wrap]; omega
  clear ho4 hs4 hqn hpk hpk2 hb4 hz HPU HPK hxI HC2
  go_wp2_with fail
  refine (HZG.out _).mono ?_
  rintro e w5 ⟨rfl, hw5⟩
  obtain rfl : w4 = w5 := hw5.symm
  go_wp2_with fail
  refine (HPZ.out w4 (by omega) (by omega)).mono ?_
  rintro e w6 ⟨v6, rfl, ho6, hb6⟩
  rw [Int.toNat_natCast] at ho6
  have HB6 := hide (bthen HB4.out hb6)
  have HS6 := hide (HS4.out.below hb6)
  obtain ⟨za, zc, hv6, hs6, _⟩ := Sl.of_bytes ho6
  obtain ⟨zn, hzn⟩ : ∃ zn, (E.leb z).length = zn := ⟨_, rfl⟩
  have hz10 := E.leb_ten z (by omega)
  rw [hzn] at hv6 hs6 hz10
  subst hv6
  have HZS := hide hs6
  have HPW := hide (put_any (W : Int) w6 (by omega) (by omega))
  clear ho6 hs6 hzn hb6 HPZ HZG HS4
  go_wp2_with fail
  refine HPW.out.mono ?_
  rintro e w7 ⟨v7, rfl, ho7, hb7⟩
  rw [Int.toNat_natCast] at ho7
  have HB7 := hide (bthen HB6.out hb7)
  obtain ⟨ra, rc, hv7, hs7, _⟩ := Sl.of_bytes ho7
  obtain ⟨rn, hrn⟩ : ∃ rn, (E.leb W).length = rn := ⟨_, rfl⟩
  have hr10 := E.leb_ten W (by omega)
  rw [hrn] at hv7 hs7 hr10
  subst hv7
  have HCC := hide (concat_new w7 za ra qa zn rn qn zc rc qc (E.leb z) (E.leb W) pk (HZS.out.below hb7) hs7 (HS6.out.below hb7) (by omega))
  clear ho7 hs7 hrn hb7 HPW HZS HS6
  go_wp2_with fail
  refine HCC.out.mono ?_
  rintro e w8 ⟨v8, rfl, ho8, hb8⟩
  have hdb : Z.decb l = E.leb z ++ E.leb W ++ pk := by rw [HDEB.out, List.append_assoc, ← HPK2.out]
  rw [← hdb] at ho8
  obtain ⟨xa, xc, hv8, hs8, _⟩ := Sl.of_bytes ho8
  have FIN : Hid (DeltaBytesAns l w (.returned (.tuple #[v8, .int .i64 0])) w8) := ⟨xa, xc, by rw [hv8, H0.out], hs8, bthen HB7.out hb8⟩
  clear ho8 hs8 hv8 hdb hb8 HCC
  go_wp2
  go_ret2
  exact FIN.out
theorem debytes_any (ao : Option Addr) (len cap : Nat) (l : List Z.V) (w : World) (h : SlV w ao len cap l) (hI : ∀ x ∈ l, Z.I64 x.i) :
    Calls Try.prog 10 #[.slice ao len cap] w (DeltaBytesAns l w) := by
  obtain rfl : len = l.length := h.1.symm
  by_cases h0 : Z.chk l 1 = 0
  · cases l with
    | cons x t => exact debytes_ok ao cap x t w h hI h0
    | nil =>
      have HCK := hide (check_any _ _ _ [] 1 w h hI)
      have FIN : Hid (∀ w', Below w.heap.size w w' → DeltaBytesAns [] w (.returned (.tuple #[.slice none 0 0, .int .i64 0])) w') := fun w' hb => DeltaBytesAns.none hb
      rw [h0] at HCK
      clear h hI h0
      simp only [List.length_nil] at HCK ⊢
      go_enter Try.func10, Try.ntmps10
      go_wp2_with fail
      refine HCK.out.mono ?_
      rintro e w1 ⟨rfl, hb1⟩
      replace hb1 := hide hb1
      clear HCK
      go_wp2
      go_ret2
      exact FIN.out _ hb1.out
  · have HCK := hide (check_any _ _ _ l 1 w h hI)
    obtain ⟨E, hE⟩ : ∃ E, Z.chk l 1 = E := ⟨_, rfl⟩
    have hE0 : (E != 0) = true := by rw [← hE]; simpa using h0
    have FIN : Hid (∀ w', Below w.heap.size w w' → DeltaBytesAns l w (.returned (.tuple #[.slice none 0 0, .int .i64 E])) w') := fun w' hb => DeltaBytesAns.no hE (by rw [← hE]; exact h0) hb
    rw [hE] at HCK
    clear h hI hE h0
    go_enter Try.func10, Try.ntmps10
    go_wp2_with fail
    refine HCK.out.mono ?_
    rintro e w1 ⟨rfl, hb1⟩
    replace hb1 := hide hb1
    clear HCK
    go_wp2
    go_ret2
    exact FIN.out _ hb1.out
end Go.Proofs.Ytkcpfgjkplailaa

/- Bytes: a column's values laid down. -/
import Derived.Test.YtmhfpipeoojacaaBdDictFewC
import Derived.Test.YtmhfpipeoojacaaBdDictFewA
import Derived.Test.YtmhfpipeoojacaaBdZB
import Derived.Test.YtmhfpipeoojacaaBdDictFewB
import Derived.Test.YtmhfpipeoojacaaBdD
import Derived.Test.YtmhfpipeoojacaaBdV
import Derived.Test.YtmhfpipeoojacaaBdZA
import Derived.Test.YtmhfpipeoojacaaBdZC
import Derived.Maps.OwnOps
import Derived.Maps.OwnSet
import Derived.Maps.RangeWalk
import Derived.Test.YtmhfpipeoojacaaBdY
namespace Go.Proofs.Ytmhfpipeoojacaa
set_option linter.unusedVariables false
open Go.RowKit

/-- What Bytes tells: nothing beside an error. -/
def Z.cb (l : List Z.V) (kind : Int) : List Nat := if Z.chk l kind = 0 then Z.pb l else []
theorem cb_bad {l : List Z.V} {kind : Int} (h : Z.chk l kind ≠ 0) : Z.cb l kind = [] := by unfold Z.cb; rw [if_neg h]
theorem cb_ok {l : List Z.V} {kind : Int} (h : Z.chk l kind = 0) : Z.cb l kind = Z.pb l := by unfold Z.cb; rw [if_pos h]
theorem bl_may {x : Z.V} (h : Z.may x = true) : Z.bl x = Z.lb x := by unfold Z.bl; rw [h]; rfl
theorem pb_take {l : List Z.V} {j : Nat} {x : Z.V} (h : l[j]? = some x) : Z.pb (l.take j) ++ Z.lb x = Z.pb (l.take (j + 1)) := by rw [take_snocV h, pb_snoc]
/-- A value's bytes are few. -/
theorem lb_le {x : Z.V} (hi : Z.I64 x.i) (h : Z.may x = true) : (Z.lb x).length ≤ 1034 := by
  obtain ⟨k, i, s⟩ := x
  rcases may_kind h with rfl | rfl | rfl | rfl
  · rw [lb_else (by decide) (by decide) (by decide)]; simp
  · rw [lb_int]
    have := E.leb_ten _ (E.zig_lt i hi.1 hi.2)
    omega
  · rw [lb_float, Z.k8_length]; omega
  · have hsz := may_size h
    rw [lb_text, List.length_append, sb_length]
    have := E.leb_ten s.size (by omega)
    omega
theorem pb_le : ∀ l : List Z.V, (∀ x ∈ l, Z.I64 x.i) → (∀ x ∈ l, Z.may x = true) → (Z.pb l).length ≤ 1034 * l.length
  | [], _, _ => by simp [Z.pb]
  | x :: l, h1, h2 => by
    have a1 := lb_le (h1 x (by simp)) (h2 x (by simp))
    have a2 := pb_le l (fun y hy => h1 y (by simp [hy])) (fun y hy => h2 y (by simp [hy]))
    rw [pb_cons, List.length_append, List.length_cons]
    omega
theorem pb_take_le {l : List Z.V} (h1 : ∀ x ∈ l, Z.I64 x.i) (h2 : ∀ x ∈ l, Z.may x = true) (j : Nat) : (Z.pb (l.take j)).length ≤ 1034 * l.length := by
  have := pb_le (l.take j) (fun y hy => h1 y (List.mem_of_mem_take hy)) (fun y hy => h2 y (List.mem_of_mem_take hy))
  rw [List.length_take] at this
  omega
/-- What Bytes answers. -/
def ColBytes (l : List Z.V) (kind : Int) (w : World) (e : Ending) (w' : World) : Prop := ∃ a c, e = .returned (.tuple #[.slice a (Z.cb l kind).length c, .int .i64 (Z.chk l kind)]) ∧ Sl w' .u8 a (Z.cb l kind).length c (ints (Z.cb l kind)) ∧ Below w.heap.size w w'
theorem ColBytes.no {l : List Z.V} {kind E : Int} {w w' : World} (h : Z.chk l kind = E) (h0 : E ≠ 0) (hb : Below w.heap.size w w') : ColBytes l kind w (.returned (.tuple #[.slice none 0 0, .int .i64 E])) w' := by
  unfold ColBytes; rw [cb_bad (by rw [h]; exact h0), h]
  exact ⟨none, 0, rfl, Sl.nil _ _, hb⟩
theorem ColBytes.yes {l : List Z.V} {kind : Int} {w w' : World} {B : Nat} {v : Value} (h : Z.chk l kind = 0) (ho : w'.ownsRow B 5 1 v (Z.pb l).length (B8 (Z.pb l))) (hb : Below w.heap.size w w') : ColBytes l kind w (.returned (.tuple #[v, .int .i64 0])) w' := by
  obtain ⟨a, c, rfl, hs, _⟩ := Sl.of_bytes ho
  unfold ColBytes; rw [cb_ok h, h]
  exact ⟨a, c, rfl, hs, hb⟩

set_option maxHeartbeats 1000000 in
theorem pbytes_some (b off len cap : Nat) (l : List Z.V) (kind : Int) (w : World) (h : SlV w (some ⟨b, off, none⟩) len cap l) (hI : ∀ x ∈ l, Z.I64 x.i) (h0 : Z.chk l kind = 0) (hlt : b < w.heap.size)
    (hc : ∀ j x, l[j]? = some x → w.cell? ⟨b, off + j * 3, none⟩ = some (.int .i64 x.k) ∧ w.cell? ⟨b, off + j * 3 + 1, none⟩ = some (.int .i64 x.i) ∧ w.cell? ⟨b, off + j * 3 + 2, none⟩ = some (.string x.s)) :
    Calls Try.prog 26 #[.slice (some ⟨b, off, none⟩) len cap, .int .i64 kind] w (ColBytes l kind w) := by
  have HC := hide hc
  have HL := hide h.1
  have HI := hide hI
  have HK := hide h0
  have hm : len ≤ 4096 := by rw [← h.1]; exact (chk_zero h0).2.1
  have HM := hide (chk_zero h0).2.2.2
  have HCK := hide (check_any _ _ _ l kind w h hI)
  clear hc hI h0 h
  go_enter Try.func26, Try.ntmps26
  go_wp2_with fail
  refine HCK.out.mono ?_
  rintro e w1 ⟨rfl, hb1⟩
  rw [HK.out]
  replace hb1 := hide hb1
  clear HCK
  go_wp2_with fail
  go_loopw [7, 20] (fun v i wr => ∃ j : Nat, j ≤ len ∧ i = .int .i64 j ∧ Hid (wr.ownsRow w.heap.size 5 1 v (Z.pb (l.take j)).length (B8 (Z.pb (l.take j)))) ∧ Hid (Below w.heap.size w wr)) (fun _ i _ => len - (intOf i).toNat)
  case atStart => exact ⟨0, Nat.zero_le _, rfl, hide (World.ownsRow_nil _ _ _ _), hb1⟩
  case round =>
    obtain ⟨j, hj, rfl, hrow, hbw⟩ := hrel
    by_cases hjl : j < len
    · obtain ⟨⟨xk, xi, xs⟩, hx⟩ : ∃ x, l[j]? = some x := ⟨l[j]'(by rw [HL.out]; exact hjl), List.getElem?_eq_getElem _⟩
      obtain ⟨c1, c2, c3⟩ := HC.out j _ hx
      have d1 : wr.cell? ⟨b, off + j * 3, none⟩ = some (.int .i64 xk) := by rw [hbw.out.cell (p := ⟨b, off + j * 3, none⟩) hlt]; exact c1
      have d2 : wr.cell? ⟨b, off + j * 3 + 1, none⟩ = some (.int .i64 xi) := by rw [hbw.out.cell (p := ⟨b, off + j * 3 + 1, none⟩) hlt]; exact c2
      have d3 : wr.cell? ⟨b, off + j * 3 + 2, none⟩ = some (.string xs) := by rw [hbw.out.cell (p := ⟨b, off + j * 3 + 2, none⟩) hlt]; exact c3
      have HX := hide hx
      clear c1 c2 c3 hx
      have HXM := hide (HM.out _ (List.mem_of_getElem? HX.out))
      have HXI := hide (HI.out _ (List.mem_of_getElem? HX.out))
      have HLE := hide (pb_take_le HI.out HM.out j)
      have HLB := hide (lb_le HXI.out HXM.out)
      go_wp2_with fail
      refine (vbytes_any _ _ _ _ HXI.out).mono ?_
      rintro e w2 ⟨qa, qc, rfl, hs2, hb2⟩
      rw [bl_may HXM.out]
      rw [bl_may HXM.out] at hs2
      have hbm : Below w.heap.size w w2 := bthen (bthen hbw.out (below_one wr _)) hb2
      have hrow2 : w2.ownsRow w.heap.size 5 1 u7 (Z.pb (l.take j)).length (B8 (Z.pb (l.take j))) := owns_below (hrow.out.alloc _) hb2
      have hsz := hbm.size
      obtain ⟨m, hmm⟩ : ∃ m, (Z.lb ⟨xk, xi, xs⟩).length = m := ⟨_, rfl⟩
      rw [hmm]
      rw [hmm] at hs2
      have HMM := hide hmm
      have HBM := hide hbm
      have HS2 := hide hs2
      have HR2 := hide hrow2
      clear hmm hbm hs2 hrow2 hb2 d1 d2 d3
      go_wp2_with (at_builtin; refine wpList_app rfl _ _ rfl w.heap.size u7 (Z.pb (l.take j)) rfl HR2.out qa m qc (Z.lb ⟨xk, xi, xs⟩) rfl HS2.out ?c0 hsz (Z.pb (l.take (j + 1))) (pb_take HX.out) ?_)
      case c0 =>
        have h1 := HLE.out
        have h2 := HLB.out
        have h3 := HMM.out
        rw [HL.out] at h1
        omega
      intro v3 w3 hown has
      have hb3 : Below w.heap.size w w3 := HBM.out.trans (has.below hsz (fun k hk => (owns_lt HR2.out hk).1))
      have HB3 := hide hb3
      have HO := hide hown
      clear hb3 hown has
      go_wp2
      go_roundw
      case rel => exact ⟨j + 1, hjl, by go_num, HO, HB3⟩
      case measure => simp [intOf]; omega
    · obtain rfl : j = len := by omega
      have hll : l.take j = l := by rw [← HL.out, List.take_length]
      have HR : Hid (wr.ownsRow w.heap.size 5 1 u7 (Z.pb l).length (B8 (Z.pb l))) := by
        have := hrow.out
        rwa [hll] at this
      clear hll hrow
      go_wp2
      go_ret2
      exact ColBytes.yes HK.out HR.out hbw.out
theorem pbytes_none (ao : Option Addr) (cap : Nat) (kind : Int) (w : World) (h : SlV w ao 0 cap []) (h0 : Z.chk [] kind = 0) :
    Calls Try.prog 26 #[.slice ao 0 cap, .int .i64 kind] w (ColBytes [] kind w) := by
  have HK := hide h0
  have HCK := hide (check_any _ _ _ [] kind w h (by simp))
  clear h h0
  go_enter Try.func26, Try.ntmps26
  go_wp2_with fail
  refine HCK.out.mono ?_
  rintro e w1 ⟨rfl, hb1⟩
  rw [HK.out]
  replace hb1 := hide hb1
  clear HCK
  go_wp2_with fail
  go_rounds 1
  go_ret2
  exact ColBytes.yes (B := 0) HK.out (World.ownsRow_nil _ _ _ _) hb1.out
theorem pbytes_any (ao : Option Addr) (len cap : Nat) (l : List Z.V) (kind : Int) (w : World) (h : SlV w ao len cap l) (hI : ∀ x ∈ l, Z.I64 x.i) :
    Calls Try.prog 26 #[.slice ao len cap, .int .i64 kind] w (ColBytes l kind w) := by
  by_cases h0 : Z.chk l kind = 0
  · rcases h.2.2.2.2 with h5 | ⟨b, off, rfl, hlt, h5⟩
    · subst h5
      obtain rfl : l = [] := List.eq_nil_of_length_eq_zero h.1
      exact pbytes_none ao cap kind w h h0
    · exact pbytes_some b off len cap l kind w h hI h0 hlt h5
  · have HCK := hide (check_any _ _ _ l kind w h hI)
    obtain ⟨E, hE⟩ : ∃ E, Z.chk l kind = E := ⟨_, rfl⟩
    have HE := hide hE
    have hE0 : (E != 0) = true := by rw [← hE]; simpa using h0
    have HE0 := hide (show E ≠ 0 by rw [← hE]; exact h0)
    clear h hI hE h0
    go_enter Try.func26, Try.ntmps26
    go_wp2_with fail
    refine HCK.out.mono ?_
    rintro e w1 ⟨rfl, hb1⟩
    rw [HE.out]
    replace hb1 := hide hb1
    clear HCK
    go_wp2
    go_ret2
    exact ColBytes.no HE.out HE0.out hb1.out
end Go.Proofs.Ytmhfpipeoojacaa
/- dict.Bytes: a column's values laid down. Conditions: values whose parts are machine numbers. -/
namespace Go.Proofs.Ytmhfpipeoojacaa
set_option linter.unusedVariables false
set_option maxRecDepth 10000
open Go.RowKit
theorem owns_low {w : World} {B C : Nat} {e : TypeId} {s n : Nat} {v : Value} {xs : List Value} (h : w.ownsRow B e s v n xs) (hC : C ≤ B) : w.ownsRow C e s v n xs := owns_base h fun g hg => Nat.le_trans hC (owns_lt h hg).1
theorem concat_new (w : World) (a1 a2 a3 : Option Addr) (n1 n2 n3 c1 c2 c3 : Nat) (l1 l2 l3 : List Nat) (h1 : Sl w .u8 a1 n1 c1 (ints l1)) (h2 : Sl w .u8 a2 n2 c2 (ints l2)) (h3 : Sl w .u8 a3 n3 c3 (ints l3)) (hn : n1 + n2 + n3 ≤ 70368744177664) :
    Calls Try.prog 29 #[.slice (some ⟨w.heap.size, 0, none⟩) 3 3] (w.alloc (.cells #[.slice a1 n1 c1, .slice a2 n2 c2, .slice a3 n3 c3] 36)) fun e w' => ∃ v, e = .returned v ∧ w'.ownsRow w.heap.size 5 1 v (l1 ++ l2 ++ l3).length (B8 (l1 ++ l2 ++ l3)) ∧ Below w.heap.size w w' := by
  obtain rfl : n1 = l1.length := by rw [← h1.1, ints_length]
  obtain rfl : n2 = l2.length := by rw [← h2.1, ints_length]
  obtain rfl : n3 = l3.length := by rw [← h3.1, ints_length]
  have hb := below_one w (.cells #[.slice a1 l1.length c1, .slice a2 l2.length c2, .slice a3 l3.length c3] 36)
  refine (concat_any w.heap.size l1 l2 l3 _ ⟨by simp, ⟨a1, c1, by simp, h1.below hb⟩, ⟨a2, c2, by simp, h2.below hb⟩, ⟨a3, c3, by simp, h3.below hb⟩⟩ (by simp; omega)).mono ?_
  rintro e w' ⟨v, rfl, ho, hb2⟩
  exact ⟨v, rfl, owns_low ho (by simp), bthen hb hb2⟩
theorem chk_words {l : List Z.V} {kind : Int} (h : Z.chk l kind = 0) : Z.chk (Z.wds l) kind = 0 := by
  obtain ⟨h1, h2, h3, h4⟩ := chk_zero h
  have hm : ∀ x ∈ Z.wds l, x ∈ l := fun x hx => words_mem (words_of l) hx
  exact chk_of h1 (Nat.le_trans (wds_len l) h2) (fun x hx => h3 x (hm x hx)) (fun x hx => h4 x (hm x hx))
theorem cdL_lt (l : List Z.V) : ∀ x ∈ Z.cdL (Z.wds l) l, x < (Z.wds l).length := (cdOk_iff.1 (codes_ok l)).1
theorem pack_codes {l : List Z.V} (hl : l.length ≤ 4096) : packC (ints (Z.cdL (Z.wds l) l)) ((Z.dwd (Z.wds l).length : Nat) : Int) = 0 ∧ packB (ints (Z.cdL (Z.wds l) l)) ((Z.dwd (Z.wds l).length : Nat) : Int) = A.bytesOf (bitsAll (ints (Z.cdL (Z.wds l) l)) (Z.dwd (Z.wds l).length)) := by
  have hw := wds_len l
  have hd := dwd_le (n := (Z.wds l).length) (by omega)
  have ho : packOk (ints (Z.cdL (Z.wds l) l)) ((Z.dwd (Z.wds l).length : Nat) : Int) = true := packOk_yes (by omega) (by omega) (by rw [Int.toNat_natCast]; exact cI_fit (cdL_lt l))
  unfold packC packB
  rw [ho, if_pos rfl, if_pos rfl, Int.toNat_natCast]
  exact ⟨rfl, rfl⟩
def DictBytesAns (l : List Z.V) (kind : Int) (w : World) (e : Ending) (w' : World) : Prop := ∃ a c, e = .returned (.tuple #[.slice a (Z.dcb l kind).length c, .int .i64 (Z.chk l kind)]) ∧ Sl w' .u8 a (Z.dcb l kind).length c (ints (Z.dcb l kind)) ∧ Below w.heap.size w w'
set_option maxHeartbeats 2000000 in
theorem dbytes_ok (ao : Option Addr) (cap : Nat) (l : List Z.V) (kind : Int) (w : World) (h : SlV w ao l.length cap l) (hI : ∀ x ∈ l, Z.I64 x.i) (h0 : Z.chk l kind = 0) :
    Calls Try.prog 15 #[.slice ao l.length cap, .int .i64 kind] w (DictBytesAns l kind w) := by
  have hl : l.length ≤ 4096 := (chk_zero h0).2.1
  have hwl := wds_len l
  have HCK := hide (check_any _ _ _ l kind w h hI)
  rw [h0] at HCK
  have HS := hide h
  have HI := hide hI
  have H0 := hide h0
  clear h hI h0
  obtain ⟨len, hlen⟩ : ∃ len, l.length = len := ⟨_, rfl⟩
  rw [hlen] at hl hwl HCK HS ⊢
  have HLEN := hide hlen
  clear hlen
  go_enter Try.func15, Try.ntmps15
  go_wp2_with fail
  refine HCK.out.mono ?_
  rintro e w1 ⟨rfl, hb1⟩
  have HB1 := hide hb1
  have HWD := hide (words_some ao len cap l w1 (HS.out.below hb1) (by omega))
  clear hb1 HCK
  go_wp2_with fail
  refine HWD.out.mono ?_
  rintro e w2 ⟨wa, m, wc, rfl, hsw, _, hb2⟩
  have HB2 := hide (bthen HB1.out hb2)
  have hml : (Z.wds l).length = m := hsw.1
  have hm : m ≤ 4096 := by omega
  have HML := hide hml
  have HSW := hide hsw
  have HPB := hide (pbytes_any wa m wc (Z.wds l) kind w2 hsw (fun x hx => HI.out x (words_mem (words_of l) hx)))
  clear hsw hb2 hml HWD
  go_wp2_with fail
  refine HPB.out.mono ?_
  rintro e w3 ⟨pa, pc, rfl, hsp, hb3⟩
  rw [chk_words H0.out, cb_ok (chk_words H0.out)]
  rw [cb_ok (chk_words H0.out)] at hsp
  have HB3 := hide (bthen HB2.out hb3)
  have HSW3 := hide (HSW.out.below hb3)
  obtain ⟨pn, hpn⟩ : ∃ pn, (Z.pb (Z.wds l)).length = pn := ⟨_, rfl⟩
  rw [hpn] at hsp ⊢
  have hpl : pn ≤ 4235264 := by
    rw [← hpn]
    have := pb_le (Z.wds l) (fun x hx => HI.out x (words_mem (words_of l) hx)) (chk_zero (chk_words H0.out)).2.2.2
    have h2 := HML.out
    omega
  have HSP := hide hsp
  have HCD : Hid (Calls Try.prog 10 #[.slice wa m wc, .slice ao len cap] w3 (CodesAns w3 (Z.wds l) l)) := by
    have h1 := HSW3.out
    have h2 := HS.out.below HB3.out
    rw [← HML.out] at h1 ⊢
    rw [← HLEN.out] at h2 ⊢
    exact codes_any wa wc (Z.wds l) ao cap l w3 h1 h2 (by rw [HML.out]; omega) (by rw [HLEN.out]; omega)
  clear hsp hb3 hpn HPB HSW
  go_wp2_with fail
  refine HCD.out.mono ?_
  rintro e w4 ⟨ca, cn, cc, rfl, hsc, hb4⟩
  rw [words_cdE l]
  have HB4 := hide (bthen HB3.out hb4)
  have HSP4 := hide (HSP.out.below hb4)
  obtain rfl : cn = len := by rw [← hsc.1, ints_length, cdL_ok (words_cdE l), List.length_map, HLEN.out]
  have HSC := hide hsc
  have HDW := hide (dwidth_any wa m wc w4 (by omega))
  clear hsc hb4 HCD HSP
  go_wp2_with fail
  refine HDW.out.mono ?_
  rintro e w5 ⟨rfl, hb5⟩
  have HB5 := hide (bthen HB4.out hb5)
  have HSP5 := hide (HSP4.out.below hb5)
  have hin : In64 (ints (Z.cdL (Z.wds l) l)) := cI_in (m := m) hm (by rw [← HML.out]; exact cdL_lt l)
  have HPK := hide (pack_u ca cn cc (ints (Z.cdL (Z.wds l) l)) ((Z.dwd m : Nat) : Int) w5 (HSC.out.below hb5) (by omega) hin)
  have hpc : packC (ints (Z.cdL (Z.wds l) l)) ((Z.dwd m : Nat) : Int) = 0 ∧ packB (ints (Z.cdL (Z.wds l) l)) ((Z.dwd m : Nat) : Int) = A.bytesOf (bitsAll (ints (Z.cdL (Z.wds l) l)) (Z.dwd m)) := by
    have := pack_codes (l := l) (by rw [HLEN.out]; exact hl)
    rwa [HML.out] at this
  have hpl2 := packB_le (ints (Z.cdL (Z.wds l) l)) ((Z.dwd m : Nat) : Int)
  rw [HSC.out.1] at hpl2
  rw [hpc.1] at HPK
  have HPC := hide hpc.2
  obtain ⟨dw, hdw⟩ : ∃ dw, Z.dwd m = dw := ⟨_, rfl⟩
  have HDD := hide hdw
  rw [hdw] at HPK hpl2 ⊢
  have HPL := hide hpl2
  clear hb5 hin hpc hdw HDW HSC HSP4 hpl2
  go_wp2_with fail
  refine HPK.out.mono ?_
  rintro e w6 ⟨v6, rfl, ho6, hb6⟩
  have HB6 := hide (bthen HB5.out hb6)
  have HSP6 := hide (HSP5.out.below hb6)
  obtain ⟨qa, qc, hv6, hs6, _⟩ := Sl.of_bytes ho6
  obtain ⟨qn, hqn⟩ : ∃ qn, (packB (ints (Z.cdL (Z.wds l) l)) (dw : Int)).length = qn := ⟨_, rfl⟩
  have hpl2 := HPL.out
  rw [hqn] at hv6 hs6 hpl2
  clear HPL
  subst hv6
  have HS6 := hide hs6
  have HPU := hide (put_any (m : Int) w6 (by omega) (by omega))
  have eM : IntKind.u64.wrap (m : Int) = (m : Int) := by rw [u64_wrap]; omega
  clear ho6 hs6 hqn hb6 HPK HSP5
  go_wp2_with fail
  refine HPU.out.mono ?_
  rintro e w7 ⟨v7, rfl, ho7, hb7⟩
  rw [Int.toNat_natCast] at ho7
  have HB7 := hide (bthen HB6.out hb7)
  obtain ⟨ra, rc, hv7, hs7, _⟩ := Sl.of_bytes ho7
  obtain ⟨rn, hrn⟩ : ∃ rn, (E.leb m).length = rn := ⟨_, rfl⟩
  have hr10 := E.leb_ten m (by omega)
  rw [hrn] at hv7 hs7 hr10
  subst hv7
  have HCC := hide (concat_new w7 ra pa qa rn pn qn rc pc qc (E.leb m) (Z.pb (Z.wds l)) _ hs7 (HSP6.out.below hb7) (HS6.out.below hb7) (by omega))
  clear ho7 hs7 hrn hb7 HPU HS6 HSP6
  go_wp2_with fail
  refine HCC.out.mono ?_
  rintro e w8 ⟨v8, rfl, ho8, hb8⟩
  have hdb : Z.dcb l kind = E.leb m ++ Z.pb (Z.wds l) ++ packB (ints (Z.cdL (Z.wds l) l)) (dw : Int) := by
    rw [dcb_ok H0.out]
    unfold Z.db
    rw [HML.out, HDD.out, List.append_assoc, ← HDD.out, HPC.out]
  rw [← hdb] at ho8
  obtain ⟨xa, xc, hv8, hs8, _⟩ := Sl.of_bytes ho8
  have FIN : Hid (DictBytesAns l kind w (.returned (.tuple #[v8, .int .i64 0])) w8) := ⟨xa, xc, by rw [hv8, H0.out], hs8, bthen HB7.out hb8⟩
  clear ho8 hs8 hv8 hdb hb8 HCC
  go_wp2
  go_ret2
  exact FIN.out
theorem dbytes_any (ao : Option Addr) (len cap : Nat) (l : List Z.V) (kind : Int) (w : World) (h : SlV w ao len cap l) (hI : ∀ x ∈ l, Z.I64 x.i) :
    Calls Try.prog 15 #[.slice ao len cap, .int .i64 kind] w (DictBytesAns l kind w) := by
  obtain rfl : len = l.length := h.1.symm
  by_cases h0 : Z.chk l kind = 0
  · exact dbytes_ok ao cap l kind w h hI h0
  · have HCK := hide (check_any _ _ _ l kind w h hI)
    obtain ⟨E, hE⟩ : ∃ E, Z.chk l kind = E := ⟨_, rfl⟩
    have hE0 : (E != 0) = true := by rw [← hE]; simpa using h0
    have FIN : Hid (∀ w', Below w.heap.size w w' → DictBytesAns l kind w (.returned (.tuple #[.slice none 0 0, .int .i64 E])) w') := fun w' hb => by
      unfold DictBytesAns; rw [dcb_bad h0, hE]
      exact ⟨none, 0, rfl, Sl.nil _ _, hb⟩
    rw [hE] at HCK
    clear h hI hE h0
    go_enter Try.func15, Try.ntmps15
    go_wp2_with fail
    refine HCK.out.mono ?_
    rintro e w1 ⟨rfl, hb1⟩
    replace hb1 := hide hb1
    clear HCK
    go_wp2
    go_ret2
    exact FIN.out _ hb1.out
end Go.Proofs.Ytmhfpipeoojacaa
/- dict.areJustPlaces: are codes places below n, and each of these a code? Conditions: fewer than 2^40 codes. -/
namespace Go.Proofs.Ytmhfpipeoojacaa
set_option linter.unusedVariables false
set_option maxRecDepth 10000
open Go.RowKit Go.Maps
theorem sub_len : ∀ {a b : List Nat}, a.Nodup → (∀ x ∈ a, x ∈ b) → a.length ≤ b.length
  | [], b, _, _ => Nat.zero_le _
  | x :: a, b, h, hs => by
    obtain ⟨hx, ha⟩ := List.nodup_cons.1 h
    have hxb := hs x (by simp)
    have := sub_len (b := b.erase x) ha fun y hy => (List.mem_erase_of_ne (fun e => by subst e; exact hx hy)).2 (hs y (by simp [hy]))
    rw [List.length_erase_of_mem hxb] at this
    have hp := List.length_pos_of_mem hxb
    simp only [List.length_cons]
    omega
/-- So many unlike codes, all of them places, are all places. -/
theorem just_iff {ks c : List Nat} {n : Nat} (hn : ks.Nodup) (hm : ∀ x, x ∈ ks ↔ x ∈ c) (hl : ∀ x ∈ ks, x < n) : ((ks.length : Int) == (n : Int)) = Z.cdOk n c := by
  have h1 : ks.length ≤ n := by
    have := sub_len (b := List.range n) hn fun x hx => List.mem_range.2 (hl x hx)
    simpa using this
  rw [Bool.eq_iff_iff, cdOk_iff, beq_iff_eq]
  constructor
  · intro h
    refine ⟨fun x hx => hl x ((hm x).2 hx), fun j hj => ?_⟩
    rw [← hm j]
    by_cases hjk : j ∈ ks
    · exact hjk
    · have := sub_len (a := j :: ks) (b := List.range n) (List.nodup_cons.2 ⟨hjk, hn⟩) fun x hx => by
        rcases List.mem_cons.1 hx with rfl | hx
        · exact List.mem_range.2 hj
        · exact List.mem_range.2 (hl x hx)
      simp at this
      omega
  · rintro ⟨_, h2⟩
    have := sub_len (a := List.range n) (b := ks) List.nodup_range fun x hx => (hm x).2 (h2 x (List.mem_range.1 hx))
    simp at this
    omega
/-- A map whose keys are these numbers. -/
structure MapOf (D : DataW Nat) (ks : List Nat) : Prop where
  tidy : Maps.Tidy D
  nod : ks.Nodup
  has : ∀ x : Nat, Maps.has D (.int .u64 (x : Int)) = decide (x ∈ ks)
  size : Maps.size D = ks.length
theorem MapOf.put {D : DataW Nat} {ks : List Nat} (h : MapOf D ks) (x : Nat) (hk : WideAt.IsKeyLit (.int .u64 (x : Int))) (d : DataW Nat) : ∃ ls, MapOf (D.put (.int .u64 (x : Int)) d) ls ∧ ∀ y, y ∈ ls ↔ (y ∈ ks ∨ y = x) := by
  have hh : ∀ y : Nat, Maps.has (D.put (.int .u64 (x : Int)) d) (.int .u64 (y : Int)) = (decide (y ∈ ks) || decide (y = x)) := fun y => by
    by_cases hy : y = x
    · subst hy; rw [Maps.has_put_same h.tidy.isMap hk]; simp
    · rw [Maps.has_put_other (fun e => hy (by injection e with _ e; omega)), h.has]; simp [hy]
  have hz := Maps.size_put (k := .int .u64 (x : Int)) h.tidy d
  by_cases hx : x ∈ ks
  · refine ⟨ks, ⟨h.tidy.put hk d, h.nod, fun y => ?_, ?_⟩, fun y => ?_⟩
    · rw [hh y]
      by_cases hy : y = x
      · subst hy; simp [hx]
      · simp [hy]
    · rw [hz, h.has, decide_eq_true hx, if_pos rfl, h.size]
    · constructor
      · exact .inl
      · rintro (hy | rfl)
        · exact hy
        · exact hx
  · refine ⟨x :: ks, ⟨h.tidy.put hk d, List.nodup_cons.2 ⟨hx, h.nod⟩, fun y => ?_, ?_⟩, fun y => ?_⟩
    · rw [hh y, Bool.eq_iff_iff]; simp [or_comm]
    · rw [hz, h.has, decide_eq_false hx, if_neg (by decide), h.size]; rfl
    · rw [List.mem_cons, or_comm]
theorem mapOf_nil : MapOf (.map []) [] := ⟨Maps.tidy_empty, List.nodup_nil, fun x => by simp [Maps.has_eq], rfl⟩
theorem lawU64 : Keyed Try.prog 44 := int_keyed Try.underlying44
theorem zeroInt (w : World) : (zeroValue 3).run Try.prog w = .ok (.int .i64 0) w := by kernel_rfl
set_option maxHeartbeats 1000000 in
theorem djust_any (ao : Option Addr) (len cap : Nat) (c : List Nat) (n : Nat) (w : World) (h : Sl w .u64 ao len cap (ints c)) (h64 : ∀ x ∈ c, x < 18446744073709551616) (hl : len ≤ 1099511627776) (hn : n ≤ 1099511627776) :
    Calls Try.prog 59 #[.slice ao len cap, .int .i64 (n : Int)] w fun e w' => e = .returned (.bool (Z.cdOk n c)) ∧ Below w.heap.size w w' := by
  have hmm := @run_makeMap Try.prog
  have hlc : c.length = len := by rw [← h.1, ints_length]
  have HL := hide hlc
  have HS := hide h
  have H64 := hide h64
  have e1 : IntKind.u64.wrap (n : Int) = (n : Int) := by rw [u64_wrap]; omega
  clear h h64 hlc
  go_enter Try.func59, Try.ntmps59
  go_wp2_with fail
  go_loopw [12] (fun i wr => ∃ (j : Nat) (D : DataW Nat) (ks : List Nat), j ≤ len ∧ i = .int .i64 j ∧ Hid (wr.ownsMap Try.prog 44 (plainElem Try.prog 3) w.heap.size j D) ∧ Hid (MapOf D ks) ∧ Hid (∀ x, x ∈ ks ↔ x ∈ c.take j) ∧ Hid (Below w.heap.size w wr)) (fun i _ => len - (intOf i).toNat)
  case atStart => exact ⟨0, _, [], Nat.zero_le _, rfl, World.ownsMap_made _ _ _ _, mapOf_nil, hide (by simp), (Below.refl _ _).alloc (Nat.le_refl _) _⟩
  case round =>
    obtain ⟨j, D, ks, hj, rfl, HO, HM, HK, HB⟩ := hrel
    by_cases hjl : j < len
    · obtain ⟨b, off, rfl, hlt, d0⟩ := HS.out.at hjl
      obtain ⟨x, hx⟩ : ∃ x, c[j]? = some x := ⟨c[j]'(by rw [HL.out]; exact hjl), List.getElem?_eq_getElem _⟩
      have hxg : (ints c).getD j 0 = (x : Int) := by rw [ints_getD, List.getD_eq_getElem?_getD, hx]; rfl
      rw [hxg] at d0
      have d1 : wr.cell? ⟨b, off + j, none⟩ = some (.int .u64 (x : Int)) := by rw [HB.out.cell (p := ⟨b, off + j, none⟩) hlt]; exact d0
      have hx64 := H64.out x (List.mem_of_getElem? hx)
      have hkey : keyOf Try.prog 44 (.int .u64 (x : Int)) = some (.int .u64 (x : Int)) := keyOf_int_mk Try.underlying44 (WalkArith.wf_u64 (by omega))
      have HKEY := hide hkey
      have HX := hide hx
      have hsz := HB.out.size
      clear d0 hxg hx hx64 hkey
      go_wp2_with (first
        | (at_lookup; refine wpList_lookup_own_int _ rfl _ _ 107 rfl 44 3 .i64 lawU64 Try.underlying107 Try.underlying3 (zeroInt _) w.heap.size j _ rfl HO.out _ _ rfl HKEY.out ?_; intro q hat hwc)
        | (at_mapUpdate; refine wpList_mapUpdate_own _ rfl _ _ _ 107 rfl 44 3 lawU64 Try.underlying107 _ w.heap.size j _ rfl HO.out (by unfold maxLen; omega) _ _ _ rfl rfl HKEY.out _ [] (plainElem_int Try.underlying3 (wrap64_wf _)) ?_; intro w1 hown1 hgrow1)
        | go_in)
      obtain ⟨ls, hM2, hmem⟩ := HM.out.put x (lawU64.key HKEY.out) (DataW.lit (Lit.int .i64 (wrap64 (q + 1))))
      have HK2 : Hid (∀ y, y ∈ ls ↔ y ∈ c.take (j + 1)) := fun y => by rw [hmem, HK.out, List.take_add_one, HX.out]; simp
      have HB2 := hide (HB.out.grown hgrow1 hsz (fun j hj => by cases hj; exact Nat.le_refl _))
      go_roundw
      case rel => exact ⟨j + 1, _, ls, by omega, by go_num, hown1, hM2, HK2, HB2⟩
      case measure => simp [intOf]; omega
    · obtain rfl : j = len := by omega
      have HK2 : Hid (∀ x, x ∈ ks ↔ x ∈ c) := fun x => by rw [HK.out, ← HL.out, List.take_length]
      have hlow := HB.out.size
      clear HK
      go_wp2_with (first
        | (at_range; refine wpList_range_own _ rfl _ 107 rfl 44 3 lawU64 Try.underlying107 _ w.heap.size j _ rfl HO.out ?_; intro w0 hrg0 hg0 hs0)
        | go_in)
      go_frame
      have HB0 := hide (HB.out.grown hg0 hlow (fun j hj => by cases hj))
      obtain ⟨r, hr⟩ : ∃ r, wr.heap.size = r := ⟨_, rfl⟩
      rw [hr] at hrg0 ⊢
      have HG0 := hide hrg0
      have hrl : w.heap.size ≤ r := by omega
      clear hg0 hs0 hrg0
      have HSTART : Hid (∀ x ∈ ks, Maps.has D (.int .u64 (x : Int)) = false → x < n) := fun x hx h => by rw [HM.out.has, decide_eq_true hx] at h; cases h
      go_loopw [8] (fun _ w2 => ∃ (left : Lit → Bool) (cnt : Nat), Hid (w2.ranges Try.prog 44 (plainElem Try.prog 3) w.heap.size r j D left cnt) ∧ Hid (∀ x ∈ ks, left (.int .u64 (x : Int)) = false → x < n) ∧ Hid (Below w.heap.size w w2)) (fun _ w2 => w2.rangeLeft w.heap.size r)
      case atStart => exact ⟨_, _, HG0, HSTART, HB0⟩
      case round =>
        obtain ⟨left, cnt, HRG, HLF, HBW⟩ := hrel
        go_wp2_with (first
          | (at_next; refine wpList_next_ranges_ii _ rfl _ rfl 44 3 .u64 .i64 lawU64 Try.underlying44 Try.underlying3 w.heap.size r j D left cnt rfl HRG.out ?_ ?_)
          | go_in)
        · intro _ hl0
          have HOW := hide HRG.out.owns
          have HRES := hide (just_iff HM.out.nod HK2.out fun x hx => HLF.out x hx (hl0 _))
          have HSZ := hide HM.out.size
          clear hl0 HRG HLF
          go_wp2_with (first
            | (at_len; refine wpList_len_own _ rfl _ 107 rfl 44 3 Try.underlying107 _ w.heap.size j D rfl HOW.out ?_)
            | go_in)
          go_ret
          exact ⟨by rw [← HRES.out, ← HSZ.out]; rfl, HBW.out⟩
        · intro x q2 w3 cnt1 hwx hwq hlx hat hrg1 hlt1 hg1 hs1 hen
          obtain ⟨hx0, hx1⟩ := wf_u64 hwx
          obtain ⟨y, rfl⟩ := Int.eq_ofNat_of_zero_le hx0
          have hyk : y ∈ ks := by
            have h1 := Maps.has_true_of_atKey hat
            rw [HM.out.has] at h1
            exact of_decide_eq_true h1
          have HB3 := hide (HBW.out.grown hg1 HBW.out.size (fun k hk => by cases hk; exact hrl))
          have HRG1 := hide hrg1
          have HLT := hide hlt1
          by_cases hyn : y < n
          · have HY := hide hyn
            have hyn2 : ¬ n ≤ y := by omega
            clear hwx hwq hlx hat hrg1 hg1 hs1 hlt1 hx0 hx1
            go_wp2
            go_roundw
            case rel =>
              refine ⟨_, cnt1, HRG1, hide (fun z hz h => ?_), HB3⟩
              by_cases hzy : z = y
              · subst hzy; exact HY.out
              · refine HLF.out z hz ?_
                rw [Maps.sameKey_ne (fun e => hzy (by injection e with _ e; omega))] at h
                simpa using h
            case measure => rw [HRG1.out.left_eq, HRG.out.left_eq]; exact HLT.out
          · have hyn2 : n ≤ y := by omega
            have hno : Z.cdOk n c = false := by
              cases hq : Z.cdOk n c with
              | false => rfl
              | true => exact absurd ((cdOk_iff.1 hq).1 y ((HK2.out y).1 hyk)) hyn
            have HNO := hide hno
            clear hwx hwq hlx hat hrg1 hg1 hs1 hlt1 hx0 hx1 hno
            go_wp2
            go_ret
            exact ⟨by rw [HNO.out]; rfl, HB3.out⟩
end Go.Proofs.Ytmhfpipeoojacaa
/- The document's answer for null: Split. -/
namespace Go.Proofs.Ytmhfpipeoojacaa
set_option linter.unusedVariables false
open Go.RowKit

/-- One value, in new memory. -/
theorem slV_one (w : World) (k i : Int) (s : ByteArray) : SlV (w.alloc (.cells #[.int .i64 k, .int .i64 i, .string s] 24)) (some ⟨w.heap.size, 0, none⟩) 1 1 [⟨k, i, s⟩] := by
  refine ⟨rfl, Nat.le_refl _, by decide, by simp, .inr ⟨w.heap.size, 0, rfl, by simp, fun j x hx => ?_⟩⟩
  match j, hx with
  | 0, hx => simp at hx; subst hx; simp
/-- A row stays, whatever is appended to a row of another kind. -/
theorem keep_kind {w w' : World} {B B' s s' n n' : Nat} {e e' : TypeId} {v u : Value} {xs ys : List Value} (h : w.ownsRow B e s v n xs) (hu : w.ownsRow B' e' s' u n' ys) (hne : e ≠ e') (hk : Kept (fun k => u.ownBlock = some k) w w') : w'.ownsRow B e s v n xs :=
  owns_of_block h fun g hg => hk.block g (owns_lt h hg).2 (fun e => owns_ne h hu hne hg e)
theorem nus_snoc {l : List Z.V} {j : Nat} {x : Z.V} (h : l[j]? = some x) : nus (l.take (j + 1)) = nus (l.take j) ++ [x.k == 0] := by
  rw [take_snocV h]; simp [nus]
theorem oth_yes {l : List Z.V} {j : Nat} {x : Z.V} (h : l[j]? = some x) (hk : (x.k == 0) = true) : oth (l.take (j + 1)) = oth (l.take j) := by
  rw [take_snocV h]; simp [oth, hk]
theorem oth_no {l : List Z.V} {j : Nat} {x : Z.V} (h : l[j]? = some x) (hk : (x.k == 0) = false) : oth (l.take (j + 1)) = oth (l.take j) ++ [x] := by
  rw [take_snocV h]; simp [oth, hk]
theorem oth_le (l : List Z.V) (j : Nat) : (oth (l.take j)).length ≤ j := by
  unfold oth
  exact Nat.le_trans (List.length_filter_le _ _) (by rw [List.length_take]; omega)

end Go.Proofs.Ytmhfpipeoojacaa

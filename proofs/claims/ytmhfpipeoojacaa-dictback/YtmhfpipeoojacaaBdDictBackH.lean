/- dict.Bytes: a column's values laid down. Conditions: values whose parts are machine numbers. -/
import Derived.Test.YtmhfpipeoojacaaBdDictBackE
import Derived.Test.YtmhfpipeoojacaaBdDictBackG
import Derived.Test.YtmhfpipeoojacaaBdZB
import Derived.Test.YtmhfpipeoojacaaBdDictBackF
import Derived.Test.YtmhfpipeoojacaaBdDictBackB
import Derived.Test.YtmhfpipeoojacaaBdD
import Derived.Test.YtmhfpipeoojacaaBdY
import Derived.Test.YtmhfpipeoojacaaBdDictBackD
import Derived.Test.YtmhfpipeoojacaaBdZC
namespace Go.Proofs.Ytmhfpipeoojacaa
set_option linter.unusedVariables false
set_option maxRecDepth 10000
open Go.RowKit
theorem owns_low {w : World} {B C : Nat} {e : TypeId} {s n : Nat} {v : Value} {xs : List Value} (h : w.ownsRow B e s v n xs) (hC : C ≤ B) : w.ownsRow C e s v n xs := owns_base h fun g hg => Nat.le_trans hC (owns_lt h hg).1
theorem concat_new (w : World) (a1 a2 a3 : Option Addr) (n1 n2 n3 c1 c2 c3 : Nat) (l1 l2 l3 : List Nat) (h1 : Sl w .u8 a1 n1 c1 (ints l1)) (h2 : Sl w .u8 a2 n2 c2 (ints l2)) (h3 : Sl w .u8 a3 n3 c3 (ints l3)) (hn : n1 + n2 + n3 ≤ 70368744177664) :
    Calls Try.prog 29 #[.slice (some ⟨w.heap.size, 0, none⟩) 3 3] (w.alloc (.cells #[.slice a1 n1 c1, .slice a2 n2 c2, .slice a3 n3 c3] 36)) fun e w' => ∃ v, e = .returned v ∧ w'.ownsRow w.heap.size 5 1 v (l1 ++ l2 ++ l3).length (B8 (l1 ++ l2 ++ l3)) ∧ Below w.heap.size w w' := by
  obtain rfl : n1 = l1.length := by rw [← h1.1, ints_length]
  obtain rfl : n2 = l2.length := by rw [← h2.1, ints_length]
  obtain rfl : n3 = l3.length := by rw [← h3.1, ints_length]
  have hb := below_one w (.cells #[.slice a1 l1.length c1, .slice a2 l2.length c2, .slice a3 l3.length c3] 36)
  refine (concat_any w.heap.size l1 l2 l3 _ ⟨by simp, ⟨a1, c1, by simp, h1.below hb⟩, ⟨a2, c2, by simp, h2.below hb⟩, ⟨a3, c3, by simp, h3.below hb⟩⟩ (by simp; omega)).mono ?_
  rintro e w' ⟨v, rfl, ho, hb2⟩
  exact ⟨v, rfl, owns_low ho (by simp), bthen hb hb2⟩
theorem chk_words {l : List Z.V} {kind : Int} (h : Z.chk l kind = 0) : Z.chk (Z.wds l) kind = 0 := by
  obtain ⟨h1, h2, h3, h4⟩ := chk_zero h
  have hm : ∀ x ∈ Z.wds l, x ∈ l := fun x hx => words_mem (words_of l) hx
  exact chk_of h1 (Nat.le_trans (wds_len l) h2) (fun x hx => h3 x (hm x hx)) (fun x hx => h4 x (hm x hx))
theorem cdL_lt (l : List Z.V) : ∀ x ∈ Z.cdL (Z.wds l) l, x < (Z.wds l).length := (cdOk_iff.1 (codes_ok l)).1
theorem pack_codes {l : List Z.V} (hl : l.length ≤ 4096) : packC (ints (Z.cdL (Z.wds l) l)) ((Z.dwd (Z.wds l).length : Nat) : Int) = 0 ∧ packB (ints (Z.cdL (Z.wds l) l)) ((Z.dwd (Z.wds l).length : Nat) : Int) = A.bytesOf (bitsAll (ints (Z.cdL (Z.wds l) l)) (Z.dwd (Z.wds l).length)) := by
  have hw := wds_len l
  have hd := dwd_le (n := (Z.wds l).length) (by omega)
  have ho : packOk (ints (Z.cdL (Z.wds l) l)) ((Z.dwd (Z.wds l).length : Nat) : Int) = true := packOk_yes (by omega) (by omega) (by rw [Int.toNat_natCast]; exact cI_fit (cdL_lt l))
  unfold packC packB
  rw [ho, if_pos rfl, if_pos rfl, Int.toNat_natCast]
  exact ⟨rfl, rfl⟩
def DictBytesAns (l : List Z.V) (kind : Int) (w : World) (e : Ending) (w' : World) : Prop := ∃ a c, e = .returned (.tuple #[.slice a (Z.dcb l kind).length c, .int .i64 (Z.chk l kind)]) ∧ Sl w' .u8 a (Z.dcb l kind).length c (ints (Z.dcb l kind)) ∧ Below w.heap.size w w'
set_option maxHeartbeats 2000000 in
theorem dbytes_ok (ao : Option Addr) (cap : Nat) (l : List Z.V) (kind : Int) (w : World) (h : SlV w ao l.length cap l) (hI : ∀ x ∈ l, Z.I64 x.i) (h0 : Z.chk l kind = 0) :
    Calls Try.prog 15 #[.slice ao l.length cap, .int .i64 kind] w (DictBytesAns l kind w) := by
  have hl : l.length ≤ 4096 := (chk_zero h0).2.1
  have hwl := wds_len l
  have HCK := hide (check_any _ _ _ l kind w h hI)
  rw [h0] at HCK
  have HS := hide h
  have HI := hide hI
  have H0 := hide h0
  clear h hI h0
  obtain ⟨len, hlen⟩ : ∃ len, l.length = len := ⟨_, rfl⟩
  rw [hlen] at hl hwl HCK HS ⊢
  have HLEN := hide hlen
  clear hlen
  go_enter Try.func15, Try.ntmps15
  go_wp2_with fail
  refine HCK.out.mono ?_
  rintro e w1 ⟨rfl, hb1⟩
  have HB1 := hide hb1
  have HWD := hide (words_some ao len cap l w1 (HS.out.below hb1) (by omega))
  clear hb1 HCK
  go_wp2_with fail
  refine HWD.out.mono ?_
  rintro e w2 ⟨wa, m, wc, rfl, hsw, _, hb2⟩
  have HB2 := hide (bthen HB1.out hb2)
  have hml : (Z.wds l).length = m := hsw.1
  have hm : m ≤ 4096 := by omega
  have HML := hide hml
  have HSW := hide hsw
  have HPB := hide (pbytes_any wa m wc (Z.wds l) kind w2 hsw (fun x hx => HI.out x (words_mem (words_of l) hx)))
  clear hsw hb2 hml HWD
  go_wp2_with fail
  refine HPB.out.mono ?_
  rintro e w3 ⟨pa, pc, rfl, hsp, hb3⟩
  rw [chk_words H0.out, cb_ok (chk_words H0.out)]
  rw [cb_ok (chk_words H0.out)] at hsp
  have HB3 := hide (bthen HB2.out hb3)
  have HSW3 := hide (HSW.out.below hb3)
  obtain ⟨pn, hpn⟩ : ∃ pn, (Z.pb (Z.wds l)).length = pn := ⟨_, rfl⟩
  rw [hpn] at hsp ⊢
  have hpl : pn ≤ 4235264 := by
    rw [← hpn]
    have := pb_le (Z.wds l) (fun x hx => HI.out x (words_mem (words_of l) hx)) (chk_zero (chk_words H0.out)).2.2.2
    have h2 := HML.out
    omega
  have HSP := hide hsp
  have HCD : Hid (Calls Try.prog 10 #[.slice wa m wc, .slice ao len cap] w3 (CodesAns w3 (Z.wds l) l)) := by
    have h1 := HSW3.out
    have h2 := HS.out.below HB3.out
    rw [← HML.out] at h1 ⊢
    rw [← HLEN.out] at h2 ⊢
    exact codes_any wa wc (Z.wds l) ao cap l w3 h1 h2 (by rw [HML.out]; omega) (by rw [HLEN.out]; omega)
  clear hsp hb3 hpn HPB HSW
  go_wp2_with fail
  refine HCD.out.mono ?_
  rintro e w4 ⟨ca, cn, cc, rfl, hsc, hb4⟩
  rw [words_cdE l]
  have HB4 := hide (bthen HB3.out hb4)
  have HSP4 := hide (HSP.out.below hb4)
  obtain rfl : cn = len := by rw [← hsc.1, ints_length, cdL_ok (words_cdE l), List.length_map, HLEN.out]
  have HSC := hide hsc
  have HDW := hide (dwidth_any wa m wc w4 (by omega))
  clear hsc hb4 HCD HSP
  go_wp2_with fail
  refine HDW.out.mono ?_
  rintro e w5 ⟨rfl, hb5⟩
  have HB5 := hide (bthen HB4.out hb5)
  have HSP5 := hide (HSP4.out.below hb5)
  have hin : In64 (ints (Z.cdL (Z.wds l) l)) := cI_in (m := m) hm (by rw [← HML.out]; exact cdL_lt l)
  have HPK := hide (pack_u ca cn cc (ints (Z.cdL (Z.wds l) l)) ((Z.dwd m : Nat) : Int) w5 (HSC.out.below hb5) (by omega) hin)
  have hpc : packC (ints (Z.cdL (Z.wds l) l)) ((Z.dwd m : Nat) : Int) = 0 ∧ packB (ints (Z.cdL (Z.wds l) l)) ((Z.dwd m : Nat) : Int) = A.bytesOf (bitsAll (ints (Z.cdL (Z.wds l) l)) (Z.dwd m)) := by
    have := pack_codes (l := l) (by rw [HLEN.out]; exact hl)
    rwa [HML.out] at this
  have hpl2 := packB_le (ints (Z.cdL (Z.wds l) l)) ((Z.dwd m : Nat) : Int)
  rw [HSC.out.1] at hpl2
  rw [hpc.1] at HPK
  have HPC := hide hpc.2
  obtain ⟨dw, hdw⟩ : ∃ dw, Z.dwd m = dw := ⟨_, rfl⟩
  have HDD := hide hdw
  rw [hdw] at HPK hpl2 ⊢
  have HPL := hide hpl2
  clear hb5 hin hpc hdw HDW HSC HSP4 hpl2
  go_wp2_with fail
  refine HPK.out.mono ?_
  rintro e w6 ⟨v6, rfl, ho6, hb6⟩
  have HB6 := hide (bthen HB5.out hb6)
  have HSP6 := hide (HSP5.out.below hb6)
  obtain ⟨qa, qc, hv6, hs6, _⟩ := Sl.of_bytes ho6
  obtain ⟨qn, hqn⟩ : ∃ qn, (packB (ints (Z.cdL (Z.wds l) l)) (dw : Int)).length = qn := ⟨_, rfl⟩
  have hpl2 := HPL.out
  rw [hqn] at hv6 hs6 hpl2
  clear HPL
  subst hv6
  have HS6 := hide hs6
  have HPU := hide (put_any (m : Int) w6 (by omega) (by omega))
  have eM : IntKind.u64.wrap (m : Int) = (m : Int) := by rw [u64_wrap]; omega
  clear ho6 hs6 hqn hb6 HPK HSP5
  go_wp2_with fail
  refine HPU.out.mono ?_
  rintro e w7 ⟨v7, rfl, ho7, hb7⟩
  rw [Int.toNat_natCast] at ho7
  have HB7 := hide (bthen HB6.out hb7)
  obtain ⟨ra, rc, hv7, hs7, _⟩ := Sl.of_bytes ho7
  obtain ⟨rn, hrn⟩ : ∃ rn, (E.leb m).length = rn := ⟨_, rfl⟩
  have hr10 := E.leb_ten m (by omega)
  rw [hrn] at hv7 hs7 hr10
  subst hv7
  have HCC := hide (concat_new w7 ra pa qa rn pn qn rc pc qc (E.leb m) (Z.pb (Z.wds l)) _ hs7 (HSP6.out.below hb7) (HS6.out.below hb7) (by omega))
  clear ho7 hs7 hrn hb7 HPU HS6 HSP6
  go_wp2_with fail
  refine HCC.out.mono ?_
  rintro e w8 ⟨v8, rfl, ho8, hb8⟩
  have hdb : Z.dcb l kind = E.leb m ++ Z.pb (Z.wds l) ++ packB (ints (Z.cdL (Z.wds l) l)) (dw : Int) := by
    rw [dcb_ok H0.out]
    unfold Z.db
    rw [HML.out, HDD.out, List.append_assoc, ← HDD.out, HPC.out]
  rw [← hdb] at ho8
  obtain ⟨xa, xc, hv8, hs8, _⟩ := Sl.of_bytes ho8
  have FIN : Hid (DictBytesAns l kind w (.returned (.tuple #[v8, .int .i64 0])) w8) := ⟨xa, xc, by rw [hv8, H0.out], hs8, bthen HB7.out hb8⟩
  clear ho8 hs8 hv8 hdb hb8 HCC
  go_wp2
  go_ret2
  exact FIN.out
theorem dbytes_any (ao : Option Addr) (len cap : Nat) (l : List Z.V) (kind : Int) (w : World) (h : SlV w ao len cap l) (hI : ∀ x ∈ l, Z.I64 x.i) :
    Calls Try.prog 15 #[.slice ao len cap, .int .i64 kind] w (DictBytesAns l kind w) := by
  obtain rfl : len = l.length := h.1.symm
  by_cases h0 : Z.chk l kind = 0
  · exact dbytes_ok ao cap l kind w h hI h0
  · have HCK := hide (check_any _ _ _ l kind w h hI)
    obtain ⟨E, hE⟩ : ∃ E, Z.chk l kind = E := ⟨_, rfl⟩
    have hE0 : (E != 0) = true := by rw [← hE]; simpa using h0
    have FIN : Hid (∀ w', Below w.heap.size w w' → DictBytesAns l kind w (.returned (.tuple #[.slice none 0 0, .int .i64 E])) w') := fun w' hb => by
      unfold DictBytesAns; rw [dcb_bad h0, hE]
      exact ⟨none, 0, rfl, Sl.nil _ _, hb⟩
    rw [hE] at HCK
    clear h hI hE h0
    go_enter Try.func15, Try.ntmps15
    go_wp2_with fail
    refine HCK.out.mono ?_
    rintro e w1 ⟨rfl, hb1⟩
    replace hb1 := hide hb1
    clear HCK
    go_wp2
    go_ret2
    exact FIN.out _ hb1.out
end Go.Proofs.Ytmhfpipeoojacaa
/- The document's answer for null: Split. -/
namespace Go.Proofs.Ytmhfpipeoojacaa
set_option linter.unusedVariables false
open Go.RowKit

/-- One value, in new memory. -/
theorem slV_one (w : World) (k i : Int) (s : ByteArray) : SlV (w.alloc (.cells #[.int .i64 k, .int .i64 i, .string s] 24)) (some ⟨w.heap.size, 0, none⟩) 1 1 [⟨k, i, s⟩] := by
  refine ⟨rfl, Nat.le_refl _, by decide, by simp, .inr ⟨w.heap.size, 0, rfl, by simp, fun j x hx => ?_⟩⟩
  match j, hx with
  | 0, hx => simp at hx; subst hx; simp
/-- A row stays, whatever is appended to a row of another kind. -/
theorem keep_kind {w w' : World} {B B' s s' n n' : Nat} {e e' : TypeId} {v u : Value} {xs ys : List Value} (h : w.ownsRow B e s v n xs) (hu : w.ownsRow B' e' s' u n' ys) (hne : e ≠ e') (hk : Kept (fun k => u.ownBlock = some k) w w') : w'.ownsRow B e s v n xs :=
  owns_of_block h fun g hg => hk.block g (owns_lt h hg).2 (fun e => owns_ne h hu hne hg e)
theorem nus_snoc {l : List Z.V} {j : Nat} {x : Z.V} (h : l[j]? = some x) : nus (l.take (j + 1)) = nus (l.take j) ++ [x.k == 0] := by
  rw [take_snocV h]; simp [nus]
theorem oth_yes {l : List Z.V} {j : Nat} {x : Z.V} (h : l[j]? = some x) (hk : (x.k == 0) = true) : oth (l.take (j + 1)) = oth (l.take j) := by
  rw [take_snocV h]; simp [oth, hk]
theorem oth_no {l : List Z.V} {j : Nat} {x : Z.V} (h : l[j]? = some x) (hk : (x.k == 0) = false) : oth (l.take (j + 1)) = oth (l.take j) ++ [x] := by
  rw [take_snocV h]; simp [oth, hk]
theorem oth_le (l : List Z.V) (j : Nat) : (oth (l.take j)).length ≤ j := by
  unfold oth
  exact Nat.le_trans (List.length_filter_le _ _) (by rw [List.length_take]; omega)

end Go.Proofs.Ytmhfpipeoojacaa
/- The document's Some, Of. -/
namespace Go.Proofs.Ytmhfpipeoojacaa
set_option linter.unusedVariables false
open Go.RowKit

/-- What Some answers. -/
def SomeAns (b : List Nat) (N : Nat) (kind : Int) (w : World) (e : Ending) (w' : World) : Prop :=
  Below w.heap.size w w' ∧ ((Z.pE kind N b = 0 ∧ ∃ v a c, e = .returned (.tuple #[v, .slice a (Z.pR kind N b).length c, .int .i64 0]) ∧ OwnV w' w.heap.size v (Z.pL kind N b)) ∨
    (Z.pE kind N b ≠ 0 ∧ e = .returned (.tuple #[.slice none 0 0, .slice none 0 0, .int .i64 ((Z.pE kind N b : Nat) : Int)])))

end Go.Proofs.Ytmhfpipeoojacaa
/- The document's Of; the statements' own 'shown' and 'few'. -/
namespace Go.Proofs.Ytmhfpipeoojacaa
set_option linter.unusedVariables false
open Go.RowKit

theorem slV_two (w : World) (x y : Z.V) : SlV (w.alloc (.cells #[.int .i64 x.k, .int .i64 x.i, .string x.s, .int .i64 y.k, .int .i64 y.i, .string y.s] 24)) (some ⟨w.heap.size, 0, none⟩) 2 2 [x, y] := by
  refine ⟨rfl, Nat.le_refl _, by decide, by simp, .inr ⟨w.heap.size, 0, rfl, by simp, fun j u hu => ?_⟩⟩
  match j, hu with
  | 0, hu => simp at hu; subst hu; simp
  | 1, hu => simp at hu; subst hu; simp
def exP : List Z.V := [⟨1, -1, ⟨#[]⟩⟩, ⟨1, 2, ⟨#[]⟩⟩]
theorem exP_chk : Z.chk exP 1 = 0 := by decide
theorem exP_cb : Z.cb exP 1 = [1, 4] := by decide
/-- 'few' tells that there are few. -/
def FewAns (len : Nat) (w : World) (e : Ending) (w' : World) : Prop := ∃ q, e = .returned (.bool q) ∧ (q = true → len ≤ 1000) ∧ w' = w
theorem FewAns.mk {len : Nat} {w : World} {v : Value} (q : Bool) (h0 : v = .bool q) (h : q = true → len ≤ 1000) : FewAns len w (.returned v) w := ⟨q, by rw [h0], h, rfl⟩
end Go.Proofs.Ytmhfpipeoojacaa
/- The walk of the statement: bytes of a column, cut anywhere ahead of their end, are not as many values. -/
namespace Go.Proofs.Ytmhfpipeoojacaa
set_option linter.unusedVariables false
open Go.RowKit

theorem fits {l : List Z.V} {kind : Int} (h : Z.chk l kind = 0) (hwf : ∀ x ∈ l, Z.Wf x) : ∀ x ∈ l, Z.Fit kind x := fun x hx => ⟨(chk_zero h).2.2.1 x hx, (chk_zero h).2.2.2 x hx, (hwf x hx).2.1⟩
theorem kindOk_of {l : List Z.V} {kind : Int} (h : Z.chk l kind = 0) : Z.kindOk kind = true := by
  rcases (chk_zero h).1 with rfl | rfl | rfl <;> rfl
theorem lb_lt {x : Z.V} (hi : Z.I64 x.i) : ∀ y ∈ Z.lb x, y < 256 := by
  obtain ⟨k, i, s⟩ := x
  by_cases h1 : k = 1
  · subst h1; rw [lb_int]; exact E.leb_lt _
  · by_cases h2 : k = 2
    · subst h2; rw [lb_float]
      have hk := D.ky_in (Z.u_in i)
      have hk2 : (D.ky (Z.u i)).toNat < 18446744073709551616 := by have := hk.1; have := hk.2; omega
      exact Z.k8_lt hk2
    · by_cases h3 : k = 3
      · subst h3; rw [lb_text]
        intro y hy
        rcases List.mem_append.1 hy with hy | hy
        · exact E.leb_lt _ y hy
        · exact sb_lt s y hy
      · rw [lb_else h1 h2 h3]; simp
theorem pb_lt {l : List Z.V} (h : ∀ x ∈ l, Z.Wf x) : ∀ y ∈ Z.pb l, y < 256 := by
  intro y hy
  obtain ⟨x, hx, hy⟩ := List.mem_flatMap.1 hy
  exact lb_lt (h x hx).2.1 y hy
theorem cb_lt {l : List Z.V} {kind : Int} (h : ∀ x ∈ l, Z.Wf x) : ∀ y ∈ Z.cb l kind, y < 256 := by
  unfold Z.cb
  split
  · exact pb_lt h
  · simp
theorem cb_len {l : List Z.V} {kind : Int} (h : ∀ x ∈ l, Z.Wf x) : (Z.cb l kind).length ≤ 4235264 := by
  unfold Z.cb
  split
  · rename_i h0
    have h1 := pb_le l (fun x hx => (h x hx).2.1) (chk_zero h0).2.2.2
    have h2 := (chk_zero h0).2.1
    omega
  · simp

end Go.Proofs.Ytmhfpipeoojacaa
/- The walk of the statement: values' bytes, whether they may be a column's, and bytes as so many values, are the document's. -/
namespace Go.Proofs.Ytmhfpipeoojacaa
set_option linter.unusedVariables false
open Go.RowKit

theorem cL_len (b : List Nat) (n kind : Int) : (Z.cL b n kind).length ≤ 4096 := by
  unfold Z.cL
  split
  · rename_i h
    have hn : ¬ (n < 0 ∨ 4096 < n) := by
      intro hn
      unfold Z.cE at h
      split at h
      · exact absurd h (by decide)
      · exact absurd h (by decide)
    rw [pL_length]
    omega
  · simp

end Go.Proofs.Ytmhfpipeoojacaa
/- The walk of the statement: what was laid down is read; what is read is laid down as the very bytes. -/
namespace Go.Proofs.Ytmhfpipeoojacaa
set_option linter.unusedVariables false
open Go.RowKit

theorem oV_i64 {l : List Nat} (h256 : ∀ x ∈ l, x < 256) (kind : Int) : Z.I64 (Z.oV l kind).i := by
  unfold Z.oV
  split
  · unfold Z.oW
    split
    · exact E.zag_lt _ (E.gN_lt h256)
    · split
      · exact Z.sg_in (D.bt_in ⟨by omega, by have := Z.o8_lt h256; omega⟩)
      · split
        · exact ⟨by show (-9223372036854775808 : Int) ≤ 0; decide, by show (0 : Int) < 9223372036854775808; decide⟩
        · exact ⟨by decide, by decide⟩
  · exact ⟨by decide, by decide⟩
theorem str_appendR (a b : List Nat) : strOfNums (ints a) ++ strOfNums (ints b) = strOfNums (ints (a ++ b)) := by
  apply Z.ba_eq
  simp [strOfNums, ints]
theorem pL_i64 (kind : Int) : ∀ (n : Nat) (b : List Nat), (∀ x ∈ b, x < 256) → ∀ x ∈ Z.pL kind n b, Z.I64 x.i
  | 0, _, _, x, hx => by simp [Z.pL] at hx
  | n + 1, b, h, x, hx => by
    rw [Z.pL] at hx
    rcases List.mem_cons.1 hx with rfl | hx
    · exact oV_i64 h kind
    · exact pL_i64 kind n _ (oR_lt h kind) x hx
theorem cL_i64 {b : List Nat} {n kind : Int} (h : ∀ x ∈ b, x < 256) : ∀ x ∈ Z.cL b n kind, Z.I64 x.i := by
  unfold Z.cL
  split
  · exact pL_i64 kind _ b h
  · simp
/-- Where Of has no error. -/
theorem cE_zero {b : List Nat} {n kind : Int} (h256 : ∀ x ∈ b, x < 256) (h : Z.cE b n kind = 0) : ∃ N : Nat, n = (N : Int) ∧ (Z.cL b n kind).length = N ∧ Z.chk (Z.cL b n kind) kind = 0 ∧ Z.cb (Z.cL b n kind) kind = b := by
  have hc : Z.cL b n kind = Z.pL kind n.toNat b := by unfold Z.cL; rw [if_pos h]
  rw [hc]
  unfold Z.cE at h
  split at h
  · exact absurd h (by decide)
  · rename_i h1
    split at h
    · exact absurd h (by decide)
    · rename_i h2
      split at h
      · rename_i h3; omega
      · rename_i h3
        split at h
        · exact absurd h (by decide)
        · rename_i h4
          have h1' : Z.kindOk kind = true := by simpa using h1
          have h3' : Z.pE kind n.toNat b = 0 := by simpa using h3
          have h4' : Z.pR kind n.toNat b = [] := by simpa using h4
          obtain ⟨g1, g2⟩ := p_two (kind_cases h1') n.toNat b h256 h3'
          have h5 : Z.chk (Z.pL kind n.toNat b) kind = 0 := chk_of (kind_cases h1') (by rw [pL_length]; omega) (fun x hx => (g1 x hx).1) (fun x hx => (g1 x hx).2)
          refine ⟨n.toNat, by omega, pL_length _ _ _, h5, ?_⟩
          rw [cb_ok h5]
          rw [h4', List.append_nil] at g2
          exact g2
theorem cE_back {l : List Z.V} {kind : Int} {len : Nat} (h : Z.chk l kind = 0) (hwf : ∀ x ∈ l, Z.Wf x) (hl : l.length = len) : Z.cE (Z.cb l kind) (len : Int) kind = 0 ∧ Z.cL (Z.cb l kind) (len : Int) kind = l ∧ Z.cE (Z.cb l kind ++ [0]) (len : Int) kind = 4 := by
  have h1 := p_back kind [] l (fits h hwf)
  have h2 := p_back kind [0] l (fits h hwf)
  have h3 := (chk_zero h).2.1
  rw [List.append_nil, hl] at h1
  rw [hl] at h2
  rw [hl] at h3
  rw [cb_ok h]
  have h4 := cE_ok (kindOk_of h) h3 h1.1 h1.2.2
  refine ⟨h4, ?_, cE_behind (kindOk_of h) h3 h2.1 (by rw [h2.2.2]; simp)⟩
  unfold Z.cL
  rw [if_pos h4, Int.toNat_natCast]
  exact h1.2.1
theorem sl_zero (w : World) : Sl (w.alloc (.cells #[.int .u8 0] 5)) .u8 (some ⟨w.heap.size, 0, none⟩) 1 1 (ints [0]) := by
  refine ⟨rfl, Nat.le_refl _, by decide, by simp, .inr ⟨w.heap.size, 0, rfl, by simp, fun i hi => ?_⟩⟩
  obtain rfl : i = 0 := by omega
  simp [ints]

end Go.Proofs.Ytmhfpipeoojacaa
/- DictBack: what was laid down is read; what is read is laid down as the very bytes. Conditions: none. -/
namespace Go.Proofs.Ytmhfpipeoojacaa
set_option linter.unusedVariables false
set_option maxRecDepth 10000
open Go.RowKit
theorem dcb_lt {l : List Z.V} {kind : Int} (h : ∀ x ∈ l, Z.Wf x) : ∀ y ∈ Z.dcb l kind, y < 256 := by
  intro y hy
  unfold Z.dcb at hy
  split at hy
  · unfold Z.db at hy
    rcases List.mem_append.1 hy with hy | hy
    · exact E.leb_lt _ y hy
    · rcases List.mem_append.1 hy with hy | hy
      · exact pb_lt (fun x hx => h x (words_mem (words_of l) hx)) y hy
      · exact A.bytesOf_lt _ y hy
  · simp at hy
theorem dcb_len {l : List Z.V} {kind : Int} (h : ∀ x ∈ l, Z.Wf x) : (Z.dcb l kind).length ≤ 5000000 := by
  by_cases h0 : Z.chk l kind = 0
  · obtain ⟨_, hl, _, h2⟩ := chk_zero h0
    have hw := wds_len l
    rw [dcb_ok h0]
    unfold Z.db
    rw [List.length_append, List.length_append, A.bytesOf_length, bitsAll_length, ints_length, cdL_ok (words_cdE _), List.length_map]
    have h3 := E.leb_ten (Z.wds l).length (by omega)
    have h4 := pb_le (Z.wds l) (fun x hx => (h x (words_mem (words_of l) hx)).2.1) (fun x hx => h2 x (words_mem (words_of l) hx))
    have h5 : l.length * Z.dwd (Z.wds l).length ≤ 4096 * 12 := Nat.mul_le_mul hl (dwd_le (by omega))
    omega
  · rw [dcb_bad h0]; simp
theorem dback_is {l : List Z.V} {kind : Int} {len : Nat} (h : Z.chk l kind = 0) (hwf : ∀ x ∈ l, Z.Wf x) (hl : l.length = len) : Z.dE (Z.dcb l kind) (len : Int) kind = 0 ∧ Z.dVs (Z.dcb l kind) (len : Int) kind = l := by
  obtain ⟨h1, h2⟩ := d_back (fun x hx => (hwf x hx).2.1) h
  rw [hl] at h1 h2
  have hn := (chk_zero h).2.1
  rw [dcb_ok h]
  have h3 : Z.dE (Z.db l) (len : Int) kind = 0 := by rw [dE_is (kindOk_of h) (by omega), dN_of h1]; rfl
  refine ⟨h3, ?_⟩
  unfold Z.dVs Z.dWs Z.dCs
  rw [if_pos h3, if_pos h3, Int.toNat_natCast]
  exact h2
theorem dtwo_is {b : List Nat} {n kind : Int} (h256 : ∀ x ∈ b, x < 256) (h : Z.dE b n kind = 0) : ∃ N : Nat, n = (N : Int) ∧ (Z.dVs b n kind).length = N ∧ Z.chk (Z.dVs b n kind) kind = 0 ∧ Z.dcb (Z.dVs b n kind) kind = b := by
  obtain ⟨h1, h2, h3, h4⟩ := dE_zero h
  obtain ⟨N, rfl⟩ := Int.eq_ofNat_of_zero_le h2
  rw [Int.toNat_natCast] at h4
  obtain ⟨g1, g2, g3⟩ := d_two (kind_cases h1) (by omega) h256 h4
  have hv : Z.dVs b (N : Int) kind = Z.dV (Z.dW kind b) (Z.dC kind N b) := by
    unfold Z.dVs Z.dWs Z.dCs
    rw [if_pos h, if_pos h, Int.toNat_natCast]
  rw [hv]
  exact ⟨N, rfl, g1, g2, by rw [dcb_ok g2]; exact g3⟩
theorem dVs_i64 {b : List Nat} {n kind : Int} (h256 : ∀ x ∈ b, x < 256) : ∀ x ∈ Z.dVs b n kind, Z.I64 x.i := by
  intro x hx
  unfold Z.dVs Z.dV at hx
  obtain ⟨c, _, rfl⟩ := List.mem_map.1 hx
  by_cases hc : c < (Z.dWs b n kind).length
  · have hm := List.mem_of_getElem? (get_lt hc)
    obtain ⟨y, hy⟩ : ∃ y, (Z.dWs b n kind).getD c ⟨0, 0, ⟨#[]⟩⟩ = y := ⟨_, rfl⟩
    rw [hy] at hm ⊢
    unfold Z.dWs at hm
    split at hm
    · exact pL_i64 kind _ _ (fun x hx => h256 x (List.mem_of_mem_drop hx)) y hm
    · simp at hm
  · rw [List.getD_eq_getElem?_getD, List.getElem?_eq_none (by omega)]
    exact ⟨by decide, by decide⟩
set_option maxHeartbeats 4000000 in
theorem dictBack_in (w : World) (a : Option Addr) (len cap : Nat) (l : List Z.V) (hs : SlV w a len cap l) (hwf : ∀ x ∈ l, Z.Wf x) (hr : cap * 32 ≤ 140737488351232) (kind : Int) (a1 : Option Addr) (len1 cap1 : Nat) (b : List Nat) (hb : Sl w .u8 a1 len1 cap1 (ints b)) (h256 : ∀ x ∈ b, x < 256) (hr1 : cap1 * 1 ≤ 140737488351232) (n : Int) :
    Calls Try.prog 4 #[.slice a len cap, .int .i64 kind, .slice a1 len1 cap1, .int .i64 n] w fun e w' => e = .returned (.bool true) ∧ Below w.heap.size w w' := by
  have hlen : len ≤ 140737488351232 := by have := hs.2.1; omega
  have hlen1 : len1 ≤ 140737488351232 := by have := hb.2.1; omega
  have HS := hide hs
  have HB := hide hb
  have H256 := hide h256
  have HWF := hide hwf
  have HLL := hide hs.1
  clear hs hb hwf hr hr1 h256
  go_enter Try.func4, Try.ntmps4
  go_wp2_with fail
  refine (dshown_any _).mono ?_
  rintro e w1 ⟨rfl, hb⟩
  have b0 := hide hb
  clear hb
  go_wp2_with fail
  refine (dfew_any a len cap l _ (HS.out.below b0.out) (by omega)).mono ?_
  rintro e w2 ⟨q, rfl, hq, rfl⟩
  cases q with
  | false =>
    go_wp2
    go_ret
    exact ⟨rfl, b0.out⟩
  | true =>
    have hl1 := hq rfl
    clear hq
    obtain ⟨xs, hxs⟩ : ∃ xs, Z.dcb l kind = xs := ⟨_, rfl⟩
    obtain ⟨K, hK⟩ : ∃ K, xs.length = K := ⟨_, rfl⟩
    have hKl : K ≤ 5000000 := by rw [← hK, ← hxs]; exact dcb_len HWF.out
    have HXL : Hid (∀ y ∈ xs, y < 256) := by rw [← hxs]; exact dcb_lt HWF.out
    obtain ⟨E, hE⟩ : ∃ E, Z.chk l kind = E := ⟨_, rfl⟩
    have HBK : Hid (E = 0 → Z.dE xs (len : Int) kind = 0 ∧ Z.dVs xs (len : Int) kind = l) := by
      intro h0
      have := dback_is (hE.trans h0) HWF.out HLL.out
      rwa [hxs] at this
    have HE := hide hE
    have HK := hide hK
    have HXS := hide hxs
    clear hE hK hxs
    go_wp2_with fail
    refine (dbytes_any a len cap l kind _ (HS.out.below b0.out) (fun x hx => (HWF.out x hx).2.1)).mono ?_
    rintro e w3 ⟨pa, pc, rfl, hs3, hb⟩
    rw [HE.out, HXS.out, HK.out]
    rw [HXS.out, HK.out] at hs3
    replace b0 := hide (bthen b0.out hb)
    have HP := hide hs3
    clear hb hs3
    go_wp2_with fail
    refine (dof_any pa K pc xs (len : Int) kind _ HP.out HXL.out (by omega)).mono ?_
    rintro e w4 ⟨qa, qc, rfl, hs4, hb⟩
    replace b0 := hide (bthen b0.out hb)
    obtain ⟨F, hF⟩ : ∃ F, Z.dE xs (len : Int) kind = F := ⟨_, rfl⟩
    obtain ⟨ms, hms⟩ : ∃ ms, Z.dVs xs (len : Int) kind = ms := ⟨_, rfl⟩
    obtain ⟨m, hm⟩ : ∃ m, ms.length = m := ⟨_, rfl⟩
    rw [hF, hms, hm]
    rw [hms, hm] at hs4
    rw [hF, hms] at HBK
    have HQ := hide hs4
    have HM := hide hm
    clear hb hs4 hF hms hm
    have LAST : Hid (∀ w9 : World, Below w.heap.size w w9 → Calls Try.prog 16 #[.slice a1 len1 cap1, .int .i64 n, .int .i64 kind] w9 (DictOfAns b n kind w9)) := fun w9 h9 => dof_any a1 len1 cap1 b n kind w9 (HB.out.below h9) H256.out (by omega)
    have hcase : E = 0 ∨ E ≠ 0 := by omega
    rcases hcase with h0 | h0
    · subst h0
      obtain ⟨rfl, h2⟩ := HBK.out rfl
      have h3 : m = len := by rw [← HLL.out, ← h2]; exact HM.out.symm
      rw [h2, h3] at HQ
      rw [h3]
      clear h2 h3 HM
      go_wp2_with fail
      refine (vsame_yes a qa len cap qc l _ (HS.out.below b0.out) HQ.out (by omega)).mono ?_
      rintro e w8 ⟨rfl, hb⟩
      replace b0 := hide (bthen b0.out hb)
      clear hb HQ HBK
      go_wp2_with fail
      refine (LAST.out _ b0.out).mono ?_
      rintro e w9 ⟨ua, uc, rfl, hs9, hb⟩
      replace b0 := hide (bthen b0.out hb)
      clear hb
      by_cases hz : Z.dE b n kind = 0
      · obtain ⟨N, hn, hN, hchk, hcb⟩ := dtwo_is H256.out hz
        rw [hz, hN]
        rw [hN] at hs9
        have HCI := hide (dVs_i64 (n := n) (kind := kind) H256.out)
        obtain ⟨ks, hks⟩ : ∃ ks, Z.dVs b n kind = ks := ⟨_, rfl⟩
        rw [hks] at hs9 hchk hcb HCI
        have HU := hide hs9
        have HCK := hide hchk
        have HCB := hide hcb
        have HBL : Hid (b.length = len1) := by show _ = _; rw [← HB.out.1, ints_length]
        obtain rfl : n = (N : Int) := hn
        clear hs9 hchk hcb hks hN hz LAST
        go_wp2_with fail
        refine (dbytes_any ua N uc ks kind _ HU.out HCI.out).mono ?_
        rintro e w10 ⟨ya, yc, rfl, hs10, hb⟩
        rw [HCK.out, HCB.out, HBL.out]
        rw [HCB.out, HBL.out] at hs10
        replace b0 := hide (bthen b0.out hb)
        have t1 := str_of hs10
        have t2 := str_of (HB.out.below b0.out)
        obtain ⟨X, hX⟩ : ∃ X, strOfNums (ints b) = X := ⟨_, rfl⟩
        rw [hX] at t1 t2
        have hxx : (X.toList == X.toList) = true := by simp
        have hnn : ((N : Int) == (N : Int)) = true := by simp
        clear hb hs10 hX HU
        go_wp2
        go_ret
        exact ⟨rfl, b0.out⟩
      · obtain ⟨_, _, hcl⟩ := dWs_bad hz
        obtain ⟨H, hH⟩ : ∃ H, Z.dE b n kind = H := ⟨_, rfl⟩
        rw [hH] at hz
        have hzb : (H != 0) = true := by simpa using hz
        rw [hcl, hH]
        clear hs9 hcl hH hz LAST
        go_wp2
        go_ret
        exact ⟨rfl, b0.out⟩
    · have h0b : (E == 0) = false := by simpa using h0
      clear HBK HQ h0
      go_wp2_with fail
      refine (LAST.out _ b0.out).mono ?_
      rintro e w9 ⟨ua, uc, rfl, hs9, hb⟩
      replace b0 := hide (bthen b0.out hb)
      clear hb
      by_cases hz : Z.dE b n kind = 0
      · obtain ⟨N, hn, hN, hchk, hcb⟩ := dtwo_is H256.out hz
        rw [hz, hN]
        rw [hN] at hs9
        have HCI := hide (dVs_i64 (n := n) (kind := kind) H256.out)
        obtain ⟨ks, hks⟩ : ∃ ks, Z.dVs b n kind = ks := ⟨_, rfl⟩
        rw [hks] at hs9 hchk hcb HCI
        have HU := hide hs9
        have HCK := hide hchk
        have HCB := hide hcb
        have HBL : Hid (b.length = len1) := by show _ = _; rw [← HB.out.1, ints_length]
        obtain rfl : n = (N : Int) := hn
        clear hs9 hchk hcb hks hN hz LAST
        go_wp2_with fail
        refine (dbytes_any ua N uc ks kind _ HU.out HCI.out).mono ?_
        rintro e w10 ⟨ya, yc, rfl, hs10, hb⟩
        rw [HCK.out, HCB.out, HBL.out]
        rw [HCB.out, HBL.out] at hs10
        replace b0 := hide (bthen b0.out hb)
        have t1 := str_of hs10
        have t2 := str_of (HB.out.below b0.out)
        obtain ⟨X, hX⟩ : ∃ X, strOfNums (ints b) = X := ⟨_, rfl⟩
        rw [hX] at t1 t2
        have hxx : (X.toList == X.toList) = true := by simp
        have hnn : ((N : Int) == (N : Int)) = true := by simp
        clear hb hs10 hX HU
        go_wp2
        go_ret
        exact ⟨rfl, b0.out⟩
      · obtain ⟨_, _, hcl⟩ := dWs_bad hz
        obtain ⟨H, hH⟩ : ∃ H, Z.dE b n kind = H := ⟨_, rfl⟩
        rw [hH] at hz
        have hzb : (H != 0) = true := by simpa using hz
        rw [hcl, hH]
        clear hs9 hcl hH hz LAST
        go_wp2
        go_ret
        exact ⟨rfl, b0.out⟩
theorem dictBack_walk (w : World) (a : Option Addr) (len cap : Nat) (l : List Z.V) (hs : SlV w a len cap l) (hwf : ∀ x ∈ l, Z.Wf x) (hr : cap * 32 ≤ 140737488351232) (kind : Int) (wk : (Lit.int .i64 kind).wf = true) (a1 : Option Addr) (len1 cap1 : Nat) (z : List Int) (c : Came .u8 w a1 len1 cap1 z) (hr1 : cap1 * 1 ≤ 140737488351232) (n : Int) (wn : (Lit.int .i64 n).wf = true) :
    Calls Try.prog 4 #[.slice a len cap, .int .i64 kind, .slice a1 len1 cap1, .int .i64 n] w fun e w' => e = .returned (.bool true) ∧ Below w.heap.size w w' := by
  obtain ⟨b, rfl, h256⟩ := came_bytes c
  exact dictBack_in w a len cap l hs hwf hr kind a1 len1 cap1 b c.1 h256 hr1 n
end Go.Proofs.Ytmhfpipeoojacaa

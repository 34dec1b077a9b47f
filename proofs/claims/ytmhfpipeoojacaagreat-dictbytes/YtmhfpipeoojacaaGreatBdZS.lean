/- The document's Bytes of words and codes. Conditions: values whose parts are machine numbers. -/
import Derived.Test.YtmhfpipeoojacaaGreatBdZR
import Derived.Test.YtmhfpipeoojacaaGreatBdZO
import Derived.Test.YtmhfpipeoojacaaGreatBdZP
import Derived.Test.YtmhfpipeoojacaaGreatBdQ
import Derived.Test.YtmhfpipeoojacaaGreatBdZJ
import Derived.Test.YtmhfpipeoojacaaGreatBdZA
import Derived.Test.YtmhfpipeoojacaaGreatBdZQ
namespace Go.Proofs.YtmhfpipeoojacaaGreat
set_option linter.unusedVariables false
set_option maxRecDepth 10000
open Go.RowKit
set_option maxHeartbeats 2000000 in
theorem rdbytes_ok (ao : Option Addr) (cap : Nat) (l : List Z.V) (kind : Int) (w : World) (h : SlV w ao l.length cap l) (hwf : ∀ x ∈ l, Z.Wf x) (h0 : Z.chk l kind = 0) :
    Calls Tryz.prog 7 #[.slice ao l.length cap, .int .i64 kind] w (DictBytesAns l kind w) := by
  have hI : ∀ x ∈ l, Z.I64 x.i := fun x hx => (hwf x hx).2.1
  have hl : l.length ≤ 4096 := (chk_zero h0).2.1
  have hwl := wds_len l
  have HCK := hide (rcheck_any _ _ _ l kind w h hI)
  rw [h0] at HCK
  have HS := hide h
  have HI := hide hI
  have H0 := hide h0
  have HZ : Hid (∀ x ∈ l, x.s.size ≤ 9223372036854775807) := fun x hx => (hwf x hx).2.2
  clear h hI h0 hwf
  obtain ⟨len, hlen⟩ : ∃ len, l.length = len := ⟨_, rfl⟩
  rw [hlen] at hl hwl HCK HS ⊢
  have HLEN := hide hlen
  clear hlen
  go_enter Tryz.func7, Tryz.ntmps7
  go_wp2_with fail
  refine HCK.out.mono ?_
  rintro e w1 ⟨rfl, hb1⟩
  have HB1 := hide hb1
  have HWD := hide (rwords_any ao len cap l w1 (HS.out.below hb1) HZ.out (by omega))
  clear hb1 HCK
  go_wp2_with fail
  refine HWD.out.mono ?_
  rintro e w2 ⟨v2, rfl, ho2, hb2⟩
  have HB2 := hide (bthen HB1.out hb2)
  obtain ⟨wa, wc, hv2, hsw, _⟩ := SlV.of_own ho2
  obtain ⟨m, hml⟩ : ∃ m, (Z.wds l).length = m := ⟨_, rfl⟩
  rw [hml] at hv2 hsw hwl
  subst hv2
  have hm : m ≤ 4096 := by omega
  have HML := hide hml
  have HSW := hide hsw
  have eM : IntKind.u64.wrap (m : Int) = (m : Int) := by rw [u64_wrap]; omega
  have HPU := hide (rput_any (m : Int) w2 (by omega) (by omega))
  clear hsw hb2 hml HWD ho2
  go_wp2_with fail
  refine HPU.out.mono ?_
  rintro e w3 ⟨v3, rfl, ho3, hb3⟩
  rw [Int.toNat_natCast] at ho3
  have HB3 := hide hb3
  have hr10 := E.leb_ten m (by omega)
  obtain ⟨lb, hlb⟩ : ∃ lb, E.leb m = lb := ⟨_, rfl⟩
  rw [hlb] at ho3 hr10
  have HLB := hide hlb
  have HR10 := hide hr10
  have ho3' : w3.ownsRow w2.heap.size 5 1 v3 (lb ++ Z.pb ((Z.wds l).take 0)).length (B8 (lb ++ Z.pb ((Z.wds l).take 0))) := by simpa [Z.pb] using ho3
  have HO3 := hide ho3'
  have HWI : Hid (∀ x ∈ Z.wds l, Z.I64 x.i) := fun x hx => HI.out x (words_mem (words_of l) hx)
  have HWM : Hid (∀ x ∈ Z.wds l, Z.may x = true) := (chk_zero (chk_words H0.out)).2.2.2
  clear hb3 ho3 ho3' hlb hr10 HPU eM
  go_wp2_with fail
  go_loopw [8, 9] (fun v i wr => ∃ j : Nat, j ≤ m ∧ i = .int .i64 j ∧ Hid (wr.ownsRow w2.heap.size 5 1 v (lb ++ Z.pb ((Z.wds l).take j)).length (B8 (lb ++ Z.pb ((Z.wds l).take j)))) ∧ Hid (Below w2.heap.size w2 wr)) (fun _ i _ => m - (intOf i).toNat)
  case atStart => exact ⟨0, Nat.zero_le _, rfl, HO3, HB3⟩
  case round =>
    obtain ⟨j, hj, rfl, hrow, hbw⟩ := hrel
    by_cases hjl : j < m
    · obtain ⟨b, off, xk, xi, xs, rfl, hlt, hx, c1, c2, c3⟩ := HSW.out.at hjl
      have d1 : wr.cell? ⟨b, off + j * 3, none⟩ = some (.int .i64 xk) := by rw [hbw.out.cell (p := ⟨b, off + j * 3, none⟩) hlt]; exact c1
      have d2 : wr.cell? ⟨b, off + j * 3 + 1, none⟩ = some (.int .i64 xi) := by rw [hbw.out.cell (p := ⟨b, off + j * 3 + 1, none⟩) hlt]; exact c2
      have d3 : wr.cell? ⟨b, off + j * 3 + 2, none⟩ = some (.string xs) := by rw [hbw.out.cell (p := ⟨b, off + j * 3 + 2, none⟩) hlt]; exact c3
      have HX := hide hx
      clear c1 c2 c3 hx
      have HXM := hide (HWM.out _ (List.mem_of_getElem? HX.out))
      have HXI := hide (HWI.out _ (List.mem_of_getElem? HX.out))
      have HLE := hide (pb_take_le HWI.out HWM.out j)
      have HLB2 := hide (lb_le HXI.out HXM.out)
      go_wp2_with fail
      refine (ubytes_any _ _ _ _ HXI.out).mono ?_
      rintro e w4 ⟨qa, qc, rfl, hs4, hb4⟩
      rw [bl_may HXM.out]
      rw [bl_may HXM.out] at hs4
      have hbm : Below w2.heap.size w2 w4 := bthen hbw.out hb4
      have hrow2 : w4.ownsRow w2.heap.size 5 1 u8 (lb ++ Z.pb ((Z.wds l).take j)).length (B8 (lb ++ Z.pb ((Z.wds l).take j))) := owns_below hrow.out hb4
      have hsz := hbm.size
      obtain ⟨q, hqq⟩ : ∃ q, (Z.lb ⟨xk, xi, xs⟩).length = q := ⟨_, rfl⟩
      rw [hqq] at hs4 ⊢
      have HQ := hide hqq
      have HBM := hide hbm
      have HS4 := hide hs4
      have HR2 := hide hrow2
      have HAP : Hid (lb ++ Z.pb ((Z.wds l).take j) ++ Z.lb ⟨xk, xi, xs⟩ = lb ++ Z.pb ((Z.wds l).take (j + 1))) := by show _ = _; rw [List.append_assoc, pb_take HX.out]
      have HLIM : Hid ((lb ++ Z.pb ((Z.wds l).take j)).length + q ≤ 140737488355328) := by
        have h1 := HLE.out
        have h2 := HLB2.out
        have h3 := HQ.out
        have h4 := HR10.out
        have h5 := HML.out
        show _ ≤ _
        rw [List.length_append]
        omega
      clear hqq hbm hs4 hrow2 hb4 d1 d2 d3 hrow
      go_wp2_with (at_builtin; refine wpList_app rfl _ _ rfl w2.heap.size u8 (lb ++ Z.pb ((Z.wds l).take j)) rfl HR2.out qa q qc (Z.lb ⟨xk, xi, xs⟩) rfl HS4.out HLIM.out hsz (lb ++ Z.pb ((Z.wds l).take (j + 1))) HAP.out ?_)
      intro v5 w5 hown has
      have hb5 : Below w2.heap.size w2 w5 := HBM.out.trans (has.below hsz (fun k hk => (owns_lt HR2.out hk).1))
      have HB5 := hide hb5
      have HO := hide hown
      clear hb5 hown has
      go_wp2
      go_roundw
      case rel => exact ⟨j + 1, hjl, by go_num, hide (by have := HO.out; rw [← List.length_append] at this; exact this), HB5⟩
      case measure => simp [intOf]; omega
    · obtain rfl : j = m := by omega
      have hll : (Z.wds l).take j = Z.wds l := by rw [← HML.out, List.take_length]
      have hrow1 := hrow.out
      rw [hll] at hrow1
      have HROW := hide hrow1
      have HBW := hide (bthen HB2.out hbw.out)
      have HCD : Hid (Calls Tryz.prog 27 #[.slice wa j wc, .slice ao len cap] wr (CodesAns wr (Z.wds l) l)) := by
        have h1 := HSW.out.below hbw.out
        have h2 := HS.out.below HBW.out
        rw [← HML.out] at h1 ⊢
        rw [← HLEN.out] at h2 ⊢
        exact rcodes_any wa wc (Z.wds l) ao cap l wr h1 h2 (by rw [HML.out]; omega) (by rw [HLEN.out]; omega) (fun x hx => HZ.out x (words_mem (words_of l) hx)) HZ.out
      clear hll hrow1 hrow
      go_wp2_with fail
      refine HCD.out.mono ?_
      rintro e w4 ⟨ca, cn, cc, rfl, hsc, hb4⟩
      rw [words_cdE l]
      have HB4 := hide (bthen HBW.out hb4)
      have HROW4 := hide (owns_below HROW.out hb4)
      obtain rfl : cn = len := by rw [← hsc.1, ints_length, cdL_ok (words_cdE l), List.length_map, HLEN.out]
      have HSC := hide hsc
      have HDW := hide (rdwidth_any j w4 (by omega))
      have hz4 := (bthen hbw.out hb4).size
      clear hsc hb4 HCD
      go_wp2_with fail
      refine HDW.out.mono ?_
      rintro e w5 ⟨rfl, rfl⟩
      have hin : In64 (ints (Z.cdL (Z.wds l) l)) := cI_in (m := j) hm (by rw [← HML.out]; exact cdL_lt l)
      have HPK := hide (rpack_u ca cn cc (ints (Z.cdL (Z.wds l) l)) ((Z.dwd j : Nat) : Int) w5 HSC.out (by omega) hin)
      have hpc : packC (ints (Z.cdL (Z.wds l) l)) ((Z.dwd j : Nat) : Int) = 0 ∧ packB (ints (Z.cdL (Z.wds l) l)) ((Z.dwd j : Nat) : Int) = A.bytesOf (bitsAll (ints (Z.cdL (Z.wds l) l)) (Z.dwd j)) := by
        have := pack_codes (l := l) (by rw [HLEN.out]; exact hl)
        rwa [HML.out] at this
      have hpl2 := packB_le (ints (Z.cdL (Z.wds l) l)) ((Z.dwd j : Nat) : Int)
      rw [HSC.out.1] at hpl2
      rw [hpc.1] at HPK
      have HPC := hide hpc.2
      obtain ⟨dw, hdw⟩ : ∃ dw, Z.dwd j = dw := ⟨_, rfl⟩
      have HDD := hide hdw
      rw [hdw] at HPK hpl2 ⊢
      have HPL := hide hpl2
      clear hin hpc hdw HDW hpl2
      go_wp2_with fail
      refine HPK.out.mono ?_
      rintro e w6 ⟨v6, rfl, ho6, hb6⟩
      have HB6 := hide (bthen HB4.out hb6)
      have HROW6 := hide (owns_below HROW4.out hb6)
      obtain ⟨qa, qc, hv6, hs6, _⟩ := Sl.of_bytes ho6
      obtain ⟨pk, hpk⟩ : ∃ pk, packB (ints (Z.cdL (Z.wds l) l)) (dw : Int) = pk := ⟨_, rfl⟩
      obtain ⟨qn, hqn⟩ : ∃ qn, pk.length = qn := ⟨_, rfl⟩
      have hpl2 := HPL.out
      rw [hpk] at hv6 hs6 hpl2
      rw [hqn] at hv6 hs6 hpl2
      subst hv6
      have HPK2 := hide hpk
      have HS6 := hide hs6
      have hsz6 : w2.heap.size ≤ w6.heap.size := Nat.le_trans hz4 hb6.size
      have hpl := pb_le (Z.wds l) HWI.out HWM.out
      have HLIM : Hid ((lb ++ Z.pb (Z.wds l)).length + qn ≤ 140737488355328) := by
        have h4 := HR10.out
        have h5 := HML.out
        show _ ≤ _
        rw [List.length_append]
        omega
      clear ho6 hs6 hqn hpk hb6 HPK HROW4 HPL hpl2 hpl
      go_wp2_with (at_builtin; refine wpList_app rfl _ _ rfl w2.heap.size _ (lb ++ Z.pb (Z.wds l)) rfl HROW6.out qa qn qc pk rfl HS6.out HLIM.out hsz6 (Z.dcb l kind) ?hdb ?_)
      case hdb =>
        rw [dcb_ok H0.out]
        unfold Z.db
        rw [HML.out, HDD.out, HLB.out, List.append_assoc, ← HPK2.out, ← HDD.out, HPC.out]
      intro v7 w7 ho7 has7
      obtain ⟨xa, xc, hv7, hs7, _⟩ := Sl.of_bytes ho7
      have hb7 : Below w.heap.size w w7 := HB6.out.trans (has7.below HB6.out.size (fun k hk => by have h1 := (owns_lt HROW6.out hk).1; have h2 := HB2.out.size; omega))
      have FIN : Hid (DictBytesAns l kind w (.returned (.tuple #[v7, .int .i64 0])) w7) := ⟨xa, xc, by rw [hv7, H0.out], hs7, hb7⟩
      clear ho7 has7 hs7 hv7 hb7
      go_wp2
      go_ret2
      exact FIN.out
theorem rdbytes_any (ao : Option Addr) (len cap : Nat) (l : List Z.V) (kind : Int) (w : World) (h : SlV w ao len cap l) (hwf : ∀ x ∈ l, Z.Wf x) :
    Calls Tryz.prog 7 #[.slice ao len cap, .int .i64 kind] w (DictBytesAns l kind w) := by
  obtain rfl : len = l.length := h.1.symm
  by_cases h0 : Z.chk l kind = 0
  · exact rdbytes_ok ao cap l kind w h hwf h0
  · have HCK := hide (rcheck_any _ _ _ l kind w h fun x hx => (hwf x hx).2.1)
    obtain ⟨E, hE⟩ : ∃ E, Z.chk l kind = E := ⟨_, rfl⟩
    have hE0 : (E != 0) = true := by rw [← hE]; simpa using h0
    have FIN : Hid (∀ w', Below w.heap.size w w' → DictBytesAns l kind w (.returned (.tuple #[.slice none 0 0, .int .i64 E])) w') := fun w' hb => by
      unfold DictBytesAns; rw [dcb_bad h0, hE]
      exact ⟨none, 0, rfl, Sl.nil _ _, hb⟩
    rw [hE] at HCK
    clear h hwf hE h0
    go_enter Tryz.func7, Tryz.ntmps7
    go_wp2_with fail
    refine HCK.out.mono ?_
    rintro e w1 ⟨rfl, hb1⟩
    replace hb1 := hide hb1
    clear HCK
    go_wp2
    go_ret2
    exact FIN.out _ hb1.out
end Go.Proofs.YtmhfpipeoojacaaGreat
/- The document's Of; the statements' own 'shown' and 'few'. -/
namespace Go.Proofs.YtmhfpipeoojacaaGreat
set_option linter.unusedVariables false
open Go.RowKit

theorem slV_two (w : World) (x y : Z.V) : SlV (w.alloc (.cells #[.int .i64 x.k, .int .i64 x.i, .string x.s, .int .i64 y.k, .int .i64 y.i, .string y.s] 45)) (some ⟨w.heap.size, 0, none⟩) 2 2 [x, y] := by
  refine ⟨rfl, Nat.le_refl _, by decide, by simp, .inr ⟨w.heap.size, 0, rfl, by simp, fun j u hu => ?_⟩⟩
  match j, hu with
  | 0, hu => simp at hu; subst hu; simp
  | 1, hu => simp at hu; subst hu; simp
def exP : List Z.V := [⟨1, -1, ⟨#[]⟩⟩, ⟨1, 2, ⟨#[]⟩⟩]
theorem exP_chk : Z.chk exP 1 = 0 := by decide
theorem exP_cb : Z.cb exP 1 = [1, 4] := by decide
/-- 'few' tells that there are few. -/
def FewAns (len : Nat) (w : World) (e : Ending) (w' : World) : Prop := ∃ q, e = .returned (.bool q) ∧ (q = true → len ≤ 1000) ∧ w' = w
theorem FewAns.mk {len : Nat} {w : World} {v : Value} (q : Bool) (h0 : v = .bool q) (h : q = true → len ≤ 1000) : FewAns len w (.returned v) w := ⟨q, by rw [h0], h, rfl⟩
end Go.Proofs.YtmhfpipeoojacaaGreat
/- The walk of the statement: bytes of a column, cut anywhere ahead of their end, are not as many values. -/
namespace Go.Proofs.YtmhfpipeoojacaaGreat
set_option linter.unusedVariables false
open Go.RowKit

theorem fits {l : List Z.V} {kind : Int} (h : Z.chk l kind = 0) (hwf : ∀ x ∈ l, Z.Wf x) : ∀ x ∈ l, Z.Fit kind x := fun x hx => ⟨(chk_zero h).2.2.1 x hx, (chk_zero h).2.2.2 x hx, (hwf x hx).2.1⟩
theorem kindOk_of {l : List Z.V} {kind : Int} (h : Z.chk l kind = 0) : Z.kindOk kind = true := by
  rcases (chk_zero h).1 with rfl | rfl | rfl <;> rfl
theorem lb_lt {x : Z.V} (hi : Z.I64 x.i) : ∀ y ∈ Z.lb x, y < 256 := by
  obtain ⟨k, i, s⟩ := x
  by_cases h1 : k = 1
  · subst h1; rw [lb_int]; exact E.leb_lt _
  · by_cases h2 : k = 2
    · subst h2; rw [lb_float]
      have hk := D.ky_in (Z.u_in i)
      have hk2 : (D.ky (Z.u i)).toNat < 18446744073709551616 := by have := hk.1; have := hk.2; omega
      exact Z.k8_lt hk2
    · by_cases h3 : k = 3
      · subst h3; rw [lb_text]
        intro y hy
        rcases List.mem_append.1 hy with hy | hy
        · exact E.leb_lt _ y hy
        · exact sb_lt s y hy
      · rw [lb_else h1 h2 h3]; simp
theorem pb_lt {l : List Z.V} (h : ∀ x ∈ l, Z.Wf x) : ∀ y ∈ Z.pb l, y < 256 := by
  intro y hy
  obtain ⟨x, hx, hy⟩ := List.mem_flatMap.1 hy
  exact lb_lt (h x hx).2.1 y hy
theorem cb_lt {l : List Z.V} {kind : Int} (h : ∀ x ∈ l, Z.Wf x) : ∀ y ∈ Z.cb l kind, y < 256 := by
  unfold Z.cb
  split
  · exact pb_lt h
  · simp
theorem cb_len {l : List Z.V} {kind : Int} (h : ∀ x ∈ l, Z.Wf x) : (Z.cb l kind).length ≤ 4235264 := by
  unfold Z.cb
  split
  · rename_i h0
    have h1 := pb_le l (fun x hx => (h x hx).2.1) (chk_zero h0).2.2.2
    have h2 := (chk_zero h0).2.1
    omega
  · simp

end Go.Proofs.YtmhfpipeoojacaaGreat
/- The walk of the statement: values' bytes, whether they may be a column's, and bytes as so many values, are the document's. -/
namespace Go.Proofs.YtmhfpipeoojacaaGreat
set_option linter.unusedVariables false
open Go.RowKit

theorem cL_len (b : List Nat) (n kind : Int) : (Z.cL b n kind).length ≤ 4096 := by
  unfold Z.cL
  split
  · rename_i h
    have hn : ¬ (n < 0 ∨ 4096 < n) := by
      intro hn
      unfold Z.cE at h
      split at h
      · exact absurd h (by decide)
      · exact absurd h (by decide)
    rw [pL_length]
    omega
  · simp

end Go.Proofs.YtmhfpipeoojacaaGreat
/- The walk of the statement: what was laid down is read; what is read is laid down as the very bytes. -/
namespace Go.Proofs.YtmhfpipeoojacaaGreat
set_option linter.unusedVariables false
open Go.RowKit

theorem oV_i64 {l : List Nat} (h256 : ∀ x ∈ l, x < 256) (kind : Int) : Z.I64 (Z.oV l kind).i := by
  unfold Z.oV
  split
  · unfold Z.oW
    split
    · exact E.zag_lt _ (E.gN_lt h256)
    · split
      · exact Z.sg_in (D.bt_in ⟨by omega, by have := Z.o8_lt h256; omega⟩)
      · split
        · exact ⟨by show (-9223372036854775808 : Int) ≤ 0; decide, by show (0 : Int) < 9223372036854775808; decide⟩
        · exact ⟨by decide, by decide⟩
  · exact ⟨by decide, by decide⟩
theorem str_appendR (a b : List Nat) : strOfNums (ints a) ++ strOfNums (ints b) = strOfNums (ints (a ++ b)) := by
  apply Z.ba_eq
  simp [strOfNums, ints]
theorem pL_i64 (kind : Int) : ∀ (n : Nat) (b : List Nat), (∀ x ∈ b, x < 256) → ∀ x ∈ Z.pL kind n b, Z.I64 x.i
  | 0, _, _, x, hx => by simp [Z.pL] at hx
  | n + 1, b, h, x, hx => by
    rw [Z.pL] at hx
    rcases List.mem_cons.1 hx with rfl | hx
    · exact oV_i64 h kind
    · exact pL_i64 kind n _ (oR_lt h kind) x hx
theorem cL_i64 {b : List Nat} {n kind : Int} (h : ∀ x ∈ b, x < 256) : ∀ x ∈ Z.cL b n kind, Z.I64 x.i := by
  unfold Z.cL
  split
  · exact pL_i64 kind _ b h
  · simp
/-- Where Of has no error. -/
theorem cE_zero {b : List Nat} {n kind : Int} (h256 : ∀ x ∈ b, x < 256) (h : Z.cE b n kind = 0) : ∃ N : Nat, n = (N : Int) ∧ (Z.cL b n kind).length = N ∧ Z.chk (Z.cL b n kind) kind = 0 ∧ Z.cb (Z.cL b n kind) kind = b := by
  have hc : Z.cL b n kind = Z.pL kind n.toNat b := by unfold Z.cL; rw [if_pos h]
  rw [hc]
  unfold Z.cE at h
  split at h
  · exact absurd h (by decide)
  · rename_i h1
    split at h
    · exact absurd h (by decide)
    · rename_i h2
      split at h
      · rename_i h3; omega
      · rename_i h3
        split at h
        · exact absurd h (by decide)
        · rename_i h4
          have h1' : Z.kindOk kind = true := by simpa using h1
          have h3' : Z.pE kind n.toNat b = 0 := by simpa using h3
          have h4' : Z.pR kind n.toNat b = [] := by simpa using h4
          obtain ⟨g1, g2⟩ := p_two (kind_cases h1') n.toNat b h256 h3'
          have h5 : Z.chk (Z.pL kind n.toNat b) kind = 0 := chk_of (kind_cases h1') (by rw [pL_length]; omega) (fun x hx => (g1 x hx).1) (fun x hx => (g1 x hx).2)
          refine ⟨n.toNat, by omega, pL_length _ _ _, h5, ?_⟩
          rw [cb_ok h5]
          rw [h4', List.append_nil] at g2
          exact g2
theorem cE_back {l : List Z.V} {kind : Int} {len : Nat} (h : Z.chk l kind = 0) (hwf : ∀ x ∈ l, Z.Wf x) (hl : l.length = len) : Z.cE (Z.cb l kind) (len : Int) kind = 0 ∧ Z.cL (Z.cb l kind) (len : Int) kind = l ∧ Z.cE (Z.cb l kind ++ [0]) (len : Int) kind = 4 := by
  have h1 := p_back kind [] l (fits h hwf)
  have h2 := p_back kind [0] l (fits h hwf)
  have h3 := (chk_zero h).2.1
  rw [List.append_nil, hl] at h1
  rw [hl] at h2
  rw [hl] at h3
  rw [cb_ok h]
  have h4 := cE_ok (kindOk_of h) h3 h1.1 h1.2.2
  refine ⟨h4, ?_, cE_behind (kindOk_of h) h3 h2.1 (by rw [h2.2.2]; simp)⟩
  unfold Z.cL
  rw [if_pos h4, Int.toNat_natCast]
  exact h1.2.1
theorem sl_zero (w : World) : Sl (w.alloc (.cells #[.int .u8 0] 5)) .u8 (some ⟨w.heap.size, 0, none⟩) 1 1 (ints [0]) := by
  refine ⟨rfl, Nat.le_refl _, by decide, by simp, .inr ⟨w.heap.size, 0, rfl, by simp, fun i hi => ?_⟩⟩
  obtain rfl : i = 0 := by omega
  simp [ints]

end Go.Proofs.YtmhfpipeoojacaaGreat
/- DictBack: what was laid down is read; what is read is laid down as the very bytes. Conditions: none. -/
namespace Go.Proofs.YtmhfpipeoojacaaGreat
set_option linter.unusedVariables false
set_option maxRecDepth 10000
open Go.RowKit
theorem dcb_lt {l : List Z.V} {kind : Int} (h : ∀ x ∈ l, Z.Wf x) : ∀ y ∈ Z.dcb l kind, y < 256 := by
  intro y hy
  unfold Z.dcb at hy
  split at hy
  · unfold Z.db at hy
    rcases List.mem_append.1 hy with hy | hy
    · exact E.leb_lt _ y hy
    · rcases List.mem_append.1 hy with hy | hy
      · exact pb_lt (fun x hx => h x (words_mem (words_of l) hx)) y hy
      · exact A.bytesOf_lt _ y hy
  · simp at hy
theorem dcb_len {l : List Z.V} {kind : Int} (h : ∀ x ∈ l, Z.Wf x) : (Z.dcb l kind).length ≤ 5000000 := by
  by_cases h0 : Z.chk l kind = 0
  · obtain ⟨_, hl, _, h2⟩ := chk_zero h0
    have hw := wds_len l
    rw [dcb_ok h0]
    unfold Z.db
    rw [List.length_append, List.length_append, A.bytesOf_length, bitsAll_length, ints_length, cdL_ok (words_cdE _), List.length_map]
    have h3 := E.leb_ten (Z.wds l).length (by omega)
    have h4 := pb_le (Z.wds l) (fun x hx => (h x (words_mem (words_of l) hx)).2.1) (fun x hx => h2 x (words_mem (words_of l) hx))
    have h5 : l.length * Z.dwd (Z.wds l).length ≤ 4096 * 12 := Nat.mul_le_mul hl (dwd_le (by omega))
    omega
  · rw [dcb_bad h0]; simp
theorem dback_is {l : List Z.V} {kind : Int} {len : Nat} (h : Z.chk l kind = 0) (hwf : ∀ x ∈ l, Z.Wf x) (hl : l.length = len) : Z.dE (Z.dcb l kind) (len : Int) kind = 0 ∧ Z.dVs (Z.dcb l kind) (len : Int) kind = l := by
  obtain ⟨h1, h2⟩ := d_back (fun x hx => (hwf x hx).2.1) h
  rw [hl] at h1 h2
  have hn := (chk_zero h).2.1
  rw [dcb_ok h]
  have h3 : Z.dE (Z.db l) (len : Int) kind = 0 := by rw [dE_is (kindOk_of h) (by omega), dN_of h1]; rfl
  refine ⟨h3, ?_⟩
  unfold Z.dVs Z.dWs Z.dCs
  rw [if_pos h3, if_pos h3, Int.toNat_natCast]
  exact h2
theorem dtwo_is {b : List Nat} {n kind : Int} (h256 : ∀ x ∈ b, x < 256) (h : Z.dE b n kind = 0) : ∃ N : Nat, n = (N : Int) ∧ (Z.dVs b n kind).length = N ∧ Z.chk (Z.dVs b n kind) kind = 0 ∧ Z.dcb (Z.dVs b n kind) kind = b := by
  obtain ⟨h1, h2, h3, h4⟩ := dE_zero h
  obtain ⟨N, rfl⟩ := Int.eq_ofNat_of_zero_le h2
  rw [Int.toNat_natCast] at h4
  obtain ⟨g1, g2, g3⟩ := d_two (kind_cases h1) (by omega) h256 h4
  have hv : Z.dVs b (N : Int) kind = Z.dV (Z.dW kind b) (Z.dC kind N b) := by
    unfold Z.dVs Z.dWs Z.dCs
    rw [if_pos h, if_pos h, Int.toNat_natCast]
  rw [hv]
  exact ⟨N, rfl, g1, g2, by rw [dcb_ok g2]; exact g3⟩
theorem dVs_i64 {b : List Nat} {n kind : Int} (h256 : ∀ x ∈ b, x < 256) : ∀ x ∈ Z.dVs b n kind, Z.I64 x.i := by
  intro x hx
  unfold Z.dVs Z.dV at hx
  obtain ⟨c, _, rfl⟩ := List.mem_map.1 hx
  by_cases hc : c < (Z.dWs b n kind).length
  · have hm := List.mem_of_getElem? (get_lt hc)
    obtain ⟨y, hy⟩ : ∃ y, (Z.dWs b n kind).getD c ⟨0, 0, ⟨#[]⟩⟩ = y := ⟨_, rfl⟩
    rw [hy] at hm ⊢
    unfold Z.dWs at hm
    split at hm
    · exact pL_i64 kind _ _ (fun x hx => h256 x (List.mem_of_mem_drop hx)) y hm
    · simp at hm
  · rw [List.getD_eq_getElem?_getD, List.getElem?_eq_none (by omega)]
    exact ⟨by decide, by decide⟩
end Go.Proofs.YtmhfpipeoojacaaGreat
/- DictBytes: any values' words, codes, and bytes, and any bytes as so many values, are the document's, or refused. Conditions: none. -/
namespace Go.Proofs.YtmhfpipeoojacaaGreat
set_option linter.unusedVariables false
set_option maxRecDepth 10000
open Go.RowKit
theorem dE_few (b : List Nat) (n kind : Int) : (Z.dWs b n kind).length ≤ 4096 ∧ (Z.dCs b n kind).length ≤ 4096 ∧ (Z.dVs b n kind).length ≤ 4096 := by
  by_cases h : Z.dE b n kind = 0
  · obtain ⟨g0, g1, g2, g3, _⟩ := dE_ok h
    refine ⟨g2, by omega, ?_⟩
    unfold Z.dVs
    rw [dV_length]
    omega
  · obtain ⟨h1, h2, h3⟩ := dWs_bad h
    rw [h1, h2, h3]; simp
set_option maxHeartbeats 4000000 in
theorem dictBytes_in (w : World) (a : Option Addr) (len cap : Nat) (l : List Z.V) (hs : SlV w a len cap l) (hwf : ∀ x ∈ l, Z.Wf x) (hr : cap * 32 ≤ 140737488351232) (kind : Int) (a1 : Option Addr) (len1 cap1 : Nat) (b : List Nat) (hb : Sl w .u8 a1 len1 cap1 (ints b)) (h256 : ∀ x ∈ b, x < 256) (hr1 : cap1 * 1 ≤ 140737488351232) (n : Int) :
    Calls Tryz.prog 3 #[.slice a len cap, .int .i64 kind, .slice a1 len1 cap1, .int .i64 n] w fun e w' => e = .returned (.bool true) ∧ Below w.heap.size w w' := by
  have hlen : len ≤ 140737488351232 := by have := hs.2.1; omega
  have hlen1 : len1 ≤ 140737488351232 := by have := hb.2.1; omega
  have HS := hide hs
  have HB := hide hb
  have H256 := hide h256
  have HWF := hide hwf
  clear hs hb hwf hr hr1 h256
  go_enter Tryz.func3, Tryz.ntmps3
  go_wp2_with fail
  refine (dshown_any _).mono ?_
  rintro e w1 ⟨rfl, hb⟩
  have b0 := hide hb
  clear hb
  go_wp2_with fail
  refine (dfew_any a len cap l _ (HS.out.below b0.out) (by omega)).mono ?_
  rintro e w2 ⟨q, rfl, hq, rfl⟩
  cases q with
  | false =>
    go_wp2
    go_ret
    exact ⟨rfl, b0.out⟩
  | true =>
    have hl1 := hq rfl
    clear hq
    obtain ⟨f1, f2, f3⟩ := dE_few b n kind
    obtain ⟨xs, hxs⟩ : ∃ xs, Z.dcb l kind = xs := ⟨_, rfl⟩
    obtain ⟨K, hK⟩ : ∃ K, xs.length = K := ⟨_, rfl⟩
    obtain ⟨E, hE⟩ : ∃ E, Z.chk l kind = E := ⟨_, rfl⟩
    obtain ⟨X, hX⟩ : ∃ X, Z.dE b n kind = X := ⟨_, rfl⟩
    obtain ⟨vs, hvs⟩ : ∃ vs, Z.dVs b n kind = vs := ⟨_, rfl⟩
    obtain ⟨N, hN⟩ : ∃ N, vs.length = N := ⟨_, rfl⟩
    obtain ⟨us, hus⟩ : ∃ us, Z.dWs b n kind = us := ⟨_, rfl⟩
    obtain ⟨M, hM⟩ : ∃ M, us.length = M := ⟨_, rfl⟩
    obtain ⟨cs, hcs⟩ : ∃ cs, Z.dCs b n kind = cs := ⟨_, rfl⟩
    obtain ⟨C, hC⟩ : ∃ C, cs.length = C := ⟨_, rfl⟩
    have hN4 : N ≤ 4096 := by rw [← hN, ← hvs]; exact f3
    have hM4 : M ≤ 4096 := by rw [← hM, ← hus]; exact f1
    have hC4 : C ≤ 4096 := by rw [← hC, ← hcs]; exact f2
    have D1 : Hid (∀ w9 : World, Below w.heap.size w w9 → Calls Tryz.prog 6 #[.slice a len cap, .int .i64 kind] w9 fun e w' => ∃ a c, e = .returned (.tuple #[.slice a K c, .int .i64 E]) ∧ Sl w' .u8 a K c (ints xs) ∧ Below w9.heap.size w9 w') := fun w9 h9 => by
      have := dbytes_any a len cap l kind w9 (HS.out.below h9) (fun x hx => (HWF.out x hx).2.1)
      unfold DictBytesAns at this
      rwa [hxs, hK, hE] at this
    have D2 : Hid (∀ w9 : World, Below w.heap.size w w9 → Calls Tryz.prog 7 #[.slice a len cap, .int .i64 kind] w9 fun e w' => ∃ a c, e = .returned (.tuple #[.slice a K c, .int .i64 E]) ∧ Sl w' .u8 a K c (ints xs) ∧ Below w9.heap.size w9 w') := fun w9 h9 => by
      have := rdbytes_any a len cap l kind w9 (HS.out.below h9) HWF.out
      unfold DictBytesAns at this
      rwa [hxs, hK, hE] at this
    have D3 : Hid (∀ w9 : World, Below w.heap.size w w9 → Calls Tryz.prog 8 #[.slice a1 len1 cap1, .int .i64 n, .int .i64 kind] w9 fun e w' => ∃ a c, e = .returned (.tuple #[.slice a N c, .int .i64 X]) ∧ SlV w' a N c vs ∧ Below w9.heap.size w9 w') := fun w9 h9 => by
      have := dof_any a1 len1 cap1 b n kind w9 (HB.out.below h9) H256.out (by omega)
      unfold DictOfAns at this
      rwa [hvs, hN, hX] at this
    have D4 : Hid (∀ w9 : World, Below w.heap.size w w9 → Calls Tryz.prog 9 #[.slice a1 len1 cap1, .int .i64 n, .int .i64 kind] w9 fun e w' => ∃ a c, e = .returned (.tuple #[.slice a N c, .int .i64 X]) ∧ SlV w' a N c vs ∧ Below w9.heap.size w9 w') := fun w9 h9 => by
      have := rdof_any a1 len1 cap1 b n kind w9 (HB.out.below h9) H256.out (by omega)
      unfold DictOfAns at this
      rwa [hvs, hN, hX] at this
    have D5 : Hid (∀ w9 : World, Below w.heap.size w w9 → Calls Tryz.prog 10 #[.slice a1 len1 cap1, .int .i64 n, .int .i64 kind] w9 fun e w' => ∃ a1 c1 a2 c2, e = .returned (.tuple #[.slice a1 M c1, .slice a2 C c2, .int .i64 X]) ∧ SlV w' a1 M c1 us ∧ Sl w' .u64 a2 C c2 (ints cs) ∧ Below w9.heap.size w9 w') := fun w9 h9 => by
      have := tocodes_any a1 len1 cap1 b n kind w9 (HB.out.below h9) H256.out (by omega)
      unfold ToCodesAns at this
      rwa [hus, hM, hcs, hC, hX] at this
    have D6 : Hid (∀ w9 : World, Below w.heap.size w w9 → Calls Tryz.prog 11 #[.slice a1 len1 cap1, .int .i64 n, .int .i64 kind] w9 fun e w' => ∃ a1 c1 a2 c2, e = .returned (.tuple #[.slice a1 M c1, .slice a2 C c2, .int .i64 X]) ∧ SlV w' a1 M c1 us ∧ Sl w' .u64 a2 C c2 (ints cs) ∧ Below w9.heap.size w9 w') := fun w9 h9 => by
      have := rtocodes_any a1 len1 cap1 b n kind w9 (HB.out.below h9) H256.out (by omega)
      unfold ToCodesAns at this
      rwa [hus, hM, hcs, hC, hX] at this
    have D7 : Hid (∀ w9 : World, Below w.heap.size w w9 → Calls Tryz.prog 14 #[.slice a len cap] w9 (WordsAns w9 l)) := fun w9 h9 => words_some a len cap l w9 (HS.out.below h9) (by omega)
    have D8 : Hid (∀ w9 : World, Below w.heap.size w w9 → Calls Tryz.prog 15 #[.slice a len cap] w9 (RWordsAns w9 l)) := fun w9 h9 => rwords_any a len cap l w9 (HS.out.below h9) (fun x hx => (HWF.out x hx).2.2) (by omega)
    have HWL : Hid ((Z.wds l).length ≤ 1000) := by
      have h1 := wds_len l
      have h2 := HS.out.1
      show _ ≤ _
      omega
    clear hxs hK hE hX hvs hN hus hM hcs hC f1 f2 f3
    go_wp2_with fail
    refine (D1.out _ b0.out).mono ?_
    rintro e w3 ⟨xa, xc, rfl, hs3, hb⟩
    replace b0 := hide (bthen b0.out hb)
    have HXX := hide hs3
    clear hb hs3
    go_wp2_with fail
    refine (D2.out _ b0.out).mono ?_
    rintro e w4 ⟨ya, yc, rfl, hs4, hb⟩
    replace b0 := hide (bthen b0.out hb)
    replace HXX := hide (HXX.out.below hb)
    have HYY := hide hs4
    clear hb hs4
    go_wp2_with fail
    refine (D3.out _ b0.out).mono ?_
    rintro e w5 ⟨pa, pc, rfl, hs5, hb⟩
    replace b0 := hide (bthen b0.out hb)
    replace HXX := hide (HXX.out.below hb)
    replace HYY := hide (HYY.out.below hb)
    have HPP := hide hs5
    clear hb hs5
    go_wp2_with fail
    refine (D4.out _ b0.out).mono ?_
    rintro e w6 ⟨qa, qc, rfl, hs6, hb⟩
    replace b0 := hide (bthen b0.out hb)
    replace HXX := hide (HXX.out.below hb)
    replace HYY := hide (HYY.out.below hb)
    replace HPP := hide (HPP.out.below hb)
    have HQQ := hide hs6
    clear hb hs6
    go_wp2_with fail
    refine (D5.out _ b0.out).mono ?_
    rintro e w7 ⟨ua, uc, va, vc, rfl, hs7, ht7, hb⟩
    replace b0 := hide (bthen b0.out hb)
    replace HXX := hide (HXX.out.below hb)
    replace HYY := hide (HYY.out.below hb)
    replace HPP := hide (HPP.out.below hb)
    replace HQQ := hide (HQQ.out.below hb)
    have HUU := hide hs7
    have HVV := hide ht7
    clear hb hs7 ht7
    go_wp2_with fail
    refine (D6.out _ b0.out).mono ?_
    rintro e w8 ⟨wa, wc, za, zc, rfl, hs8, ht8, hb⟩
    replace b0 := hide (bthen b0.out hb)
    replace HXX := hide (HXX.out.below hb)
    replace HYY := hide (HYY.out.below hb)
    replace HPP := hide (HPP.out.below hb)
    replace HQQ := hide (HQQ.out.below hb)
    replace HUU := hide (HUU.out.below hb)
    replace HVV := hide (HVV.out.below hb)
    have HWW := hide hs8
    have HZZ := hide ht8
    clear hb hs8 ht8 D1 D2 D3 D4 D5 D6
    go_wp2_with fail
    refine (vsame_yes ua wa M uc wc us _ HUU.out HWW.out (by omega)).mono ?_
    rintro e w9 ⟨rfl, hb⟩
    replace b0 := hide (bthen b0.out hb)
    replace HXX := hide (HXX.out.below hb)
    replace HYY := hide (HYY.out.below hb)
    replace HPP := hide (HPP.out.below hb)
    replace HQQ := hide (HQQ.out.below hb)
    replace HVV := hide (HVV.out.below hb)
    replace HZZ := hide (HZZ.out.below hb)
    clear hb HUU HWW
    go_wp2_with fail
    refine (u64same_yes va za C vc zc (ints cs) _ HVV.out HZZ.out (by omega)).mono ?_
    rintro e w10 ⟨rfl, hk⟩
    have hb := hk.below (Nat.le_refl _) (by simp)
    replace b0 := hide (bthen b0.out hb)
    replace HXX := hide (HXX.out.below hb)
    replace HYY := hide (HYY.out.below hb)
    replace HPP := hide (HPP.out.below hb)
    replace HQQ := hide (HQQ.out.below hb)
    clear hb hk HVV HZZ
    have hxx : (X != X) = false := by simp
    go_wp2_with fail
    refine (D7.out _ b0.out).mono ?_
    rintro e w11 ⟨ma, m, mc, rfl, hs11, _, hb⟩
    replace b0 := hide (bthen b0.out hb)
    replace HXX := hide (HXX.out.below hb)
    replace HYY := hide (HYY.out.below hb)
    replace HPP := hide (HPP.out.below hb)
    replace HQQ := hide (HQQ.out.below hb)
    have HMM := hide hs11
    clear hb hs11 D7
    go_wp2_with fail
    refine (D8.out _ b0.out).mono ?_
    rintro e w12 ⟨v12, rfl, ho12, hb⟩
    replace b0 := hide (bthen b0.out hb)
    replace HXX := hide (HXX.out.below hb)
    replace HYY := hide (HYY.out.below hb)
    replace HPP := hide (HPP.out.below hb)
    replace HQQ := hide (HQQ.out.below hb)
    replace HMM := hide (HMM.out.below hb)
    obtain ⟨na, nc, hv, hsn, _⟩ := SlV.of_own ho12
    have hml : (Z.wds l).length = m := HMM.out.1
    have hm1 : m ≤ 1000 := by rw [← hml]; exact HWL.out
    rw [hml] at hv hsn
    subst hv
    have HNN := hide hsn
    clear hb hsn hml ho12 D8 HWL
    go_wp2_with fail
    refine (vsame_yes ma na m mc nc (Z.wds l) _ HMM.out HNN.out (by omega)).mono ?_
    rintro e w13 ⟨rfl, hb⟩
    replace b0 := hide (bthen b0.out hb)
    replace HXX := hide (HXX.out.below hb)
    replace HYY := hide (HYY.out.below hb)
    replace HPP := hide (HPP.out.below hb)
    replace HQQ := hide (HQQ.out.below hb)
    clear hb HMM HNN
    have t1 := str_of HXX.out
    have t2 := str_of HYY.out
    obtain ⟨S, hS⟩ : ∃ S, strOfNums (ints xs) = S := ⟨_, rfl⟩
    rw [hS] at t1 t2
    have hss : (S.toList == S.toList) = true := by simp
    have hee : (E == E) = true := by simp
    have hxe : (X == X) = true := by simp
    clear hS HXX HYY
    go_wp2_with fail
    refine (vsame_yes pa qa N pc qc vs _ HPP.out HQQ.out (by omega)).mono ?_
    rintro e w14 ⟨rfl, hb⟩
    replace b0 := hide (bthen b0.out hb)
    clear hb HPP HQQ t1 t2
    go_wp2
    go_ret
    exact ⟨rfl, b0.out⟩
theorem dictBytes_walk (w : World) (a : Option Addr) (len cap : Nat) (l : List Z.V) (hs : SlV w a len cap l) (hwf : ∀ x ∈ l, Z.Wf x) (hr : cap * 32 ≤ 140737488351232) (kind : Int) (wk : (Lit.int .i64 kind).wf = true) (a1 : Option Addr) (len1 cap1 : Nat) (z : List Int) (c : Came .u8 w a1 len1 cap1 z) (hr1 : cap1 * 1 ≤ 140737488351232) (n : Int) (wn : (Lit.int .i64 n).wf = true) :
    Calls Tryz.prog 3 #[.slice a len cap, .int .i64 kind, .slice a1 len1 cap1, .int .i64 n] w fun e w' => e = .returned (.bool true) ∧ Below w.heap.size w w' := by
  obtain ⟨b, rfl, h256⟩ := came_bytes c
  exact dictBytes_in w a len cap l hs hwf hr kind a1 len1 cap1 b c.1 h256 hr1 n
end Go.Proofs.YtmhfpipeoojacaaGreat

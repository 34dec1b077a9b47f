/- Bytes: a column's values laid down. -/
import Derived.Test.YthcnfbjljkighaaBdM
import Derived.Test.YthcnfbjljkighaaBdN
namespace Go.Proofs.Ythcnfbjljkighaa
set_option linter.unusedVariables false
open Go.RowKit

/-- What Bytes tells: nothing beside an error. -/
def Z.cb (l : List Z.V) (kind : Int) : List Nat := if Z.chk l kind = 0 then Z.pb l else []
theorem cb_bad {l : List Z.V} {kind : Int} (h : Z.chk l kind ≠ 0) : Z.cb l kind = [] := by unfold Z.cb; rw [if_neg h]
theorem cb_ok {l : List Z.V} {kind : Int} (h : Z.chk l kind = 0) : Z.cb l kind = Z.pb l := by unfold Z.cb; rw [if_pos h]
theorem bl_may {x : Z.V} (h : Z.may x = true) : Z.bl x = Z.lb x := by unfold Z.bl; rw [h]; rfl
theorem pb_take {l : List Z.V} {j : Nat} {x : Z.V} (h : l[j]? = some x) : Z.pb (l.take j) ++ Z.lb x = Z.pb (l.take (j + 1)) := by rw [take_snocV h, pb_snoc]
/-- A value's bytes are few. -/
theorem lb_le {x : Z.V} (hi : Z.I64 x.i) (h : Z.may x = true) : (Z.lb x).length ≤ 1034 := by
  obtain ⟨k, i, s⟩ := x
  rcases may_kind h with rfl | rfl | rfl | rfl
  · rw [lb_else (by decide) (by decide) (by decide)]; simp
  · rw [lb_int]
    have := E.leb_ten _ (E.zig_lt i hi.1 hi.2)
    omega
  · rw [lb_float, Z.k8_length]; omega
  · have hsz := may_size h
    rw [lb_text, List.length_append, sb_length]
    have := E.leb_ten s.size (by omega)
    omega
theorem pb_le : ∀ l : List Z.V, (∀ x ∈ l, Z.I64 x.i) → (∀ x ∈ l, Z.may x = true) → (Z.pb l).length ≤ 1034 * l.length
  | [], _, _ => by simp [Z.pb]
  | x :: l, h1, h2 => by
    have a1 := lb_le (h1 x (by simp)) (h2 x (by simp))
    have a2 := pb_le l (fun y hy => h1 y (by simp [hy])) (fun y hy => h2 y (by simp [hy]))
    rw [pb_cons, List.length_append, List.length_cons]
    omega
theorem pb_take_le {l : List Z.V} (h1 : ∀ x ∈ l, Z.I64 x.i) (h2 : ∀ x ∈ l, Z.may x = true) (j : Nat) : (Z.pb (l.take j)).length ≤ 1034 * l.length := by
  have := pb_le (l.take j) (fun y hy => h1 y (List.mem_of_mem_take hy)) (fun y hy => h2 y (List.mem_of_mem_take hy))
  rw [List.length_take] at this
  omega
/-- What Bytes answers. -/
def ColBytes (l : List Z.V) (kind : Int) (w : World) (e : Ending) (w' : World) : Prop := ∃ a c, e = .returned (.tuple #[.slice a (Z.cb l kind).length c, .int .i64 (Z.chk l kind)]) ∧ Sl w' .u8 a (Z.cb l kind).length c (ints (Z.cb l kind)) ∧ Below w.heap.size w w'
theorem ColBytes.no {l : List Z.V} {kind E : Int} {w w' : World} (h : Z.chk l kind = E) (h0 : E ≠ 0) (hb : Below w.heap.size w w') : ColBytes l kind w (.returned (.tuple #[.slice none 0 0, .int .i64 E])) w' := by
  unfold ColBytes; rw [cb_bad (by rw [h]; exact h0), h]
  exact ⟨none, 0, rfl, Sl.nil _ _, hb⟩
theorem ColBytes.yes {l : List Z.V} {kind : Int} {w w' : World} {B : Nat} {v : Value} (h : Z.chk l kind = 0) (ho : w'.ownsRow B 5 1 v (Z.pb l).length (B8 (Z.pb l))) (hb : Below w.heap.size w w') : ColBytes l kind w (.returned (.tuple #[v, .int .i64 0])) w' := by
  obtain ⟨a, c, rfl, hs, _⟩ := Sl.of_bytes ho
  unfold ColBytes; rw [cb_ok h, h]
  exact ⟨a, c, rfl, hs, hb⟩

set_option maxHeartbeats 1000000 in
theorem pbytes_some (b off len cap : Nat) (l : List Z.V) (kind : Int) (w : World) (h : SlV w (some ⟨b, off, none⟩) len cap l) (hI : ∀ x ∈ l, Z.I64 x.i) (h0 : Z.chk l kind = 0) (hlt : b < w.heap.size)
    (hc : ∀ j x, l[j]? = some x → w.cell? ⟨b, off + j * 3, none⟩ = some (.int .i64 x.k) ∧ w.cell? ⟨b, off + j * 3 + 1, none⟩ = some (.int .i64 x.i) ∧ w.cell? ⟨b, off + j * 3 + 2, none⟩ = some (.string x.s)) :
    Calls Try.prog 10 #[.slice (some ⟨b, off, none⟩) len cap, .int .i64 kind] w (ColBytes l kind w) := by
  have HC := hide hc
  have HL := hide h.1
  have HI := hide hI
  have HK := hide h0
  have hm : len ≤ 4096 := by rw [← h.1]; exact (chk_zero h0).2.1
  have HM := hide (chk_zero h0).2.2.2
  have HCK := hide (check_any _ _ _ l kind w h hI)
  clear hc hI h0 h
  go_enter Try.func10, Try.ntmps10
  go_wp2_with fail
  refine HCK.out.mono ?_
  rintro e w1 ⟨rfl, hb1⟩
  rw [HK.out]
  replace hb1 := hide hb1
  clear HCK
  go_wp2_with fail
  go_loopw [7, 20] (fun v i wr => ∃ j : Nat, j ≤ len ∧ i = .int .i64 j ∧ Hid (wr.ownsRow w.heap.size 5 1 v (Z.pb (l.take j)).length (B8 (Z.pb (l.take j)))) ∧ Hid (Below w.heap.size w wr)) (fun _ i _ => len - (intOf i).toNat)
  case atStart => exact ⟨0, Nat.zero_le _, rfl, hide (World.ownsRow_nil _ _ _ _), hb1⟩
  case round =>
    obtain ⟨j, hj, rfl, hrow, hbw⟩ := hrel
    by_cases hjl : j < len
    · obtain ⟨⟨xk, xi, xs⟩, hx⟩ : ∃ x, l[j]? = some x := ⟨l[j]'(by rw [HL.out]; exact hjl), List.getElem?_eq_getElem _⟩
      obtain ⟨c1, c2, c3⟩ := HC.out j _ hx
      have d1 : wr.cell? ⟨b, off + j * 3, none⟩ = some (.int .i64 xk) := by rw [hbw.out.cell (p := ⟨b, off + j * 3, none⟩) hlt]; exact c1
      have d2 : wr.cell? ⟨b, off + j * 3 + 1, none⟩ = some (.int .i64 xi) := by rw [hbw.out.cell (p := ⟨b, off + j * 3 + 1, none⟩) hlt]; exact c2
      have d3 : wr.cell? ⟨b, off + j * 3 + 2, none⟩ = some (.string xs) := by rw [hbw.out.cell (p := ⟨b, off + j * 3 + 2, none⟩) hlt]; exact c3
      have HX := hide hx
      clear c1 c2 c3 hx
      have HXM := hide (HM.out _ (List.mem_of_getElem? HX.out))
      have HXI := hide (HI.out _ (List.mem_of_getElem? HX.out))
      have HLE := hide (pb_take_le HI.out HM.out j)
      have HLB := hide (lb_le HXI.out HXM.out)
      go_wp2_with fail
      refine (vbytes_any _ _ _ _ HXI.out).mono ?_
      rintro e w2 ⟨qa, qc, rfl, hs2, hb2⟩
      rw [bl_may HXM.out]
      rw [bl_may HXM.out] at hs2
      have hbm : Below w.heap.size w w2 := bthen (bthen hbw.out (below_one wr _)) hb2
      have hrow2 : w2.ownsRow w.heap.size 5 1 u7 (Z.pb (l.take j)).length (B8 (Z.pb (l.take j))) := owns_below (hrow.out.alloc _) hb2
      have hsz := hbm.size
      obtain ⟨m, hmm⟩ : ∃ m, (Z.lb ⟨xk, xi, xs⟩).length = m := ⟨_, rfl⟩
      rw [hmm]
      rw [hmm] at hs2
      have HMM := hide hmm
      have HBM := hide hbm
      have HS2 := hide hs2
      have HR2 := hide hrow2
      clear hmm hbm hs2 hrow2 hb2 d1 d2 d3
      go_wp2_with (at_builtin; refine wpList_app rfl _ _ rfl w.heap.size u7 (Z.pb (l.take j)) rfl HR2.out qa m qc (Z.lb ⟨xk, xi, xs⟩) rfl HS2.out ?c0 hsz (Z.pb (l.take (j + 1))) (pb_take HX.out) ?_)
      case c0 =>
        have h1 := HLE.out
        have h2 := HLB.out
        have h3 := HMM.out
        rw [HL.out] at h1
        omega
      intro v3 w3 hown has
      have hb3 : Below w.heap.size w w3 := HBM.out.trans (has.below hsz (fun k hk => (owns_lt HR2.out hk).1))
      have HB3 := hide hb3
      have HO := hide hown
      clear hb3 hown has
      go_wp2
      go_roundw
      case rel => exact ⟨j + 1, hjl, by go_num, HO, HB3⟩
      case measure => simp [intOf]; omega
    · obtain rfl : j = len := by omega
      have hll : l.take j = l := by rw [← HL.out, List.take_length]
      have HR : Hid (wr.ownsRow w.heap.size 5 1 u7 (Z.pb l).length (B8 (Z.pb l))) := by
        have := hrow.out
        rwa [hll] at this
      clear hll hrow
      go_wp2
      go_ret2
      exact ColBytes.yes HK.out HR.out hbw.out
theorem pbytes_none (ao : Option Addr) (cap : Nat) (kind : Int) (w : World) (h : SlV w ao 0 cap []) (h0 : Z.chk [] kind = 0) :
    Calls Try.prog 10 #[.slice ao 0 cap, .int .i64 kind] w (ColBytes [] kind w) := by
  have HK := hide h0
  have HCK := hide (check_any _ _ _ [] kind w h (by simp))
  clear h h0
  go_enter Try.func10, Try.ntmps10
  go_wp2_with fail
  refine HCK.out.mono ?_
  rintro e w1 ⟨rfl, hb1⟩
  rw [HK.out]
  replace hb1 := hide hb1
  clear HCK
  go_wp2_with fail
  go_rounds 1
  go_ret2
  exact ColBytes.yes (B := 0) HK.out (World.ownsRow_nil _ _ _ _) hb1.out
theorem pbytes_any (ao : Option Addr) (len cap : Nat) (l : List Z.V) (kind : Int) (w : World) (h : SlV w ao len cap l) (hI : ∀ x ∈ l, Z.I64 x.i) :
    Calls Try.prog 10 #[.slice ao len cap, .int .i64 kind] w (ColBytes l kind w) := by
  by_cases h0 : Z.chk l kind = 0
  · rcases h.2.2.2.2 with h5 | ⟨b, off, rfl, hlt, h5⟩
    · subst h5
      obtain rfl : l = [] := List.eq_nil_of_length_eq_zero h.1
      exact pbytes_none ao cap kind w h h0
    · exact pbytes_some b off len cap l kind w h hI h0 hlt h5
  · have HCK := hide (check_any _ _ _ l kind w h hI)
    obtain ⟨E, hE⟩ : ∃ E, Z.chk l kind = E := ⟨_, rfl⟩
    have HE := hide hE
    have hE0 : (E != 0) = true := by rw [← hE]; simpa using h0
    have HE0 := hide (show E ≠ 0 by rw [← hE]; exact h0)
    clear h hI hE h0
    go_enter Try.func10, Try.ntmps10
    go_wp2_with fail
    refine HCK.out.mono ?_
    rintro e w1 ⟨rfl, hb1⟩
    rw [HE.out]
    replace hb1 := hide hb1
    clear HCK
    go_wp2
    go_ret2
    exact ColBytes.no HE.out HE0.out hb1.out
set_option maxHeartbeats 1000000 in
theorem rbytes_some (b off len cap : Nat) (l : List Z.V) (kind : Int) (w : World) (h : SlV w (some ⟨b, off, none⟩) len cap l) (hI : ∀ x ∈ l, Z.I64 x.i) (h0 : Z.chk l kind = 0) (hlt : b < w.heap.size)
    (hc : ∀ j x, l[j]? = some x → w.cell? ⟨b, off + j * 3, none⟩ = some (.int .i64 x.k) ∧ w.cell? ⟨b, off + j * 3 + 1, none⟩ = some (.int .i64 x.i) ∧ w.cell? ⟨b, off + j * 3 + 2, none⟩ = some (.string x.s)) :
    Calls Try.prog 11 #[.slice (some ⟨b, off, none⟩) len cap, .int .i64 kind] w (ColBytes l kind w) := by
  have HC := hide hc
  have HL := hide h.1
  have HI := hide hI
  have HK := hide h0
  have hm : len ≤ 4096 := by rw [← h.1]; exact (chk_zero h0).2.1
  have HM := hide (chk_zero h0).2.2.2
  have HCK := hide (rcheck_any _ _ _ l kind w h hI)
  clear hc hI h0 h
  go_enter Try.func11, Try.ntmps11
  go_wp2_with fail
  refine HCK.out.mono ?_
  rintro e w1 ⟨rfl, hb1⟩
  rw [HK.out]
  replace hb1 := hide hb1
  clear HCK
  go_wp2_with fail
  go_loopw [7, 8] (fun v i wr => ∃ j : Nat, j ≤ len ∧ i = .int .i64 j ∧ Hid (wr.ownsRow w.heap.size 5 1 v (Z.pb (l.take j)).length (B8 (Z.pb (l.take j)))) ∧ Hid (Below w.heap.size w wr)) (fun _ i _ => len - (intOf i).toNat)
  case atStart => exact ⟨0, Nat.zero_le _, rfl, hide (World.ownsRow_nil _ _ _ _), hb1⟩
  case round =>
    obtain ⟨j, hj, rfl, hrow, hbw⟩ := hrel
    by_cases hjl : j < len
    · obtain ⟨⟨xk, xi, xs⟩, hx⟩ : ∃ x, l[j]? = some x := ⟨l[j]'(by rw [HL.out]; exact hjl), List.getElem?_eq_getElem _⟩
      obtain ⟨c1, c2, c3⟩ := HC.out j _ hx
      have d1 : wr.cell? ⟨b, off + j * 3, none⟩ = some (.int .i64 xk) := by rw [hbw.out.cell (p := ⟨b, off + j * 3, none⟩) hlt]; exact c1
      have d2 : wr.cell? ⟨b, off + j * 3 + 1, none⟩ = some (.int .i64 xi) := by rw [hbw.out.cell (p := ⟨b, off + j * 3 + 1, none⟩) hlt]; exact c2
      have d3 : wr.cell? ⟨b, off + j * 3 + 2, none⟩ = some (.string xs) := by rw [hbw.out.cell (p := ⟨b, off + j * 3 + 2, none⟩) hlt]; exact c3
      have HX := hide hx
      clear c1 c2 c3 hx
      have HXM := hide (HM.out _ (List.mem_of_getElem? HX.out))
      have HXI := hide (HI.out _ (List.mem_of_getElem? HX.out))
      have HLE := hide (pb_take_le HI.out HM.out j)
      have HLB := hide (lb_le HXI.out HXM.out)
      go_wp2_with fail
      refine (ubytes_any _ _ _ _ HXI.out).mono ?_
      rintro e w2 ⟨qa, qc, rfl, hs2, hb2⟩
      rw [bl_may HXM.out]
      rw [bl_may HXM.out] at hs2
      have hbm : Below w.heap.size w w2 := bthen hbw.out hb2
      have hrow2 : w2.ownsRow w.heap.size 5 1 u7 (Z.pb (l.take j)).length (B8 (Z.pb (l.take j))) := owns_below hrow.out hb2
      have hsz := hbm.size
      obtain ⟨m, hmm⟩ : ∃ m, (Z.lb ⟨xk, xi, xs⟩).length = m := ⟨_, rfl⟩
      rw [hmm]
      rw [hmm] at hs2
      have HMM := hide hmm
      have HBM := hide hbm
      have HS2 := hide hs2
      have HR2 := hide hrow2
      clear hmm hbm hs2 hrow2 hb2 d1 d2 d3
      go_wp2_with (at_builtin; refine wpList_app rfl _ _ rfl w.heap.size u7 (Z.pb (l.take j)) rfl HR2.out qa m qc (Z.lb ⟨xk, xi, xs⟩) rfl HS2.out ?c0 hsz (Z.pb (l.take (j + 1))) (pb_take HX.out) ?_)
      case c0 =>
        have h1 := HLE.out
        have h2 := HLB.out
        have h3 := HMM.out
        rw [HL.out] at h1
        omega
      intro v3 w3 hown has
      have hb3 : Below w.heap.size w w3 := HBM.out.trans (has.below hsz (fun k hk => (owns_lt HR2.out hk).1))
      have HB3 := hide hb3
      have HO := hide hown
      clear hb3 hown has
      go_wp2
      go_roundw
      case rel => exact ⟨j + 1, hjl, by go_num, HO, HB3⟩
      case measure => simp [intOf]; omega
    · obtain rfl : j = len := by omega
      have hll : l.take j = l := by rw [← HL.out, List.take_length]
      have HR : Hid (wr.ownsRow w.heap.size 5 1 u7 (Z.pb l).length (B8 (Z.pb l))) := by
        have := hrow.out
        rwa [hll] at this
      clear hll hrow
      go_wp2
      go_ret2
      exact ColBytes.yes HK.out HR.out hbw.out
theorem rbytes_none (ao : Option Addr) (cap : Nat) (kind : Int) (w : World) (h : SlV w ao 0 cap []) (h0 : Z.chk [] kind = 0) :
    Calls Try.prog 11 #[.slice ao 0 cap, .int .i64 kind] w (ColBytes [] kind w) := by
  have HK := hide h0
  have HCK := hide (rcheck_any _ _ _ [] kind w h (by simp))
  clear h h0
  go_enter Try.func11, Try.ntmps11
  go_wp2_with fail
  refine HCK.out.mono ?_
  rintro e w1 ⟨rfl, hb1⟩
  rw [HK.out]
  replace hb1 := hide hb1
  clear HCK
  go_wp2_with fail
  go_rounds 1
  go_ret2
  exact ColBytes.yes (B := 0) HK.out (World.ownsRow_nil _ _ _ _) hb1.out
theorem rbytes_any (ao : Option Addr) (len cap : Nat) (l : List Z.V) (kind : Int) (w : World) (h : SlV w ao len cap l) (hI : ∀ x ∈ l, Z.I64 x.i) :
    Calls Try.prog 11 #[.slice ao len cap, .int .i64 kind] w (ColBytes l kind w) := by
  by_cases h0 : Z.chk l kind = 0
  · rcases h.2.2.2.2 with h5 | ⟨b, off, rfl, hlt, h5⟩
    · subst h5
      obtain rfl : l = [] := List.eq_nil_of_length_eq_zero h.1
      exact rbytes_none ao cap kind w h h0
    · exact rbytes_some b off len cap l kind w h hI h0 hlt h5
  · have HCK := hide (rcheck_any _ _ _ l kind w h hI)
    obtain ⟨E, hE⟩ : ∃ E, Z.chk l kind = E := ⟨_, rfl⟩
    have HE := hide hE
    have hE0 : (E != 0) = true := by rw [← hE]; simpa using h0
    have HE0 := hide (show E ≠ 0 by rw [← hE]; exact h0)
    clear h hI hE h0
    go_enter Try.func11, Try.ntmps11
    go_wp2_with fail
    refine HCK.out.mono ?_
    rintro e w1 ⟨rfl, hb1⟩
    rw [HE.out]
    replace hb1 := hide hb1
    clear HCK
    go_wp2
    go_ret2
    exact ColBytes.no HE.out HE0.out hb1.out
end Go.Proofs.Ythcnfbjljkighaa
/- The contracts of val's toText, toFloat. -/
namespace Go.Proofs.Ythcnfbjljkighaa
set_option linter.unusedVariables false
open Go.RowKit

theorem vtotext_any (ao : Option Addr) (len cap : Nat) (l : List Nat) (w : World) (h : Sl w .u8 ao len cap (ints l)) (h256 : ∀ x ∈ l, x < 256) (hm : len ≤ 140737488355328) :
    Calls Try.prog 42 #[.slice ao len cap] w (OfAns l 3 w) := by
  have hA := At.new w 0 0 ⟨#[]⟩
  have b0 := hide (below_one w (.cells #[.int .i64 0, .int .i64 0, .string ⟨#[]⟩] 41))
  have HT := hide (totext_any ao len cap l 1024 _ (h.below b0.out) h256 hm (by omega) (by omega))
  clear h
  by_cases hg : E.xE 1024 l = 0
  · have HS : Hid (E.yS 1024 l = E.xS l) := by show _ = _; unfold E.yS; rw [if_pos hg]
    have HR : Hid (E.yR 1024 l = E.xR l) := by show _ = _; unfold E.yR; rw [if_pos hg]
    have HE := hide hg
    have HO := hide ((oE_text l).trans hg)
    clear hg
    go_enter Try.func42, Try.ntmps42
    go_wp2_with fail
    refine HT.out.mono ?_
    rintro e w1 ⟨v1, v2, rfl, ⟨rfl, q2, c2, rfl, hs2⟩, hb⟩
    rw [HE.out, HS.out, HR.out]
    rw [HR.out] at hs2
    replace hA := hA.below hb
    replace b0 := hide (bthen b0.out hb)
    replace hs2 := hide hs2
    obtain ⟨x, hx⟩ : ∃ x, strOfNums (ints (E.xS l)) = x := ⟨_, rfl⟩
    obtain ⟨n2, hn2⟩ : ∃ n2, (E.xR l).length = n2 := ⟨_, rfl⟩
    rw [hx, hn2]
    rw [hn2] at hs2
    have HX := hide hx
    have HN2 := hide hn2
    clear hb hx hn2 HT h256 HS HR HE
    obtain ⟨a1, a2, a3⟩ := hA.cells
    obtain ⟨f1, f2, f3⟩ := hA.thawed
    replace hA := hide hA
    go_wp2
    refine bodyPost_ret (results_val Try.results42 _ _ w.heap.size rfl (hA.out.set 3 0 x)) rfl ?_
    exact OfAns.yes HO.out (by rw [oW_text, HX.out]) (oS_text l) HN2.out (hs2.out.putV hA.out 3 0 x) (putV_below 3 0 x b0.out (Nat.le_refl _))
  · have HO := hide (oE_text l)
    obtain ⟨G, hG⟩ : ∃ G : Nat, E.xE 1024 l = G := ⟨_, rfl⟩
    rw [hG] at hg HO
    obtain ⟨e, he⟩ : ∃ e : Int, ((G : Nat) : Int) = e := ⟨_, rfl⟩
    have hg3 : e ≠ 0 := by omega
    have HEE := hide he
    have HG := hide hG
    clear hG he
    go_enter Try.func42, Try.ntmps42
    go_wp2_with fail
    refine HT.out.mono ?_
    rintro e' w1 ⟨v1, v2, rfl, ⟨rfl, q2, c2, rfl, _⟩, hb⟩
    rw [HG.out, HEE.out]
    replace hA := hA.below hb
    replace b0 := hide (bthen b0.out hb)
    generalize (E.yR 1024 l).length = n2
    generalize strOfNums (ints (E.yS 1024 l)) = x
    clear hb HT h256
    obtain ⟨a1, a2, a3⟩ := hA.cells
    obtain ⟨f1, f2, f3⟩ := hA.thawed
    replace hA := hide hA
    go_wp2
    refine bodyPost_ret (results_val Try.results42 _ _ w.heap.size rfl (hA.out.set 0 0 ⟨#[]⟩)) rfl ?_
    have := OfAns.no HO.out hg (putV_below 0 0 ⟨#[]⟩ b0.out (Nat.le_refl _))
    rw [HEE.out] at this
    exact this

theorem oE_short {l : List Nat} (h : l.length < 8) : Z.oE l 2 = 3 := by unfold Z.oE; rw [if_neg (by decide), if_neg (by decide), if_pos rfl, if_pos h]
theorem oE_form {l : List Nat} (h : 8 ≤ l.length) (hk : D.ky (D.bt ((Z.o8 l : Nat) : Int)) ≠ ((Z.o8 l : Nat) : Int)) : Z.oE l 2 = 4 := by unfold Z.oE; rw [if_neg (by decide), if_neg (by decide), if_pos rfl, if_neg (by omega), if_neg hk]
theorem oE_float {l : List Nat} (h : 8 ≤ l.length) (hk : D.ky (D.bt ((Z.o8 l : Nat) : Int)) = ((Z.o8 l : Nat) : Int)) : Z.oE l 2 = 0 := by unfold Z.oE; rw [if_neg (by decide), if_neg (by decide), if_pos rfl, if_neg (by omega), if_pos hk]
theorem oW_float (l : List Nat) : Z.oW l 2 = ⟨2, Z.sg (D.bt ((Z.o8 l : Nat) : Int)), ⟨#[]⟩⟩ := by unfold Z.oW; rw [if_neg (by decide), if_pos rfl]
theorem oS_float (l : List Nat) : Z.oS l 2 = l.drop 8 := by unfold Z.oS; rw [if_neg (by decide), if_pos rfl]

theorem vtofloat_short (ao : Option Addr) (len cap : Nat) (l : List Nat) (w : World) (hl : l.length = len) (h8 : len < 8) :
    Calls Try.prog 41 #[.slice ao len cap] w (OfAns l 2 w) := by
  have hA := At.new w 0 0 ⟨#[]⟩
  have b0 := hide (below_one w (.cells #[.int .i64 0, .int .i64 0, .string ⟨#[]⟩] 41))
  have HO : Hid (Z.oE l 2 = 3) := oE_short (by omega)
  clear hl
  obtain ⟨a1, a2, a3⟩ := hA.cells
  obtain ⟨f1, f2, f3⟩ := hA.thawed
  replace hA := hide hA
  go_enter Try.func41, Try.ntmps41
  go_wp2
  refine bodyPost_ret (results_val Try.results41 _ _ w.heap.size rfl hA.out) rfl ?_
  exact OfAns.no HO.out (by decide) b0.out
end Go.Proofs.Ythcnfbjljkighaa
/- The contract of val's toFloat. -/
namespace Go.Proofs.Ythcnfbjljkighaa
set_option linter.unusedVariables false
open Go.RowKit

theorem or_byte {k c : Int} (h0 : 0 ≤ k) (h1 : k < 72057594037927936) (c0 : 0 ≤ c) (c1 : c < 256) : bits .or .u64 (k * 256) c = k * 256 + c := by
  rw [u64_or (k * 256) c (by omega) (by omega) c0 (by omega)]
  obtain ⟨x, rfl⟩ := Int.eq_ofNat_of_zero_le h0
  obtain ⟨y, rfl⟩ := Int.eq_ofNat_of_zero_le c0
  show ((x * 256 ||| y : Nat) : Int) = _
  have e : 256 * x + y = 256 * x ||| y := Nat.two_pow_add_eq_or_of_lt (i := 8) (by omega) x
  rw [Nat.mul_comm x 256, ← e]; omega
set_option maxHeartbeats 2000000 in
theorem vtofloat_key (b off len cap : Nat) (l : List Nat) (w : World) (h : Sl w .u8 (some ⟨b, off, none⟩) len cap (ints l)) (h256 : ∀ x ∈ l, x < 256) (hm : len ≤ 140737488355328) (hb : b < w.heap.size) (h8 : 8 ≤ len)
    (hc : ∀ i, i < len → w.cell? ⟨b, off + i, none⟩ = some (.int .u8 ((ints l).getD i 0))) :
    Calls Try.prog 41 #[.slice (some ⟨b, off, none⟩) len cap] w (OfAns l 2 w) := by
  have hl : l.length = len := by rw [← h.1, ints_length]
  have hcap := h.2.1
  have hmax := h.2.2.1
  have hA := At.new w 0 0 ⟨#[]⟩
  have b0 := hide (below_one w (.cells #[.int .i64 0, .int .i64 0, .string ⟨#[]⟩] 41))
  have hK := Z.o8_lt h256
  have hd : ∀ i, i < 8 → (w.alloc (.cells #[.int .i64 0, .int .i64 0, .string ⟨#[]⟩] 41)).cell? ⟨b, off + i, none⟩ = some (.int .u8 ((l.getD i 0 : Nat) : Int)) := fun i hi => by
    rw [b0.out.cell (p := ⟨b, off + i, none⟩) hb, hc i (by omega), ints_getD]
  have d0 := hd 0 (by omega); have d1 := hd 1 (by omega); have d2 := hd 2 (by omega); have d3 := hd 3 (by omega)
  have d4 := hd 4 (by omega); have d5 := hd 5 (by omega); have d6 := hd 6 (by omega); have d7 := hd 7 (by omega)
  have e0 := E.getD_lt h256 0; have e1 := E.getD_lt h256 1; have e2 := E.getD_lt h256 2; have e3 := E.getD_lt h256 3
  have e4 := E.getD_lt h256 4; have e5 := E.getD_lt h256 5; have e6 := E.getD_lt h256 6; have e7 := E.getD_lt h256 7
  have hO : Z.o8 l = (((((((l.getD 0 0 * 256 + l.getD 1 0) * 256 + l.getD 2 0) * 256 + l.getD 3 0) * 256 + l.getD 4 0) * 256 + l.getD 5 0) * 256 + l.getD 6 0) * 256 + l.getD 7 0) := rfl
  simp only [Nat.add_zero] at d0
  obtain ⟨x0, h0⟩ : ∃ x : Int, ((l.getD 0 0 : Nat) : Int) = x := ⟨_, rfl⟩
  obtain ⟨x1, h1⟩ : ∃ x : Int, ((l.getD 1 0 : Nat) : Int) = x := ⟨_, rfl⟩
  obtain ⟨x2, h2⟩ : ∃ x : Int, ((l.getD 2 0 : Nat) : Int) = x := ⟨_, rfl⟩
  obtain ⟨x3, h3⟩ : ∃ x : Int, ((l.getD 3 0 : Nat) : Int) = x := ⟨_, rfl⟩
  obtain ⟨x4, h4⟩ : ∃ x : Int, ((l.getD 4 0 : Nat) : Int) = x := ⟨_, rfl⟩
  obtain ⟨x5, h5⟩ : ∃ x : Int, ((l.getD 5 0 : Nat) : Int) = x := ⟨_, rfl⟩
  obtain ⟨x6, h6⟩ : ∃ x : Int, ((l.getD 6 0 : Nat) : Int) = x := ⟨_, rfl⟩
  obtain ⟨x7, h7⟩ : ∃ x : Int, ((l.getD 7 0 : Nat) : Int) = x := ⟨_, rfl⟩
  rw [h0] at d0; rw [h1] at d1; rw [h2] at d2; rw [h3] at d3; rw [h4] at d4; rw [h5] at d5; rw [h6] at d6; rw [h7] at d7
  obtain ⟨K, hKe⟩ : ∃ K : Int, ((Z.o8 l : Nat) : Int) = K := ⟨_, rfl⟩
  have k1 : bits .or .u64 0 x0 = x0 := by have := or_byte (k := 0) (c := x0) (by omega) (by omega) (by omega) (by omega); simpa using this
  obtain ⟨y1, r1⟩ : ∃ y, x0 * 256 + x1 = y := ⟨_, rfl⟩
  have k2 : bits .or .u64 (x0 * 256) x1 = y1 := by rw [← r1]; exact or_byte (by omega) (by omega) (by omega) (by omega)
  obtain ⟨y2, r2⟩ : ∃ y, y1 * 256 + x2 = y := ⟨_, rfl⟩
  have k3 : bits .or .u64 (y1 * 256) x2 = y2 := by rw [← r2]; exact or_byte (by omega) (by omega) (by omega) (by omega)
  obtain ⟨y3, r3⟩ : ∃ y, y2 * 256 + x3 = y := ⟨_, rfl⟩
  have k4 : bits .or .u64 (y2 * 256) x3 = y3 := by rw [← r3]; exact or_byte (by omega) (by omega) (by omega) (by omega)
  obtain ⟨y4, r4⟩ : ∃ y, y3 * 256 + x4 = y := ⟨_, rfl⟩
  have k5 : bits .or .u64 (y3 * 256) x4 = y4 := by rw [← r4]; exact or_byte (by omega) (by omega) (by omega) (by omega)
  obtain ⟨y5, r5⟩ : ∃ y, y4 * 256 + x5 = y := ⟨_, rfl⟩
  have k6 : bits .or .u64 (y4 * 256) x5 = y5 := by rw [← r5]; exact or_byte (by omega) (by omega) (by omega) (by omega)
  obtain ⟨y6, r6⟩ : ∃ y, y5 * 256 + x6 = y := ⟨_, rfl⟩
  have k7 : bits .or .u64 (y5 * 256) x6 = y6 := by rw [← r6]; exact or_byte (by omega) (by omega) (by omega) (by omega)
  have k8 : bits .or .u64 (y6 * 256) x7 = K := by rw [or_byte (by omega) (by omega) (by omega) (by omega)]; omega
  have b1 : 0 ≤ x0 ∧ x0 < 256 := by omega
  have b2 : 0 ≤ y1 ∧ y1 < 65536 := by omega
  have b3 : 0 ≤ y2 ∧ y2 < 16777216 := by omega
  have b4 : 0 ≤ y3 ∧ y3 < 4294967296 := by omega
  have b5 : 0 ≤ y4 ∧ y4 < 1099511627776 := by omega
  have b6 : 0 ≤ y5 ∧ y5 < 281474976710656 := by omega
  have b7 : 0 ≤ y6 ∧ y6 < 72057594037927936 := by omega
  have b8 : 0 ≤ K ∧ K < 18446744073709551616 := by omega
  have q1 : 0 ≤ x1 ∧ x1 < 256 := by omega
  have q2 : 0 ≤ x2 ∧ x2 < 256 := by omega
  have q3 : 0 ≤ x3 ∧ x3 < 256 := by omega
  have q4 : 0 ≤ x4 ∧ x4 < 256 := by omega
  have q5 : 0 ≤ x5 ∧ x5 < 256 := by omega
  have q6 : 0 ≤ x6 ∧ x6 < 256 := by omega
  have q7 : 0 ≤ x7 ∧ x7 < 256 := by omega
  clear hd e0 e1 e2 e3 e4 e5 e6 e7 hO h0 h1 h2 h3 h4 h5 h6 h7 r1 r2 r3 r4 r5 r6 hK hc
  have HKE := hide hKe
  have HL := hide hl
  have HS := hide h
  have H2 := hide h256
  clear hKe hl h h256
  go_enter Try.func41, Try.ntmps41
  go_wp2_with fail
  refine wp_loop_rounds 9 ?_
  rw [rounds_succ]
  go_wp2_with fail
  rw [rounds_succ]
  go_wp2_with fail
  rw [rounds_succ]
  go_wp2_with fail
  rw [rounds_succ]
  go_wp2_with fail
  rw [rounds_succ]
  go_wp2_with fail
  rw [rounds_succ]
  go_wp2_with fail
  rw [rounds_succ]
  go_wp2_with fail
  rw [rounds_succ]
  go_wp2_with fail
  rw [rounds_succ]
  go_wp2_with fail
  refine (bits_any K _ b8.1 b8.2).mono ?_
  rintro e w1 ⟨rfl, rfl⟩
  have hB := D.bt_in (k := K) b8
  obtain ⟨T, hT⟩ : ∃ T, D.bt K = T := ⟨_, rfl⟩
  rw [hT] at hB ⊢
  have HT := hide hT
  clear hT d0 d1 d2 d3 d4 d5 d6 d7 k1 k2 k3 k4 k5 k6 k7 k8 b1 b2 b3 b4 b5 b6 b7 q1 q2 q3 q4 q5 q6 q7
  go_wp2_with fail
  refine (key_any T _ hB.1 hB.2).mono ?_
  rintro e w1 ⟨rfl, rfl⟩
  obtain ⟨a1, a2, a3⟩ := hA.cells
  obtain ⟨f1, f2, f3⟩ := hA.thawed
  replace hA := hide hA
  by_cases hk : D.ky T = K
  · rw [hk]
    have HO : Hid (Z.oE l 2 = 0) := oE_float (by have := HL.out; omega) (by rw [HKE.out, HT.out]; exact hk)
    have HW : Hid (wrap64 T = Z.sg T) := wrap64_sg hB
    clear hk
    have HB := hide (HS.out.below b0.out)
    by_cases hc8 : cap = 8
    · obtain rfl : len = 8 := by omega
      subst hc8
      have HV : Hid (Sl (w.alloc (.cells #[.int .i64 0, .int .i64 0, .string ⟨#[]⟩] 41)) .u8 (some ⟨b, off, none⟩) 0 0 (ints (l.drop 8))) := by
        show Sl _ _ _ _ _ _
        rw [ints_drop]; exact HB.out.tail 8 0 (by omega) (by omega) (by omega) _ (fun h => by omega)
      go_wp2_with fail
      refine (clone_any _ _ _ (l.drop 8) _ HV.out (by omega)).mono ?_
      rintro e w2 ⟨qa, qc, rfl, hs2, hb2⟩
      replace hA := hA.out.below hb2
      replace b0 := hide (bthen b0.out hb2)
      have hs3 := hide hs2
      clear hb2 hs2 a1 a2 a3 f1 f2 f3 HV
      obtain ⟨a1, a2, a3⟩ := hA.cells
      obtain ⟨f1, f2, f3⟩ := hA.thawed
      replace hA := hide hA
      go_wp2
      refine bodyPost_ret (results_val Try.results41 _ _ w.heap.size rfl (hA.out.set 2 (wrap64 T) ⟨#[]⟩)) rfl ?_
      exact OfAns.yes HO.out (by rw [oW_float, HKE.out, HT.out, HW.out]) (oS_float l) (by simp [HL.out]) (hs3.out.putV hA.out 2 (wrap64 T) ⟨#[]⟩) (putV_below 2 (wrap64 T) ⟨#[]⟩ b0.out (Nat.le_refl _))
    · have HV : Hid (Sl (w.alloc (.cells #[.int .i64 0, .int .i64 0, .string ⟨#[]⟩] 41)) .u8 (some ⟨b, off + 8, none⟩) (len - 8) (cap - 8) (ints (l.drop 8))) := by
        show Sl _ _ _ _ _ _
        rw [ints_drop]; exact HB.out.tail 8 (cap - 8) (by omega) (by omega) (by omega) _ (fun h => by rw [Addr.add_lit])
      go_wp2_with fail
      refine (clone_any _ _ _ (l.drop 8) _ HV.out (by omega)).mono ?_
      rintro e w2 ⟨qa, qc, rfl, hs2, hb2⟩
      replace hA := hA.out.below hb2
      replace b0 := hide (bthen b0.out hb2)
      have hs3 := hide hs2
      clear hb2 hs2 a1 a2 a3 f1 f2 f3 HV
      obtain ⟨a1, a2, a3⟩ := hA.cells
      obtain ⟨f1, f2, f3⟩ := hA.thawed
      replace hA := hide hA
      go_wp2
      refine bodyPost_ret (results_val Try.results41 _ _ w.heap.size rfl (hA.out.set 2 (wrap64 T) ⟨#[]⟩)) rfl ?_
      exact OfAns.yes HO.out (by rw [oW_float, HKE.out, HT.out, HW.out]) (oS_float l) (by simp [HL.out]) (hs3.out.putV hA.out 2 (wrap64 T) ⟨#[]⟩) (putV_below 2 (wrap64 T) ⟨#[]⟩ b0.out (Nat.le_refl _))
  · have HO : Hid (Z.oE l 2 = 4) := oE_form (by have := HL.out; omega) (by rw [HKE.out, HT.out]; exact hk)
    obtain ⟨Y, hY⟩ : ∃ Y, D.ky T = Y := ⟨_, rfl⟩
    rw [hY] at hk ⊢
    clear hY
    go_wp2
    refine bodyPost_ret (results_val Try.results41 _ _ w.heap.size rfl hA.out) rfl ?_
    exact OfAns.no HO.out (by decide) b0.out
theorem vtofloat_any (ao : Option Addr) (len cap : Nat) (l : List Nat) (w : World) (h : Sl w .u8 ao len cap (ints l)) (h256 : ∀ x ∈ l, x < 256) (hm : len ≤ 140737488355328) :
    Calls Try.prog 41 #[.slice ao len cap] w (OfAns l 2 w) := by
  have hl : l.length = len := by rw [← h.1, ints_length]
  by_cases h8 : len < 8
  · exact vtofloat_short ao len cap l w hl h8
  · rcases h.2.2.2.2 with h5 | ⟨b, off, rfl, hlt, h5⟩
    · omega
    · exact vtofloat_key b off len cap l w h h256 hm hlt (by omega) h5
end Go.Proofs.Ythcnfbjljkighaa

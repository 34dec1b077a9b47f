/- dict.Words: the words of the values, rising, each once, in memory of their own. Conditions: fewer than 2^41 values. -/
import Derived.Test.YtmhfpipeoojacaaBdN
import Derived.Test.YtmhfpipeoojacaaBdI
import Derived.Test.YtmhfpipeoojacaaBdX
import Derived.BigQuiet
import Derived.WalkSmall
import Derived.Test.YtmhfpipeoojacaaBdZB
import Derived.Test.YtmhfpipeoojacaaBdA
import Derived.ProofKit
import Derived.OpenShut
import Derived.ShutString
import Derived.ChangeOld
import Derived.Below
import Derived.SizedLaws
namespace Go.Proofs.Ytmhfpipeoojacaa
set_option linter.unusedVariables false
set_option maxRecDepth 10000
open Go.RowKit Go.Sort
theorem four_grow (w : World) (a b c d : Obj) : (((w.alloc a).alloc b).alloc c).alloc d = grow (w.drewN 0) #[a, b, c, d] := by
  rw [alloc_eq_grow, alloc_eq_grow, alloc_eq_grow, alloc_eq_grow, grow_grow, grow_grow, grow_grow]; rfl
theorem alike_any (x y : Z.V) (w : World) : Calls Try.prog 35 #[.agg (encV x).toArray, .agg (encV y).toArray] w fun e w' => e = .returned (.bool (decide (Z.cv x y = 0))) ∧ ∃ q os', w' = grow (w.drewN q) os' := by
  obtain ⟨ak, ai, az⟩ := x
  obtain ⟨bk, bi, bz⟩ := y
  show Calls Try.prog 35 #[.agg #[.int .i64 ak, .int .i64 ai, .string az], .agg #[.int .i64 bk, .int .i64 bi, .string bz]] w _
  obtain ⟨c, hc⟩ : ∃ c, Z.cv ⟨ak, ai, az⟩ ⟨bk, bi, bz⟩ = c := ⟨_, rfl⟩
  have HC : Hid (∀ w, Calls Try.prog 23 #[.agg #[.int .i64 ak, .int .i64 ai, .string az], .agg #[.int .i64 bk, .int .i64 bi, .string bz]] w fun e w' => e = .returned (.int .i64 c) ∧ ∃ a b, w' = (w.alloc a).alloc b) := by
    intro w; rw [← hc]; exact vcompare_two ak ai az bk bi bz w
  rw [hc]
  clear hc
  go_enter Try.func35, Try.ntmps35
  go_wp2_with fail
  refine (HC.out _).mono ?_
  rintro e w1 ⟨rfl, a, b, rfl⟩
  go_wp2
  go_ret
  exact ⟨rfl, 0, _, four_grow _ _ _ _ _⟩
theorem eq_lays (l : List Z.V) (blk off size : Nat) (w : World) : EqLays Try.prog 35 #[] (encL l) 3 (efL l) blk off size w := fun m os dk hs x y => alike_any _ _ _
set_option maxHeartbeats 400000 in
theorem cloneV_nil (w : World) : Calls Try.prog 32 #[.slice none 0 0] w fun e w' => e = .returned (.slice none 0 0) ∧ w' = w := by
  have hq := fun (w : World) (a : Option Addr) (n c : Nat) => Lib.run_eql_slice_nil (P := Try.prog) w 22 24 a n c 0 0 Try.underlying22
  go_enter Try.func32, Try.ntmps32
  go_wp2
  go_ret
  exact ⟨rfl, rfl⟩
set_option maxHeartbeats 400000 in
theorem cloneV_some (x : Addr) (len cap : Nat) (l : List Z.V) (w : World) (h : SlV w (some x) len cap l) (hb : len * 32 ≤ 140737488355328) :
    Calls Try.prog 32 #[.slice (some x) len cap] w fun e w' => ∃ v, e = .returned v ∧ OwnV w' w.heap.size v l ∧ Below w.heap.size w w' := by
  have hl := h.1
  have HS : Hid (SlV w (some x) len cap l) := h
  clear h
  have hq := fun (w : World) (a : Option Addr) (n c : Nat) => Lib.run_eql_slice_nil (P := Try.prog) w 22 24 a n c 0 0 Try.underlying22
  go_enter Try.func32, Try.ntmps32
  go_wp2_with (at_builtin; refine wpList_appV rfl _ _ rfl w.heap.size _ [] rfl (World.ownsRow_lit w #[] 0 (Nat.le_refl _) (by decide) rfl) (some x) len cap l rfl (HS.out.below (below_one w _)) (by simp; omega) (by simp) ?_)
  intro v1 w1 ho hk _
  have hbel : Below w.heap.size w w1 := (below_one w _).trans (hk.below (by simp) (fun k e => by simp [Value.ownBlock] at e; omega))
  have ho' : OwnV w1 w.heap.size v1 l := by simpa using ho
  have HO : Hid (OwnV w1 w.heap.size v1 l) := ho'
  have HB : Hid (Below w.heap.size w w1) := hbel
  clear ho ho' hk hbel
  go_wp2
  go_ret
  exact ⟨v1, rfl, HO.out, HB.out⟩
theorem cloneV_any (ao : Option Addr) (len cap : Nat) (l : List Z.V) (w : World) (h : SlV w ao len cap l) (hb : len * 32 ≤ 140737488355328) :
    Calls Try.prog 32 #[.slice ao len cap] w fun e w' => ∃ v, e = .returned v ∧ OwnV w' w.heap.size v l ∧ Below w.heap.size w w' := by
  cases ao with
  | some x => exact cloneV_some x len cap l w h hb
  | none =>
    have h4 := h.2.2.2.1 rfl
    have h2 := h.2.1
    have h1 := h.1
    subst h4
    obtain rfl : len = 0 := by omega
    obtain rfl : l = [] := List.eq_nil_of_length_eq_zero h1
    refine (cloneV_nil w).mono ?_
    rintro e w1 ⟨rfl, rfl⟩
    exact ⟨_, rfl, ⟨rfl, .inl ⟨rfl, rfl⟩⟩, Below.refl _ _⟩
/-- The sort of a row of one's own. -/
theorem sortV_own (g cap : Nat) (B : Nat) (l : List Z.V) (w : World) (ho : OwnV w B (.slice (some ⟨g, 0, none⟩) l.length cap) l) (hl : l.length < 1152921504606846976) :
    Calls Try.prog 33 #[.slice (some ⟨g, 0, none⟩) l.length cap, .func (.func 23) #[] #[]] w fun e w' => e = .returned (.tuple #[]) ∧ ∃ dk, Srt l dk ∧ RowK (encL l) 3 w' g 0 dk ∧ OwnV w' B (.slice (some ⟨g, 0, none⟩) l.length cap) (rd l dk) ∧ Kept (fun b => b = g) w w' := by
  have R := row_of_own ho
  refine (sortStableV layV Try.func103 Try.func95 Try.func81 Try.func82 Try.func60 Try.func33 3 Try.isAgg24 Try.sizeOf24 (encL l) (cfL l) id (Y.lx_swo (cfL_swo l) id) 23 #[] g 0 cap (Array.range l.length) w (row_of_own ho) (enters_of Try.func23 (by kernel_rfl) rfl) (cmp_lays l g 0 _ w) l.length (by simp) hl (fun i hi => by simp [hi])).mono ?_
  rintro e w' ⟨rfl, dk, h1, h2, h3⟩
  have hs := srt_of h2 h3
  have := own_sorted ho hs.size h1
  exact ⟨rfl, dk, hs, ⟨R.hk, R.h1, h1.holds R.hblk R.hH (by simp [hs.size]), h1.lt R.hblk⟩, this.1, this.2⟩
theorem Kept.of_own {w w' : World} {g : Nat} (h : Kept (fun b => b = g) w w') {B : Nat} (hB : B ≤ w.heap.size) (hg : B ≤ g) : Below B w w' := h.below hB (fun k e => by subst e; exact hg)
/-- Behind a call: as it was, but for what lies behind it. -/
theorem sortV_none (ao : Option Addr) (cap : Nat) (w : World) : Calls Try.prog 33 #[.slice ao 0 cap, .func (.func 23) #[] #[]] w fun e w' => e = .returned (.tuple #[]) ∧ w' = w := by
  have eg := enters_of Try.func60 (by kernel_rfl) rfl
  have hin : ∀ w, Calls Try.prog 81 #[.slice ao 0 cap, .int .i64 0, .int .i64 0, .func (.func 23) #[] #[]] w fun e w' => e = .returned (.tuple #[]) ∧ w' = w := by
    intro w
    go_enter Try.func81, Try.ntmps81
    go_wp2
    refine wp_loop_rounds 1 ?_
    rw [rounds_succ]
    go_wp2
    go_end0
    exact ⟨rfl, rfl⟩
  have hst : ∀ w, Calls Try.prog 60 #[.slice ao 0 cap, .int .i64 0, .func (.func 23) #[] #[]] w fun e w' => e = .returned (.tuple #[]) ∧ w' = w := by
    intro w
    go_enter Try.func60, Try.ntmps60
    go_wp2
    refine wp_loop_rounds 1 ?_
    rw [rounds_succ]
    go_wp2_with fail
    refine (hin _).mono ?_
    rintro e w1 ⟨rfl, rfl⟩
    go_wp2
    refine wp_loop_rounds 1 ?_
    rw [rounds_succ]
    go_wp2
    go_end0
    exact ⟨rfl, rfl⟩
  go_enter Try.func33, Try.ntmps33
  go_wp2_with fail
  refine (hst _).mono ?_
  rintro e w1 ⟨rfl, rfl⟩
  go_wp2
  go_end0
  exact ⟨rfl, rfl⟩
theorem compact_few (ao : Option Addr) (len cap : Nat) (w : World) (h : len < 2) : Calls Try.prog 34 #[.slice ao len cap, .func (.func 35) #[] #[]] w fun e w' => e = .returned (.slice ao len cap) ∧ w' = w := by
  have hz : (len : Int) < 2 := by omega
  go_enter Try.func34, Try.ntmps34
  go_wp2
  go_ret
  exact ⟨rfl, rfl⟩
theorem SlV.take {w : World} {ao : Option Addr} {len cap : Nat} {l : List Z.V} (h : SlV w ao len cap l) {m : Nat} (hm : m ≤ len) : SlV w ao m cap (l.take m) := by
  obtain ⟨h1, h2, h3, h4, h5⟩ := h
  refine ⟨by simp; omega, by omega, h3, h4, ?_⟩
  rcases h5 with h5 | ⟨b, off, hao, hlt, h5⟩
  · exact .inl (by omega)
  · refine .inr ⟨b, off, hao, hlt, fun j x hx => h5 j x ?_⟩
    by_cases hj : j < m
    · rwa [List.getElem?_take_of_lt hj] at hx
    · rw [List.getElem?_take_eq_none (by omega)] at hx; cases hx
/-- What the words' call answers. -/
def WordsAns (w : World) (l : List Z.V) (e : Ending) (w' : World) : Prop := ∃ a n c, e = .returned (.slice a n c) ∧ SlV w' a n c (Z.wds l) ∧ (∀ b, a.map (·.block) = some b → w.heap.size ≤ b) ∧ Below w.heap.size w w'
theorem words_one {l : List Z.V} {dk : Array Nat} (h : Srt l dk) (hl : l.length < 2) : rd l dk = Z.wds l := by
  rw [← cw_wds h]
  unfold cw
  rw [Y.cpt_all (efL l) dk l.length (fun j hj => Y.kp_first _ _ j (by omega)), List.map_map]
  apply List.ext_getElem?
  intro i
  by_cases hi : i < l.length
  · rw [rd_get l dk i (by rw [h.size]; exact hi)]; simp [hi]
  · rw [List.getElem?_eq_none (by rw [rd_length, h.size]; omega), List.getElem?_eq_none (by simp; omega)]
theorem cpt_le {α : Type} [Inhabited α] (ef : α → α → Bool) (d : Array α) (m : Nat) : (Y.cpt ef d m).length ≤ m := by
  unfold Y.cpt; rw [List.length_map]; exact Nat.le_trans (List.length_filter_le _ _) (by simp)
theorem words_some (ao : Option Addr) (len cap : Nat) (l : List Z.V) (w : World) (h : SlV w ao len cap l) (hb : len * 32 ≤ 140737488355328) : Calls Try.prog 18 #[.slice ao len cap] w (WordsAns w l) := by
  obtain rfl : len = l.length := h.1.symm
  have HS : Hid (SlV w ao l.length cap l) := h
  clear h
  go_enter Try.func18, Try.ntmps18
  go_wp2_with fail
  refine (cloneV_any ao l.length cap l w HS.out hb).mono ?_
  rintro e w1 ⟨v, rfl, ho, hb1⟩
  have B1 : Hid (Below w.heap.size w w1) := hb1
  clear hb1 HS
  rcases ho.2 with ⟨rfl, h0⟩ | ⟨g, cap1, cur, rfl, hg, hh, hc, hm, hsz, ht⟩
  · obtain rfl : l = [] := List.eq_nil_of_length_eq_zero h0
    clear ho h0
    go_wp2_with fail
    refine (sortV_none none 0 w1).mono ?_
    rintro e w2 ⟨rfl, rfl⟩
    go_wp2_with fail
    refine (compact_few none 0 0 _ (by omega)).mono ?_
    rintro e w2 ⟨rfl, rfl⟩
    go_wp2
    go_ret
    exact ⟨none, 0, 0, rfl, ⟨rfl, Nat.le_refl _, by simp [maxLen], fun _ => rfl, .inl rfl⟩, by simp, B1.out⟩
  · have hcl : l.length ≤ cap1 := hc
    have HO : Hid (OwnV w1 w.heap.size (.slice (some ⟨g, 0, none⟩) l.length cap1) l) := ho
    have HG : Hid (w.heap.size ≤ g) := hg
    clear ho hh hc hm hsz ht hg
    have hlt : l.length < 1152921504606846976 := by omega
    go_wp2_with fail
    refine (sortV_own g cap1 _ l w1 HO.out hlt).mono ?_
    rintro e w2 ⟨rfl, dk, hs, hR, ho2, hk2⟩
    have B2 : Hid (Below w.heap.size w w2) := B1.out.trans (hk2.of_own B1.out.size HG.out)
    have HR : Hid _ := hR
    have HW : Hid (Srt l dk) := hs
    have O2 : Hid (OwnV w2 w.heap.size (.slice (some ⟨g, 0, none⟩) l.length cap1) (rd l dk)) := ho2
    have hdk : dk.size = l.length := hs.size
    clear hs hR ho2 hk2 B1 HO
    by_cases h2 : l.length < 2
    · go_wp2_with fail
      refine (compact_few _ _ _ _ h2).mono ?_
      rintro e w3 ⟨rfl, rfl⟩
      go_wp2
      go_ret
      obtain ⟨a, c, e1, hsl, _⟩ := SlV.of_own O2.out
      injection e1 with e1 e2 e3
      subst e1; subst e3
      rw [words_one HW.out h2] at hsl
      have hn : (Z.wds l).length = l.length := by rw [← words_one HW.out h2, rd_length, hdk]
      rw [hn] at hsl
      exact ⟨_, _, _, rfl, hsl, fun b hb => by simp at hb; rw [← hb]; exact HG.out, B2.out⟩
    · have hz0 : ∀ w, (zeroValue 24).run Try.prog w = .ok (.agg (encL l l.length).toArray) w := by
        have : encL l l.length = [.int .i64 0, .int .i64 0, .string ⟨#[]⟩] := by unfold encL; rw [List.getD_eq_getElem?_getD, List.getElem?_eq_none (Nat.le_refl _)]; rfl
        intro w; rw [this]; exact Try.zeroValue24 w
      have hC := compactV layV Try.underlying62 Try.isAgg62 Try.sizeOf62 Try.func34 3 Try.isAgg24 Try.sizeOf24 (encL l) (efL l) l.length hz0 rfl 35 #[] g 0 cap1 dk w2 HR.out (enters_of Try.func35 (by kernel_rfl) rfl) (eq_lays l g 0 _ w2) (by omega) (by omega) (by omega)
      rw [hdk] at hC
      have HC : Hid _ := hC
      clear hC hz0
      go_wp2_with fail
      refine Calls.mono HC.out ?_
      rintro e w3 ⟨rfl, d3, hd3, hw3, hx3⟩
      have h3 := own_sorted (l := l) (l0 := rd l dk) (dk := d3) (w2 := w3) (by rw [rd_length, hdk]; exact O2.out) (by rw [rd_length, hdk]; exact hd3) hw3
      rw [rd_length, hdk] at h3
      obtain ⟨m, hm⟩ : ∃ m, (Y.cpt (efL l) dk l.length).length = m := ⟨_, rfl⟩
      have hml : m ≤ l.length := by rw [← hm]; exact cpt_le _ _ _
      have ht : (rd l d3).take m = Z.wds l := by
        rw [← cw_wds HW.out]
        unfold cw
        apply List.ext_getElem?
        intro x
        by_cases hx : x < m
        · rw [List.getElem?_take_of_lt hx, rd_get l d3 x (by omega), List.getElem?_map, hx3 x (by omega)]; rfl
        · rw [List.getElem?_take_eq_none (by omega), List.getElem?_eq_none (by simp; omega)]
      obtain ⟨a, c, e1, hsl, _⟩ := SlV.of_own h3.1
      rw [rd_length, hd3] at e1 hsl
      injection e1 with e1 e2 e3
      subst e1; subst e3
      have hsl2 := hsl.take hml
      rw [ht] at hsl2
      have FIN : Hid (WordsAns w l (.returned (.slice (some ⟨g, 0, none⟩) m cap1)) w3) := ⟨_, _, _, rfl, hsl2, fun b hb => by simp at hb; rw [← hb]; exact HG.out, B2.out.trans (h3.2.of_own B2.out.size HG.out)⟩
      rw [hm]
      clear hsl hsl2 h3 hx3 hw3 ht hm HC O2 HW HR
      go_wp2
      go_ret
      exact FIN.out
end Go.Proofs.Ytmhfpipeoojacaa
/- The reference's Same of any two rows of values. -/
namespace Go.Proofs.Ytmhfpipeoojacaa
set_option linter.unusedVariables false
open Go.RowKit

/-- What Same answers. -/
def SameAns (l m : List Z.V) (w : World) (e : Ending) (w' : World) : Prop := ∃ q, e = .returned (.bool q) ∧ (q = true ↔ l = m) ∧ Below w.heap.size w w'
theorem SameAns.no {l m : List Z.V} {w w' : World} (h : l ≠ m) (hb : Below w.heap.size w w') : SameAns l m w (.returned (.bool false)) w' := ⟨false, rfl, ⟨fun e => absurd e (by decide), fun e => absurd e h⟩, hb⟩
theorem SameAns.yes {l m : List Z.V} {w w' : World} (h : l = m) (hb : Below w.heap.size w w') : SameAns l m w (.returned (.bool true)) w' := ⟨true, rfl, ⟨fun _ => h, fun _ => rfl⟩, hb⟩
theorem take_same {l m : List Z.V} {k : Nat} {x y : Z.V} (h : l.take k = m.take k) (hx : l[k]? = some x) (hy : m[k]? = some y) (e : x = y) : l.take (k + 1) = m.take (k + 1) := by
  obtain ⟨h1, h2⟩ := List.getElem?_eq_some_iff.1 hx
  obtain ⟨h3, h4⟩ := List.getElem?_eq_some_iff.1 hy
  rw [List.take_succ_eq_append_getElem h1, List.take_succ_eq_append_getElem h3, h, h2, h4, e]

set_option maxHeartbeats 1000000 in
theorem vsame_lens (ao bo : Option Addr) (n1 n2 ca cb : Nat) (l m : List Z.V) (w : World) (h1 : l.length = n1) (h2 : m.length = n2) (hne : n1 ≠ n2) :
    Calls Try.prog 17 #[.slice ao n1 ca, .slice bo n2 cb] w (SameAns l m w) := by
  have hb : ((n1 : Int) != (n2 : Int)) = true := by simp; omega
  have HN : Hid (l ≠ m) := fun e => hne (by rw [← h1, ← h2, e])
  clear h1 h2 hne
  go_enter Try.func17, Try.ntmps17
  go_wp2
  go_ret
  exact SameAns.no HN.out (Below.refl _ _)
set_option maxHeartbeats 1000000 in
theorem vsame_two (b1 o1 b2 o2 len ca cb : Nat) (l m : List Z.V) (w : World) (hl : l.length = len) (hl2 : m.length = len) (hm : len ≤ 140737488355328) (h1 : b1 < w.heap.size) (h2 : b2 < w.heap.size)
    (hc1 : ∀ j x, l[j]? = some x → w.cell? ⟨b1, o1 + j * 3, none⟩ = some (.int .i64 x.k) ∧ w.cell? ⟨b1, o1 + j * 3 + 1, none⟩ = some (.int .i64 x.i) ∧ w.cell? ⟨b1, o1 + j * 3 + 2, none⟩ = some (.string x.s))
    (hc2 : ∀ j x, m[j]? = some x → w.cell? ⟨b2, o2 + j * 3, none⟩ = some (.int .i64 x.k) ∧ w.cell? ⟨b2, o2 + j * 3 + 1, none⟩ = some (.int .i64 x.i) ∧ w.cell? ⟨b2, o2 + j * 3 + 2, none⟩ = some (.string x.s)) :
    Calls Try.prog 17 #[.slice (some ⟨b1, o1, none⟩) len ca, .slice (some ⟨b2, o2, none⟩) len cb] w (SameAns l m w) := by
  have hb : ((len : Int) != (len : Int)) = false := by simp
  have HC1 := hide hc1
  have HC2 := hide hc2
  have HL := hide hl
  have HM := hide hl2
  clear hc1 hc2 hl hl2
  go_enter Try.func17, Try.ntmps17
  go_wp2_with fail
  go_loopw [5] (fun i wr => ∃ k : Nat, k ≤ len ∧ i = .int .i64 k ∧ Hid (l.take k = m.take k) ∧ Hid (Below w.heap.size w wr)) (fun i _ => len - (intOf i).toNat)
  case atStart => exact ⟨0, Nat.zero_le _, rfl, hide rfl, hide (Below.refl _ _)⟩
  case round =>
    obtain ⟨k, hk, rfl, hsm, hkr⟩ := hrel
    by_cases hlt : k < len
    · obtain ⟨⟨xk, xi, xs⟩, hx⟩ : ∃ x, l[k]? = some x := ⟨l[k]'(by rw [HL.out]; exact hlt), List.getElem?_eq_getElem _⟩
      obtain ⟨⟨yk, yi, ys⟩, hy⟩ : ∃ x, m[k]? = some x := ⟨m[k]'(by rw [HM.out]; exact hlt), List.getElem?_eq_getElem _⟩
      obtain ⟨c1, c2, c3⟩ := HC1.out k _ hx
      obtain ⟨d1, d2, d3⟩ := HC2.out k _ hy
      have e1 : wr.cell? ⟨b1, o1 + k * 3, none⟩ = some (.int .i64 xk) := by rw [hkr.out.cell (p := ⟨b1, o1 + k * 3, none⟩) h1]; exact c1
      have e2 : wr.cell? ⟨b1, o1 + k * 3 + 1, none⟩ = some (.int .i64 xi) := by rw [hkr.out.cell (p := ⟨b1, o1 + k * 3 + 1, none⟩) h1]; exact c2
      have e3 : wr.cell? ⟨b1, o1 + k * 3 + 2, none⟩ = some (.string xs) := by rw [hkr.out.cell (p := ⟨b1, o1 + k * 3 + 2, none⟩) h1]; exact c3
      have g1 : wr.cell? ⟨b2, o2 + k * 3, none⟩ = some (.int .i64 yk) := by rw [hkr.out.cell (p := ⟨b2, o2 + k * 3, none⟩) h2]; exact d1
      have g2 : wr.cell? ⟨b2, o2 + k * 3 + 1, none⟩ = some (.int .i64 yi) := by rw [hkr.out.cell (p := ⟨b2, o2 + k * 3 + 1, none⟩) h2]; exact d2
      have g3 : wr.cell? ⟨b2, o2 + k * 3 + 2, none⟩ = some (.string ys) := by rw [hkr.out.cell (p := ⟨b2, o2 + k * 3 + 2, none⟩) h2]; exact d3
      have hv := fun w => vne_run xk xi xs yk yi ys w
      obtain ⟨z, hz⟩ : ∃ z, Z.same ⟨xk, xi, xs⟩ ⟨yk, yi, ys⟩ = z := ⟨_, rfl⟩
      have HZ := hide hz
      rw [hz] at hv
      have HX := hide hx
      have HY := hide hy
      have hki : (k : Int) < (len : Int) := by omega
      clear c1 c2 c3 d1 d2 d3 hx hy hz
      cases z with
      | true =>
        go_wp2_with fail
        go_quiet (fail)
        have HB := hide (below_drewN hkr.out nq)
        have HS : Hid (l.take (k + 1) = m.take (k + 1)) := take_same hsm.out HX.out HY.out ((Z.same_iff _ _).1 HZ.out)
        go_wp2
        go_roundw
        case rel => exact ⟨k + 1, by omega, by go_num, HS, HB⟩
        case measure => simp [intOf]; omega
      | false =>
        have HN : Hid (l ≠ m) := fun e => by
          have h3 := HX.out
          rw [e, HY.out] at h3
          have h4 := HZ.out
          rw [Option.some.inj h3, Z.same_self] at h4
          exact absurd h4 (by decide)
        go_wp2_with fail
        go_quiet (fail)
        have HB := hide (below_drewN hkr.out nq)
        go_wp2
        go_ret
        exact SameAns.no HN.out HB.out
    · obtain rfl : k = len := by omega
      have HE : Hid (l = m) := by
        have h3 := hsm.out
        rw [List.take_of_length_le (by rw [HL.out]; exact Nat.le_refl _), List.take_of_length_le (by rw [HM.out]; exact Nat.le_refl _)] at h3
        exact h3
      go_wp2
      go_ret
      exact SameAns.yes HE.out hkr.out
theorem vsame_any (ao bo : Option Addr) (n1 n2 ca cb : Nat) (l m : List Z.V) (w : World) (h1 : SlV w ao n1 ca l) (h2 : SlV w bo n2 cb m) (hm : n1 ≤ 140737488355328) :
    Calls Try.prog 17 #[.slice ao n1 ca, .slice bo n2 cb] w (SameAns l m w) := by
  by_cases hn : n1 = n2
  · subst hn
    by_cases h0 : n1 = 0
    · subst h0
      obtain rfl : l = [] := List.eq_nil_of_length_eq_zero h1.1
      obtain rfl : m = [] := List.eq_nil_of_length_eq_zero h2.1
      refine (vsame_none ao bo ca cb w).mono ?_
      rintro e w' ⟨rfl, hb⟩
      exact SameAns.yes rfl hb
    · rcases h1.2.2.2.2 with h | ⟨b1, o1, rfl, hb1, hc1⟩
      · omega
      · rcases h2.2.2.2.2 with h | ⟨b2, o2, rfl, hb2, hc2⟩
        · omega
        · exact vsame_two b1 o1 b2 o2 n1 ca cb l m w h1.1 h2.1 hm hb1 hb2 hc1 hc2
  · exact vsame_lens ao bo n1 n2 ca cb l m w h1.1 h2.1 hn
end Go.Proofs.Ytmhfpipeoojacaa
/- What stands at the head of dict's laws: few, shown. Conditions: none. -/
namespace Go.Proofs.Ytmhfpipeoojacaa
set_option linter.unusedVariables false
set_option maxRecDepth 10000
open Go.RowKit Go.Sort
def DFewAns (len : Nat) (w : World) (e : Ending) (w' : World) : Prop := ∃ q, e = .returned (.bool q) ∧ (q = true → len ≤ 1000) ∧ w' = w
theorem DFewAns.mk {len : Nat} {w : World} {v : Value} (q : Bool) (h0 : v = .bool q) (h : q = true → len ≤ 1000) : DFewAns len w (.returned v) w := ⟨q, by rw [h0], h, rfl⟩
theorem slV_two9 (w : World) (x y : Z.V) : SlV (w.alloc (.cells #[.int .i64 x.k, .int .i64 x.i, .string x.s, .int .i64 y.k, .int .i64 y.i, .string y.s] 24)) (some ⟨w.heap.size, 0, none⟩) 2 2 [x, y] := by
  refine ⟨rfl, Nat.le_refl _, by decide, by simp, .inr ⟨w.heap.size, 0, rfl, by simp, fun j u hu => ?_⟩⟩
  match j, hu with
  | 0, hu => simp at hu; subst hu; simp
  | 1, hu => simp at hu; subst hu; simp
theorem dfew_some (b off len cap : Nat) (l : List Z.V) (w : World) (hl : l.length = len) (hm : len ≤ 140737488355328) (hlt : b < w.heap.size)
    (hc : ∀ j x, l[j]? = some x → w.cell? ⟨b, off + j * 3, none⟩ = some (.int .i64 x.k) ∧ w.cell? ⟨b, off + j * 3 + 1, none⟩ = some (.int .i64 x.i) ∧ w.cell? ⟨b, off + j * 3 + 2, none⟩ = some (.string x.s)) :
    Calls Try.prog 9 #[.slice (some ⟨b, off, none⟩) len cap] w (DFewAns len w) := by
  have HC := hide hc
  have HL := hide hl
  clear hc hl
  go_enter Try.func9, Try.ntmps9
  go_wp2_with fail
  go_loopw [3, 4] (fun n i wr => ∃ (j : Nat) (x : Int), j ≤ len ∧ i = .int .i64 j ∧ n = .int .i64 x ∧ wr = w) (fun _ i _ => len - (intOf i).toNat)
  case atStart => exact ⟨0, 0, Nat.zero_le _, rfl, rfl, rfl⟩
  case round =>
    obtain ⟨j, x, hj, rfl, rfl, rfl⟩ := hrel
    by_cases hx : x ≤ 100000
    · have hxd : decide (x ≤ 100000) = true := by simpa using hx
      by_cases hjl : j < len
      · obtain ⟨⟨xk, xi, xs⟩, hx⟩ : ∃ x, l[j]? = some x := ⟨l[j]'(by rw [HL.out]; exact hjl), List.getElem?_eq_getElem _⟩
        obtain ⟨c1, c2, c3⟩ := HC.out j _ hx
        clear hx
        go_wp2
        go_roundw
        case rel => exact ⟨j + 1, _, hjl, by go_num, rfl, trivial⟩
        case measure => simp [intOf]; omega
      · obtain rfl : j = len := by omega
        by_cases h1 : j ≤ 1000
        · go_wp2
          go_ret
          exact DFewAns.mk _ rfl fun _ => h1
        · go_wp2
          go_ret
          exact DFewAns.mk _ rfl fun h => by simp at h
    · have hxd : decide (x ≤ 100000) = false := by simpa using hx
      by_cases h1 : len ≤ 1000
      · by_cases hjl : j < len
        · go_wp2
          go_ret
          exact DFewAns.mk _ rfl fun _ => h1
        · go_wp2
          go_ret
          exact DFewAns.mk _ rfl fun _ => h1
      · by_cases hjl : j < len
        · go_wp2
          go_ret
          exact DFewAns.mk _ rfl fun h => by simp at h
        · go_wp2
          go_ret
          exact DFewAns.mk _ rfl fun h => by simp at h
theorem dfew_none (ao : Option Addr) (cap : Nat) (w : World) :
    Calls Try.prog 9 #[.slice ao 0 cap] w (DFewAns 0 w) := by
  go_enter Try.func9, Try.ntmps9
  go_wp2_with fail
  go_rounds 1
  go_ret
  exact DFewAns.mk _ rfl fun _ => by omega
theorem dfew_any (ao : Option Addr) (len cap : Nat) (l : List Z.V) (w : World) (h : SlV w ao len cap l) (hm : len ≤ 140737488355328) :
    Calls Try.prog 9 #[.slice ao len cap] w (DFewAns len w) := by
  rcases h.2.2.2.2 with h5 | ⟨b, off, rfl, hlt, h5⟩
  · subst h5
    exact dfew_none ao cap w
  · exact dfew_some b off len cap l w h.1 hm hlt h5

theorem slV_three9 (w : World) (x y z : Z.V) : SlV (w.alloc (.cells #[.int .i64 x.k, .int .i64 x.i, .string x.s, .int .i64 y.k, .int .i64 y.i, .string y.s, .int .i64 z.k, .int .i64 z.i, .string z.s] 24)) (some ⟨w.heap.size, 0, none⟩) 3 3 [x, y, z] := by
  refine ⟨rfl, Nat.le_refl _, by decide, by simp, .inr ⟨w.heap.size, 0, rfl, by simp, fun j u hu => ?_⟩⟩
  match j, hu with
  | 0, hu => simp at hu; subst hu; simp
  | 1, hu => simp at hu; subst hu; simp
  | 2, hu => simp at hu; subst hu; simp

def vA : Z.V := ⟨3, 0, ⟨#[97]⟩⟩
def vB : Z.V := ⟨3, 0, ⟨#[98]⟩⟩
theorem ex_wds : Z.wds [vB, vA, vB] = [vA, vB] := by rfl
theorem ex_cdE : Z.cdE [vA, vB] [vB, vA, vB] = 0 := by decide
theorem ex_cdL : Z.cdL [vA, vB] [vB, vA, vB] = [1, 0, 1] := by decide
theorem ex_blw : Z.blw [vA, vB] vB = 1 := by decide
theorem sl_three (w : World) : Sl (w.alloc (.cells #[.int .u64 1, .int .u64 0, .int .u64 1] 44)) .u64 (some ⟨w.heap.size, 0, none⟩) 3 3 [1, 0, 1] := by
  refine ⟨rfl, Nat.le_refl _, by decide, by simp, .inr ⟨w.heap.size, 0, rfl, by simp, fun i hi => ?_⟩⟩
  match i, hi with
  | 0, _ => simp
  | 1, _ => simp
  | 2, _ => simp
/-- A value boxed a while ago. -/
theorem At.lie {w w' : World} {b : Nat} {k i : Int} {s : ByteArray} (h : At w b k i s) (hb : Below w.heap.size w w') : w'.cell? ⟨b, 0, none⟩ = some (.int .i64 k) ∧ w'.cell? ⟨b, 1, none⟩ = some (.int .i64 i) ∧ w'.cell? ⟨b, 2, none⟩ = some (.string s) := (h.below hb).cells
set_option maxHeartbeats 2000000 in
theorem dshown_any (w : World) : Calls Try.prog 8 #[] w fun e w' => e = .returned (.bool true) ∧ Below w.heap.size w w' := by
  obtain ⟨w2, hw2⟩ : ∃ w2, (w.alloc (.cells #[.int .i64 3, .int .i64 0, .string ⟨#[97]⟩] 24)).alloc (.cells #[.int .i64 3, .int .i64 0, .string ⟨#[98]⟩] 24) = w2 := ⟨_, rfl⟩
  have hA : At w2 w.heap.size 3 0 ⟨#[97]⟩ := by rw [← hw2]; exact (At.new w 3 0 ⟨#[97]⟩).alloc _
  have hB : At w2 (w.heap.size + 1) 3 0 ⟨#[98]⟩ := by rw [← hw2]; have := At.new (w.alloc (.cells #[.int .i64 3, .int .i64 0, .string ⟨#[97]⟩] 24)) 3 0 ⟨#[98]⟩; simpa using this
  have hb2 : Below w.heap.size w w2 := by rw [← hw2]; exact (below_one w _).trans ((below_one _ _).mono (by simp))
  have hz2 : w2.heap.size = w.heap.size + 1 + 1 := by rw [← hw2]; simp
  have hs2 := slV_three9 w2 vB vA vB
  rw [hz2] at hs2
  have HS2 := hide hs2
  have HW := hide hw2
  clear hs2
  have HA := hide hA
  have HB := hide hB
  have HB2 := hide hb2
  clear hw2 hA hB hb2
  go_enter Try.func8, Try.ntmps8
  go_wp2_with fail
  rw [HW.out]
  refine (words_some _ 3 3 [vB, vA, vB] _ HS2.out (by omega)).mono ?_
  rintro e w3 ⟨a, n, c, rfl, hs3, _, hb3⟩
  rw [ex_wds] at hs3
  obtain rfl : 2 = n := hs3.1
  have hb23 : Below w2.heap.size w2 w3 := (below_one w2 _).trans (hb3.mono (by simp))
  have HA3 := hide (HA.out.below hb23)
  have HB3 := hide (HB.out.below hb23)
  have HBW := hide (HB2.out.trans (hb23.mono HB2.out.size))
  have HS3 := hide hs3
  obtain ⟨a0, a1, a2⟩ := HA3.out.cells
  obtain ⟨b0, b1, b2⟩ := HB3.out.cells
  have hs4 := slV_three9 w3 vB vA vB
  have b4 := below_one w3 (.cells #[.int .i64 vB.k, .int .i64 vB.i, .string vB.s, .int .i64 vA.k, .int .i64 vA.i, .string vA.s, .int .i64 vB.k, .int .i64 vB.i, .string vB.s] 24)
  have HC := hide (codes_any a c [vA, vB] (some ⟨w3.heap.size, 0, none⟩) 3 [vB, vA, vB] _ (hs3.below b4) hs4 (by simp) (by simp))
  have HB4 := hide b4
  clear hs3 hs4 b4 hb3 hb23 HS2 HA HB HB2 hz2 HW
  go_wp2_with fail
  refine Calls.mono HC.out ?_
  rintro e w5 ⟨ac, nc, cc, rfl, hs5, hb5⟩
  rw [ex_cdL] at hs5
  rw [ex_cdE]
  obtain rfl : 3 = nc := hs5.1
  have hb35 : Below w3.heap.size w3 w5 := HB4.out.trans (hb5.mono HB4.out.size)
  have HA5 := hide (HA3.out.below hb35)
  have HB5 := hide (HB3.out.below hb35)
  have HW5 := hide (HBW.out.trans (hb35.mono HBW.out.size))
  have HV5 := hide (HS3.out.below hb35)
  have HS5 := hide hs5
  clear hs5 hb5 hb35 HA3 HB3 HBW HS3 HB4 HC a0 a1 a2 b0 b1 b2
  obtain ⟨a0, a1, a2⟩ := HA5.out.cells
  obtain ⟨b0, b1, b2⟩ := HB5.out.cells
  have b6 := below_one w5 (.cells #[.int .i64 vA.k, .int .i64 vA.i, .string vA.s, .int .i64 vB.k, .int .i64 vB.i, .string vB.s] 24)
  have HSM := hide (vsame_yes a (some ⟨w5.heap.size, 0, none⟩) 2 c 2 [vA, vB] _ (HV5.out.below b6) (slV_two9 w5 vA vB) (by omega))
  have HB6 := hide b6
  clear b6
  go_wp2_with fail
  refine Calls.mono HSM.out ?_
  rintro e w7 ⟨rfl, hb7⟩
  have hb57 : Below w5.heap.size w5 w7 := HB6.out.trans (hb7.mono HB6.out.size)
  have HA7 := hide (HA5.out.below hb57)
  have HB7 := hide (HB5.out.below hb57)
  have HW7 := hide (HW5.out.trans (hb57.mono HW5.out.size))
  have HV7 := hide (HV5.out.below hb57)
  have HS7 := hide (HS5.out.below hb57)
  clear hb7 hb57 HA5 HB5 HW5 HV5 HS5 HB6 HSM a0 a1 a2 b0 b1 b2
  obtain ⟨b0, b1, b2⟩ := HB7.out.cells
  have b8 := below_one w7 (.cells #[.int .u64 1, .int .u64 0, .int .u64 1] 44)
  have HSU := hide (u64same_yes ac (some ⟨w7.heap.size, 0, none⟩) 3 cc 3 [1, 0, 1] _ (HS7.out.below b8) (sl_three w7) (by omega))
  have HB8 := hide b8
  clear b8
  go_wp2_with fail
  refine Calls.mono HSU.out ?_
  rintro e w9 ⟨rfl, hk9⟩
  have hb79 : Below w7.heap.size w7 w9 := HB8.out.trans (hk9.below HB8.out.size (by simp))
  have HB9 := hide (HB7.out.below hb79)
  have HW9 := hide (HW7.out.trans (hb79.mono HW7.out.size))
  have HV9 := hide (HV7.out.below hb79)
  clear hk9 hb79 HB7 HA7 HW7 HV7 HS7 HB8 HSU b0 b1 b2
  obtain ⟨b0, b1, b2⟩ := HB9.out.cells
  have HBL := hide (dbelow_any a 2 c [vA, vB] 3 0 ⟨#[98]⟩ w9 HV9.out (by omega))
  go_wp2_with fail
  refine Calls.mono HBL.out ?_
  rintro e w10 ⟨rfl, hb10⟩
  rw [show Z.blw [vA, vB] ⟨3, 0, ⟨#[98]⟩⟩ = 1 from ex_blw]
  have HW10 := hide (HW9.out.trans (hb10.mono HW9.out.size))
  clear hb10 HBL b0 b1 b2
  go_wp2
  go_ret
  exact ⟨rfl, HW10.out⟩
end Go.Proofs.Ytmhfpipeoojacaa
/- What a row's step hands to the walks: slices of numbers that came in. -/
namespace Go.Proofs.Ytmhfpipeoojacaa
set_option linter.unusedVariables false
open Go.ChangeShapes Go.WideShapes Go.ChangeAt Go.RowKit

theorem own : ownKnob Try.prog.godebug = none := by kernel_rfl
theorem laidOut : laidOutB Try.prog = true := by kernel_rfl

/-- A slice of numbers that came in: its elements, each of its kind; how many bytes it takes. -/
def Came (k : IntKind) (w : World) (a : Option Addr) (len cap : Nat) (l : List Int) : Prop := Sl w k a len cap l ∧ ∀ n ∈ l, (Lit.int k n).wf = true

theorem wf_u8 {n : Int} (h : (Lit.int .u8 n).wf = true) : 0 ≤ n ∧ n < 256 := by
  have := bounds_u8 h; omega
theorem wf_u64 {n : Int} (h : (Lit.int .u64 n).wf = true) : 0 ≤ n ∧ n < 18446744073709551616 := by
  have := bounds_u64 h; omega
theorem wf_i64 {n : Int} (h : (Lit.int .i64 n).wf = true) : -9223372036854775808 ≤ n ∧ n < 9223372036854775808 := by
  have := bounds_i64 h; omega
theorem wf_u16 {n : Int} (h : (Lit.int .u16 n).wf = true) : 0 ≤ n ∧ n < 65536 := by
  have := bounds_u16 h; omega

theorem came_of_cells {k : IntKind} {w : World} {x : Addr} {len cap : Nat} {zs : List Int} (hl : len ≤ cap) (hm : cap ≤ maxLen) (hz : zs.length = cap) (hc : ∀ i, i < zs.length → w.cell? (x.add i) = some (.int k (zs.getD i 0))) (hw : ∀ n ∈ zs, (Lit.int k n).wf = true) :
    Came k w (some x) len cap (zs.take len) := by
  refine ⟨⟨by simp; omega, hl, hm, by simp, ?_⟩, fun n hn => hw n (List.mem_of_mem_take hn)⟩
  by_cases h0 : len = 0
  · exact .inl h0
  · obtain ⟨b, off, spot⟩ := x
    have h1 := hc 0 (by omega)
    have hspot : spot = none := by simpa [Addr.add] using World.cell?_spot h1
    subst hspot
    refine .inr ⟨b, off, rfl, ?_, fun i hi => ?_⟩
    · have := cell_lt h1
      simpa [Addr.add] using this
    · have h2 := hc i (by omega)
      rw [Addr.add_lit] at h2
      rw [h2]
      simp [List.getD, hi]

/-- What the reading of such a slice weighs. -/
def Heavy {H : Type} (d : DataW H) (cap : Nat) : Prop := cap = 0 ∨ ∃ elems spare, d = .slice elems spare ∧ elems.length + spare.length = cap

/-- A slice of numbers that came in, opened. -/
theorem open_came {H : Type} {enc : TypeId × Value → H} {W : World} {t e : TypeId} {k : IntKind} {a : Option Addr} {len cap : Nat} {d : DataW H} {p : List MemPlace}
    (ht : Try.prog.underlying t = some (.slice e)) (he : Try.prog.underlying e = some (.int k)) (hc : Try.prog.cellsOf e = 1)
    (h : DataW.Trod enc Try.prog W 0 (fun _ => true) true t (.slice a len cap) d p) : (∃ l, Came k W a len cap l) ∧ Heavy d cap := by
  obtain ⟨fuel, hf⟩ := h
  rcases open_ints ht he hc hf with ⟨hcs, _⟩ | ⟨x, l, c, zs, hcs, _, hl, hm, hz, hd, hcell, hwz⟩
  · simp [Value.cells] at hcs
    obtain ⟨rfl, rfl, rfl⟩ := hcs
    exact ⟨⟨[], ⟨rfl, Nat.le_refl _, by decide, fun _ => rfl, .inl rfl⟩, by simp⟩, .inl rfl⟩
  · simp [Value.cells] at hcs
    obtain ⟨rfl, rfl, rfl⟩ := hcs
    have hz' : zs.length = cap := by simpa using hz
    refine ⟨⟨zs.take len, came_of_cells hl hm hz' hcell hwz⟩, .inr ⟨_, _, (Prod.mk.inj hd).1, ?_⟩⟩
    simp [lits]; omega

theorem reach_came {H : Type} {ts : List TypeId} {ds : List (DataW H)} {j : Nat} {t e : TypeId} {d : DataW H} {cap : Nat} (hsz : (DataW.weightsEach Try.prog ts ds).all (· ≤ reachBytes) = true)
    (ht : ts[j]? = some t) (hdj : ds[j]? = some d) (hu : Try.prog.underlying t = some (.slice e)) (hd : Heavy d cap) : cap * Try.prog.bytesOf e ≤ 140737488351232 := by
  rcases hd with rfl | ⟨el, sp, rfl, rfl⟩
  · simp
  · have := sized_slice hsz ht hdj hu
    simpa [reachBytes] using this
/-- Bytes that came in. -/
theorem came_bytes {w : World} {a : Option Addr} {len cap : Nat} {z : List Int} (h : Came .u8 w a len cap z) : ∃ l : List Nat, z = ints l ∧ (∀ x ∈ l, x < 256) := by
  refine ⟨z.map Int.toNat, ?_, ?_⟩
  · simp only [ints, List.map_map]
    conv => lhs; rw [← List.map_id z]
    apply List.map_congr_left
    intro x hx
    have := wf_u8 (h.2 x hx)
    simp; omega
  · intro x hx
    obtain ⟨y, hy, rfl⟩ := List.mem_map.1 hx
    have := wf_u8 (h.2 y hy)
    omega

end Go.Proofs.Ytmhfpipeoojacaa

/- The contracts of slices.Clone at bytes, of val's toInt, toText. -/
import Derived.Test.YtmhfpipeoojacaaBdL
import Derived.Lib.SliceRun
import Derived.Test.YtmhfpipeoojacaaBdZD
namespace Go.Proofs.Ytmhfpipeoojacaa
set_option linter.unusedVariables false
open Go.RowKit

set_option maxHeartbeats 400000 in
theorem clone_nil (w : World) : Calls Try.prog 73 #[.slice none 0 0] w fun e w' => e = .returned (.slice none 0 0) ∧ w' = w := by
  have hq := fun (w : World) (a : Option Addr) (n c : Nat) => Lib.run_eql_slice_nil (P := Try.prog) w 36 5 a n c 0 0 Try.underlying36
  go_enter Try.func73, Try.ntmps73
  go_wp2
  go_ret
  exact ⟨rfl, rfl⟩
set_option maxHeartbeats 400000 in
theorem clone_some (x : Addr) (len cap : Nat) (l : List Int) (w : World) (h : Sl w .u8 (some x) len cap l) (hb : len ≤ 140737488355328) :
    Calls Try.prog 73 #[.slice (some x) len cap] w fun e w' => ∃ v', e = .returned v' ∧ w'.ownsRow w.heap.size 5 1 v' len (l.map (Value.int .u8)) ∧ Below w.heap.size w w' := by
  obtain ⟨i0, hi, hz0, hz1, hz2⟩ := info_parts Try.infoU8
  have hq := fun (w : World) (a : Option Addr) (n c : Nat) => Lib.run_eql_slice_nil (P := Try.prog) w 36 5 a n c 0 0 Try.underlying36
  go_enter Try.func73, Try.ntmps73
  go_wp2_with (at_builtin; refine wpList_append_to rfl _ _ 36 rfl w.heap.size 5 i0 (.int .u8 0) 1 1 Try.underlying36 hi hz0 hz1 hz2 rfl (by decide) _ 0 [] rfl (World.ownsRow_lit w #[] 0 (Nat.le_refl _) (by decide) rfl) (some x) len cap (l.map (Value.int .u8)) rfl ?c0 ?c6 ?c1 ?c2 ?c3 ?c4 ?c5 ?_)
  case c0 => simp
  case c6 => simpa using h.1
  case c1 => exact (h.below ((Below.refl _ _).alloc (Nat.le_refl _) _)).news
  case c2 => intro u hu; obtain ⟨y, _, rfl⟩ := List.mem_map.1 hu; rfl
  case c3 => have := h.2.1; have := h.2.2.1; omega
  case c4 => omega
  case c5 => simp
  intro v' w1 hown has
  go_wp2
  go_ret
  refine ⟨v', rfl, by simpa using hown, ?_⟩
  have hk := Kept.below (((Kept.refl _ w).alloc _).trans' (F := fun k => w.heap.size ≤ k) has.1 (fun k hk => ?_)) (Nat.le_refl _) (fun k hk => hk)
  · exact hk
  · exact .inl (owns_lt (World.ownsRow_lit (base := w.heap.size) (e := 5) (size := 1) w #[] 0 (Nat.le_refl _) (by decide) rfl) hk).1
/-- slices.Clone at bytes. -/
theorem clone_any (ao : Option Addr) (len cap : Nat) (l : List Nat) (w : World) (h : Sl w .u8 ao len cap (ints l)) (hb : len ≤ 140737488355328) :
    Calls Try.prog 73 #[.slice ao len cap] w fun e w' => ∃ a c, e = .returned (.slice a len c) ∧ Sl w' .u8 a len c (ints l) ∧ Below w.heap.size w w' := by
  have hl : l.length = len := by rw [← h.1, ints_length]
  cases ao with
  | some x =>
    refine (clone_some x len cap (ints l) w h hb).mono ?_
    rintro e w' ⟨v, rfl, ho, hb1⟩
    subst hl
    rw [← B8_ints] at ho
    obtain ⟨a, c, rfl, hs, _⟩ := Sl.of_bytes ho
    exact ⟨a, c, rfl, hs, hb1⟩
  | none =>
    obtain ⟨h1, h2, h3, h4, h5⟩ := h
    obtain rfl := h4 rfl
    obtain rfl : len = 0 := by omega
    obtain rfl : l = [] := List.eq_nil_of_length_eq_zero hl
    refine (clone_nil w).mono ?_
    rintro e w' ⟨rfl, rfl⟩
    exact ⟨_, _, rfl, Sl.nil _ _, Below.refl _ _⟩

/-- A value written anew. -/
def putV (w : World) (b : Nat) (k i : Int) (s : ByteArray) : World := ((w.setCell ⟨b, 0, none⟩ (.int .i64 k)).setCell ⟨b, 1, none⟩ (.int .i64 i)).setCell ⟨b, 2, none⟩ (.string s)
theorem At.set {w : World} {b : Nat} {k i : Int} {s : ByteArray} (h : At w b k i s) (k' i' : Int) (s' : ByteArray) : At (putV w b k' i' s') b k' i' s' := by
  unfold At putV at *
  simp only [World.setCell, Array.getElem?_modify, h]; simp
theorem putV_kept (w : World) (b : Nat) (k i : Int) (s : ByteArray) : Kept (fun x => x = b) w (putV w b k i s) :=
  Kept.setCell (F := fun x => x = b) (p := ⟨b, 2, none⟩) (Kept.setCell (F := fun x => x = b) (p := ⟨b, 1, none⟩) (Kept.setCell (F := fun x => x = b) (p := ⟨b, 0, none⟩) (Kept.refl _ w) (.inl rfl) _) (.inl rfl) _) (.inl rfl) _
theorem putV_below {w w1 : World} {b : Nat} (k i : Int) (s : ByteArray) (h : Below w.heap.size w w1) (hb : w.heap.size ≤ b) : Below w.heap.size w (putV w1 b k i s) :=
  ((h.setCell (p := ⟨b, 0, none⟩) hb _).setCell (p := ⟨b, 1, none⟩) hb _).setCell (p := ⟨b, 2, none⟩) hb _
/-- Bytes do not lie in a value. -/
theorem Sl.putV {w : World} {a : Option Addr} {n c : Nat} {l : List Int} (h : Sl w .u8 a n c l) {b : Nat} {k i : Int} {s : ByteArray} (hA : At w b k i s) (k' i' : Int) (s' : ByteArray) : Sl (putV w b k' i' s') .u8 a n c l := by
  refine h.kept0 (putV_kept w b k' i' s') ?_
  by_cases h0 : n = 0
  · exact .inl h0
  · refine .inr fun x hx hB => ?_
    rcases h.2.2.2.2 with h5 | ⟨B, off, hao, hlt, h5⟩
    · exact h0 h5
    · rw [hao] at hx
      obtain rfl := Option.some.inj hx
      have h6 := h5 0 (by omega)
      have hB' : B = b := hB
      subst hB'
      unfold At at hA
      simp only [World.cell?, hA, Nat.add_zero] at h6
      match off, h6 with
      | 0, h6 => simp at h6
      | 1, h6 => simp at h6
      | 2, h6 => simp at h6
      | n + 3, h6 => simp at h6
/-- A value, and two more, told. -/
theorem results_val {fn : Func} {p u v : Tmp} (h : fn.results = #[.cell p 24, .tmp u, .tmp v]) (tmps : Array Value) (w : World) (g : Nat) {k i : Int} {s : ByteArray} (hp : tmps.getD p undef = .pointer (some ⟨g, 0, none⟩)) (hA : At w g k i s) :
    (results fn tmps).run Try.prog w = .ok (.tuple #[.agg #[.int .i64 k, .int .i64 i, .string s], tmps.getD u undef, tmps.getD v undef]) w := by
  have hp' : tmps[p]?.getD undef = .pointer (some ⟨g, 0, none⟩) := by simpa using hp
  unfold At at hA
  simp [results, h, hp', asAddr, run_loadVar_row w g 24 24 _ (0, 0) _ hA Try.underlying24 rfl (by kernel_rfl)]

/-- What Of answers. -/
def OfAns (l : List Nat) (kind : Int) (w : World) (e : Ending) (w' : World) : Prop := ∃ a c, e = .returned (.tuple #[(Z.oV l kind).v, .slice a (Z.oR l kind).length c, .int .i64 ((Z.oE l kind : Nat) : Int)]) ∧ Sl w' .u8 a (Z.oR l kind).length c (ints (Z.oR l kind)) ∧ Below w.heap.size w w'
theorem OfAns.no {l : List Nat} {kind : Int} {w w' : World} {E : Nat} (h : Z.oE l kind = E) (h0 : E ≠ 0) (hb : Below w.heap.size w w') : OfAns l kind w (.returned (.tuple #[.agg #[.int .i64 0, .int .i64 0, .string ⟨#[]⟩], .slice none 0 0, .int .i64 ((E : Nat) : Int)])) w' := by
  subst h
  have e1 : Z.oV l kind = ⟨0, 0, ⟨#[]⟩⟩ := by unfold Z.oV; rw [if_neg h0]
  have e2 : Z.oR l kind = [] := by unfold Z.oR; rw [if_neg h0]
  unfold OfAns; rw [e1, e2]
  exact ⟨none, 0, rfl, Sl.nil _ _, hb⟩
theorem OfAns.yes {l r : List Nat} {kind k i : Int} {s : ByteArray} {w w' : World} {a : Option Addr} {n c : Nat} (h : Z.oE l kind = 0) (hw : Z.oW l kind = ⟨k, i, s⟩) (hr : Z.oS l kind = r) (hn : r.length = n) (hs : Sl w' .u8 a n c (ints r)) (hb : Below w.heap.size w w') : OfAns l kind w (.returned (.tuple #[.agg #[.int .i64 k, .int .i64 i, .string s], .slice a n c, .int .i64 0])) w' := by
  have e1 : Z.oV l kind = ⟨k, i, s⟩ := by unfold Z.oV; rw [if_pos h]; exact hw
  have e2 : Z.oR l kind = r := by unfold Z.oR; rw [if_pos h]; exact hr
  subst hn
  unfold OfAns; rw [e1, e2, h]
  exact ⟨a, c, rfl, hs, hb⟩
theorem oE_int (l : List Nat) : Z.oE l 1 = E.gE l := by unfold Z.oE; rw [if_neg (by decide), if_pos rfl]
theorem oE_text (l : List Nat) : Z.oE l 3 = E.xE 1024 l := by unfold Z.oE; rw [if_neg (by decide), if_neg (by decide), if_neg (by decide), if_pos rfl]
theorem iE_one (l : List Nat) : E.iE 1 l = E.gE l := by
  rw [E.iE_pos (by omega)]
  show E.tE 1 l = _
  unfold E.tE
  split
  · rename_i h; rw [h]; rfl
  · rfl
theorem iL_one {l : List Nat} (h : E.gE l = 0) : E.iL 1 l = [E.zag (E.gN l)] := by
  unfold E.iL; rw [if_pos (by rw [iE_one, h])]; rfl
theorem iR_one {l : List Nat} (h : E.gE l = 0) : E.iR 1 l = l.drop (E.gK l) := by
  unfold E.iR; rw [if_pos (by rw [iE_one, h])]; rfl
theorem oW_int (l : List Nat) : Z.oW l 1 = ⟨1, E.zag (E.gN l), ⟨#[]⟩⟩ := by unfold Z.oW; rw [if_pos rfl]
theorem oS_int (l : List Nat) : Z.oS l 1 = l.drop (E.gK l) := by unfold Z.oS; rw [if_pos rfl]
theorem oW_text (l : List Nat) : Z.oW l 3 = ⟨3, 0, strOfNums (ints (E.xS l))⟩ := by unfold Z.oW; rw [if_neg (by decide), if_neg (by decide), if_pos rfl]
theorem oS_text (l : List Nat) : Z.oS l 3 = E.xR l := by unfold Z.oS; rw [if_neg (by decide), if_neg (by decide), if_pos rfl]
theorem vtoint_any (ao : Option Addr) (len cap : Nat) (l : List Nat) (w : World) (h : Sl w .u8 ao len cap (ints l)) (h256 : ∀ x ∈ l, x < 256) (hm : len ≤ 140737488355328) :
    Calls Try.prog 100 #[.slice ao len cap] w (OfAns l 1 w) := by
  have hA := At.new w 0 0 ⟨#[]⟩
  have b0 := hide (below_one w (.cells #[.int .i64 0, .int .i64 0, .string ⟨#[]⟩] 24))
  have HT := hide (toints_anyN ao len cap l 1 _ (h.below b0.out) h256 ⟨hm, .inr (by omega)⟩ (by omega) (by omega))
  clear h
  by_cases hg : E.gE l = 0
  · have HL := hide (iL_one hg)
    have HR := hide (iR_one hg)
    have HE := hide ((iE_one l).trans hg)
    have HO := hide ((oE_int l).trans hg)
    clear hg
    go_enter Try.func100, Try.ntmps100
    go_wp2_with fail
    refine HT.out.mono ?_
    rintro e w1 ⟨v1, v2, rfl, ⟨⟨q1, c1, rfl, hs1, _⟩, q2, c2, rfl, hs2⟩, hb⟩
    rw [HE.out, HL.out, HR.out]
    rw [HL.out] at hs1
    rw [HR.out] at hs2
    rcases hs1.2.2.2.2 with h5 | ⟨B, off, rfl, hlt, h5⟩
    · simp at h5
    have hc := h5 0 (by simp)
    simp only [List.getD_cons_zero, Nat.add_zero] at hc
    replace hA := hA.below hb
    replace b0 := hide (bthen b0.out hb)
    replace hs2 := hide hs2
    obtain ⟨x, hx⟩ : ∃ x, E.zag (E.gN l) = x := ⟨_, rfl⟩
    obtain ⟨n2, hn2⟩ : ∃ n2, (l.drop (E.gK l)).length = n2 := ⟨_, rfl⟩
    rw [hx] at hc
    rw [hn2]
    rw [hn2] at hs2
    have HX := hide hx
    have HN2 := hide hn2
    clear hb h5 hs1 hlt hx hn2 HT h256 HL HR HE
    obtain ⟨a1, a2, a3⟩ := hA.cells
    obtain ⟨f1, f2, f3⟩ := hA.thawed
    replace hA := hide hA
    go_wp2
    refine bodyPost_ret (results_val Try.results100 _ _ w.heap.size rfl (hA.out.set 1 x ⟨#[]⟩)) rfl ?_
    exact OfAns.yes HO.out (by rw [oW_int, HX.out]) (oS_int l) HN2.out (hs2.out.putV hA.out 1 x ⟨#[]⟩) (putV_below 1 x ⟨#[]⟩ b0.out (Nat.le_refl _))
  · have HE := hide (iE_one l)
    have HO := hide (oE_int l)
    obtain ⟨G, hG⟩ : ∃ G : Nat, E.gE l = G := ⟨_, rfl⟩
    rw [hG] at hg HE HO
    clear hG
    have hg2 : ((G : Nat) : Int) ≠ 0 := by omega
    obtain ⟨e, he⟩ : ∃ e : Int, ((G : Nat) : Int) = e := ⟨_, rfl⟩
    have hg3 : e ≠ 0 := by omega
    have HEE := hide he
    go_enter Try.func100, Try.ntmps100
    go_wp2_with fail
    refine HT.out.mono ?_
    rintro e' w1 ⟨v1, v2, rfl, ⟨⟨q1, c1, rfl, _, _⟩, q2, c2, rfl, _⟩, hb⟩
    rw [HE.out, HEE.out]
    replace hA := hA.below hb
    replace b0 := hide (bthen b0.out hb)
    generalize (E.iL 1 l).length = n1
    generalize (E.iR 1 l).length = n2
    clear hb HT h256 HE he hg2
    obtain ⟨a1, a2, a3⟩ := hA.cells
    obtain ⟨f1, f2, f3⟩ := hA.thawed
    replace hA := hide hA
    go_wp2
    refine bodyPost_ret (results_val Try.results100 _ _ w.heap.size rfl (hA.out.set 0 0 ⟨#[]⟩)) rfl ?_
    have := OfAns.no HO.out hg (putV_below 0 0 ⟨#[]⟩ b0.out (Nat.le_refl _))
    rw [HEE.out] at this
    exact this
end Go.Proofs.Ytmhfpipeoojacaa

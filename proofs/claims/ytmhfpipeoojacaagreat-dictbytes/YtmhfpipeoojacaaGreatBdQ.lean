/- The contracts of slices.Clone at bytes, of val's toInt, toText. -/
import Derived.Test.YtmhfpipeoojacaaGreatBdN
import Derived.Lib.SliceRun
import Derived.Test.YtmhfpipeoojacaaGreatBdK
import Derived.Test.YtmhfpipeoojacaaGreatBdM
import Derived.Test.YtmhfpipeoojacaaGreatBdP
namespace Go.Proofs.YtmhfpipeoojacaaGreat
set_option linter.unusedVariables false
open Go.RowKit

set_option maxHeartbeats 400000 in
theorem clone_nil (w : World) : Calls Tryz.prog 92 #[.slice none 0 0] w fun e w' => e = .returned (.slice none 0 0) ∧ w' = w := by
  have hq := fun (w : World) (a : Option Addr) (n c : Nat) => Lib.run_eql_slice_nil (P := Tryz.prog) w 23 5 a n c 0 0 Tryz.underlying23
  go_enter Tryz.func92, Tryz.ntmps92
  go_wp2
  go_ret
  exact ⟨rfl, rfl⟩
set_option maxHeartbeats 400000 in
theorem clone_some (x : Addr) (len cap : Nat) (l : List Int) (w : World) (h : Sl w .u8 (some x) len cap l) (hb : len ≤ 140737488355328) :
    Calls Tryz.prog 92 #[.slice (some x) len cap] w fun e w' => ∃ v', e = .returned v' ∧ w'.ownsRow w.heap.size 5 1 v' len (l.map (Value.int .u8)) ∧ Below w.heap.size w w' := by
  obtain ⟨i0, hi, hz0, hz1, hz2⟩ := info_parts Tryz.infoU8
  have hq := fun (w : World) (a : Option Addr) (n c : Nat) => Lib.run_eql_slice_nil (P := Tryz.prog) w 23 5 a n c 0 0 Tryz.underlying23
  go_enter Tryz.func92, Tryz.ntmps92
  go_wp2_with (at_builtin; refine wpList_append_to rfl _ _ 23 rfl w.heap.size 5 i0 (.int .u8 0) 1 1 Tryz.underlying23 hi hz0 hz1 hz2 rfl (by decide) _ 0 [] rfl (World.ownsRow_lit w #[] 0 (Nat.le_refl _) (by decide) rfl) (some x) len cap (l.map (Value.int .u8)) rfl ?c0 ?c6 ?c1 ?c2 ?c3 ?c4 ?c5 ?_)
  case c0 => simp
  case c6 => simpa using h.1
  case c1 => exact (h.below ((Below.refl _ _).alloc (Nat.le_refl _) _)).news
  case c2 => intro u hu; obtain ⟨y, _, rfl⟩ := List.mem_map.1 hu; rfl
  case c3 => have := h.2.1; have := h.2.2.1; omega
  case c4 => omega
  case c5 => simp
  intro v' w1 hown has
  go_wp2
  go_ret
  refine ⟨v', rfl, by simpa using hown, ?_⟩
  have hk := Kept.below (((Kept.refl _ w).alloc _).trans' (F := fun k => w.heap.size ≤ k) has.1 (fun k hk => ?_)) (Nat.le_refl _) (fun k hk => hk)
  · exact hk
  · exact .inl (owns_lt (World.ownsRow_lit (base := w.heap.size) (e := 5) (size := 1) w #[] 0 (Nat.le_refl _) (by decide) rfl) hk).1
/-- slices.Clone at bytes. -/
theorem clone_any (ao : Option Addr) (len cap : Nat) (l : List Nat) (w : World) (h : Sl w .u8 ao len cap (ints l)) (hb : len ≤ 140737488355328) :
    Calls Tryz.prog 92 #[.slice ao len cap] w fun e w' => ∃ a c, e = .returned (.slice a len c) ∧ Sl w' .u8 a len c (ints l) ∧ Below w.heap.size w w' := by
  have hl : l.length = len := by rw [← h.1, ints_length]
  cases ao with
  | some x =>
    refine (clone_some x len cap (ints l) w h hb).mono ?_
    rintro e w' ⟨v, rfl, ho, hb1⟩
    subst hl
    rw [← B8_ints] at ho
    obtain ⟨a, c, rfl, hs, _⟩ := Sl.of_bytes ho
    exact ⟨a, c, rfl, hs, hb1⟩
  | none =>
    obtain ⟨h1, h2, h3, h4, h5⟩ := h
    obtain rfl := h4 rfl
    obtain rfl : len = 0 := by omega
    obtain rfl : l = [] := List.eq_nil_of_length_eq_zero hl
    refine (clone_nil w).mono ?_
    rintro e w' ⟨rfl, rfl⟩
    exact ⟨_, _, rfl, Sl.nil _ _, Below.refl _ _⟩

/-- A value written anew. -/
def putV (w : World) (b : Nat) (k i : Int) (s : ByteArray) : World := ((w.setCell ⟨b, 0, none⟩ (.int .i64 k)).setCell ⟨b, 1, none⟩ (.int .i64 i)).setCell ⟨b, 2, none⟩ (.string s)
theorem At.set {w : World} {b : Nat} {k i : Int} {s : ByteArray} (h : At w b k i s) (k' i' : Int) (s' : ByteArray) : At (putV w b k' i' s') b k' i' s' := by
  unfold At putV at *
  simp only [World.setCell, Array.getElem?_modify, h]; simp
theorem putV_kept (w : World) (b : Nat) (k i : Int) (s : ByteArray) : Kept (fun x => x = b) w (putV w b k i s) :=
  Kept.setCell (F := fun x => x = b) (p := ⟨b, 2, none⟩) (Kept.setCell (F := fun x => x = b) (p := ⟨b, 1, none⟩) (Kept.setCell (F := fun x => x = b) (p := ⟨b, 0, none⟩) (Kept.refl _ w) (.inl rfl) _) (.inl rfl) _) (.inl rfl) _
theorem putV_below {w w1 : World} {b : Nat} (k i : Int) (s : ByteArray) (h : Below w.heap.size w w1) (hb : w.heap.size ≤ b) : Below w.heap.size w (putV w1 b k i s) :=
  ((h.setCell (p := ⟨b, 0, none⟩) hb _).setCell (p := ⟨b, 1, none⟩) hb _).setCell (p := ⟨b, 2, none⟩) hb _
/-- Bytes do not lie in a value. -/
theorem Sl.putV {w : World} {a : Option Addr} {n c : Nat} {l : List Int} (h : Sl w .u8 a n c l) {b : Nat} {k i : Int} {s : ByteArray} (hA : At w b k i s) (k' i' : Int) (s' : ByteArray) : Sl (putV w b k' i' s') .u8 a n c l := by
  refine h.kept0 (putV_kept w b k' i' s') ?_
  by_cases h0 : n = 0
  · exact .inl h0
  · refine .inr fun x hx hB => ?_
    rcases h.2.2.2.2 with h5 | ⟨B, off, hao, hlt, h5⟩
    · exact h0 h5
    · rw [hao] at hx
      obtain rfl := Option.some.inj hx
      have h6 := h5 0 (by omega)
      have hB' : B = b := hB
      subst hB'
      unfold At at hA
      simp only [World.cell?, hA, Nat.add_zero] at h6
      match off, h6 with
      | 0, h6 => simp at h6
      | 1, h6 => simp at h6
      | 2, h6 => simp at h6
      | n + 3, h6 => simp at h6
/-- A value, and two more, told. -/
theorem results_val {fn : Func} {p u v : Tmp} (h : fn.results = #[.cell p 45, .tmp u, .tmp v]) (tmps : Array Value) (w : World) (g : Nat) {k i : Int} {s : ByteArray} (hp : tmps.getD p undef = .pointer (some ⟨g, 0, none⟩)) (hA : At w g k i s) :
    (results fn tmps).run Tryz.prog w = .ok (.tuple #[.agg #[.int .i64 k, .int .i64 i, .string s], tmps.getD u undef, tmps.getD v undef]) w := by
  have hp' : tmps[p]?.getD undef = .pointer (some ⟨g, 0, none⟩) := by simpa using hp
  unfold At at hA
  simp [results, h, hp', asAddr, run_loadVar_row w g 45 45 _ (0, 0) _ hA Tryz.underlying45 rfl (by kernel_rfl)]

/-- What Of answers. -/
def OfAns (l : List Nat) (kind : Int) (w : World) (e : Ending) (w' : World) : Prop := ∃ a c, e = .returned (.tuple #[(Z.oV l kind).v, .slice a (Z.oR l kind).length c, .int .i64 ((Z.oE l kind : Nat) : Int)]) ∧ Sl w' .u8 a (Z.oR l kind).length c (ints (Z.oR l kind)) ∧ Below w.heap.size w w'
theorem OfAns.no {l : List Nat} {kind : Int} {w w' : World} {E : Nat} (h : Z.oE l kind = E) (h0 : E ≠ 0) (hb : Below w.heap.size w w') : OfAns l kind w (.returned (.tuple #[.agg #[.int .i64 0, .int .i64 0, .string ⟨#[]⟩], .slice none 0 0, .int .i64 ((E : Nat) : Int)])) w' := by
  subst h
  have e1 : Z.oV l kind = ⟨0, 0, ⟨#[]⟩⟩ := by unfold Z.oV; rw [if_neg h0]
  have e2 : Z.oR l kind = [] := by unfold Z.oR; rw [if_neg h0]
  unfold OfAns; rw [e1, e2]
  exact ⟨none, 0, rfl, Sl.nil _ _, hb⟩
theorem OfAns.yes {l r : List Nat} {kind k i : Int} {s : ByteArray} {w w' : World} {a : Option Addr} {n c : Nat} (h : Z.oE l kind = 0) (hw : Z.oW l kind = ⟨k, i, s⟩) (hr : Z.oS l kind = r) (hn : r.length = n) (hs : Sl w' .u8 a n c (ints r)) (hb : Below w.heap.size w w') : OfAns l kind w (.returned (.tuple #[.agg #[.int .i64 k, .int .i64 i, .string s], .slice a n c, .int .i64 0])) w' := by
  have e1 : Z.oV l kind = ⟨k, i, s⟩ := by unfold Z.oV; rw [if_pos h]; exact hw
  have e2 : Z.oR l kind = r := by unfold Z.oR; rw [if_pos h]; exact hr
  subst hn
  unfold OfAns; rw [e1, e2, h]
  exact ⟨a, c, rfl, hs, hb⟩
theorem oE_int (l : List Nat) : Z.oE l 1 = E.gE l := by unfold Z.oE; rw [if_neg (by decide), if_pos rfl]
theorem oE_text (l : List Nat) : Z.oE l 3 = E.xE 1024 l := by unfold Z.oE; rw [if_neg (by decide), if_neg (by decide), if_neg (by decide), if_pos rfl]
theorem iE_one (l : List Nat) : E.iE 1 l = E.gE l := by
  rw [E.iE_pos (by omega)]
  show E.tE 1 l = _
  unfold E.tE
  split
  · rename_i h; rw [h]; rfl
  · rfl
theorem iL_one {l : List Nat} (h : E.gE l = 0) : E.iL 1 l = [E.zag (E.gN l)] := by
  unfold E.iL; rw [if_pos (by rw [iE_one, h])]; rfl
theorem iR_one {l : List Nat} (h : E.gE l = 0) : E.iR 1 l = l.drop (E.gK l) := by
  unfold E.iR; rw [if_pos (by rw [iE_one, h])]; rfl
theorem oW_int (l : List Nat) : Z.oW l 1 = ⟨1, E.zag (E.gN l), ⟨#[]⟩⟩ := by unfold Z.oW; rw [if_pos rfl]
theorem oS_int (l : List Nat) : Z.oS l 1 = l.drop (E.gK l) := by unfold Z.oS; rw [if_pos rfl]
theorem oW_text (l : List Nat) : Z.oW l 3 = ⟨3, 0, strOfNums (ints (E.xS l))⟩ := by unfold Z.oW; rw [if_neg (by decide), if_neg (by decide), if_pos rfl]
theorem oS_text (l : List Nat) : Z.oS l 3 = E.xR l := by unfold Z.oS; rw [if_neg (by decide), if_neg (by decide), if_pos rfl]
theorem vtoint_any (ao : Option Addr) (len cap : Nat) (l : List Nat) (w : World) (h : Sl w .u8 ao len cap (ints l)) (h256 : ∀ x ∈ l, x < 256) (hm : len ≤ 140737488355328) :
    Calls Tryz.prog 114 #[.slice ao len cap] w (OfAns l 1 w) := by
  have hA := At.new w 0 0 ⟨#[]⟩
  have b0 := hide (below_one w (.cells #[.int .i64 0, .int .i64 0, .string ⟨#[]⟩] 45))
  have HT := hide (toints_anyN ao len cap l 1 _ (h.below b0.out) h256 ⟨hm, .inr (by omega)⟩ (by omega) (by omega))
  clear h
  by_cases hg : E.gE l = 0
  · have HL := hide (iL_one hg)
    have HR := hide (iR_one hg)
    have HE := hide ((iE_one l).trans hg)
    have HO := hide ((oE_int l).trans hg)
    clear hg
    go_enter Tryz.func114, Tryz.ntmps114
    go_wp2_with fail
    refine HT.out.mono ?_
    rintro e w1 ⟨v1, v2, rfl, ⟨⟨q1, c1, rfl, hs1, _⟩, q2, c2, rfl, hs2⟩, hb⟩
    rw [HE.out, HL.out, HR.out]
    rw [HL.out] at hs1
    rw [HR.out] at hs2
    rcases hs1.2.2.2.2 with h5 | ⟨B, off, rfl, hlt, h5⟩
    · simp at h5
    have hc := h5 0 (by simp)
    simp only [List.getD_cons_zero, Nat.add_zero] at hc
    replace hA := hA.below hb
    replace b0 := hide (bthen b0.out hb)
    replace hs2 := hide hs2
    obtain ⟨x, hx⟩ : ∃ x, E.zag (E.gN l) = x := ⟨_, rfl⟩
    obtain ⟨n2, hn2⟩ : ∃ n2, (l.drop (E.gK l)).length = n2 := ⟨_, rfl⟩
    rw [hx] at hc
    rw [hn2]
    rw [hn2] at hs2
    have HX := hide hx
    have HN2 := hide hn2
    clear hb h5 hs1 hlt hx hn2 HT h256 HL HR HE
    obtain ⟨a1, a2, a3⟩ := hA.cells
    obtain ⟨f1, f2, f3⟩ := hA.thawed
    replace hA := hide hA
    go_wp2
    refine bodyPost_ret (results_val Tryz.results114 _ _ w.heap.size rfl (hA.out.set 1 x ⟨#[]⟩)) rfl ?_
    exact OfAns.yes HO.out (by rw [oW_int, HX.out]) (oS_int l) HN2.out (hs2.out.putV hA.out 1 x ⟨#[]⟩) (putV_below 1 x ⟨#[]⟩ b0.out (Nat.le_refl _))
  · have HE := hide (iE_one l)
    have HO := hide (oE_int l)
    obtain ⟨G, hG⟩ : ∃ G : Nat, E.gE l = G := ⟨_, rfl⟩
    rw [hG] at hg HE HO
    clear hG
    have hg2 : ((G : Nat) : Int) ≠ 0 := by omega
    obtain ⟨e, he⟩ : ∃ e : Int, ((G : Nat) : Int) = e := ⟨_, rfl⟩
    have hg3 : e ≠ 0 := by omega
    have HEE := hide he
    go_enter Tryz.func114, Tryz.ntmps114
    go_wp2_with fail
    refine HT.out.mono ?_
    rintro e' w1 ⟨v1, v2, rfl, ⟨⟨q1, c1, rfl, _, _⟩, q2, c2, rfl, _⟩, hb⟩
    rw [HE.out, HEE.out]
    replace hA := hA.below hb
    replace b0 := hide (bthen b0.out hb)
    generalize (E.iL 1 l).length = n1
    generalize (E.iR 1 l).length = n2
    clear hb HT h256 HE he hg2
    obtain ⟨a1, a2, a3⟩ := hA.cells
    obtain ⟨f1, f2, f3⟩ := hA.thawed
    replace hA := hide hA
    go_wp2
    refine bodyPost_ret (results_val Tryz.results114 _ _ w.heap.size rfl (hA.out.set 0 0 ⟨#[]⟩)) rfl ?_
    have := OfAns.no HO.out hg (putV_below 0 0 ⟨#[]⟩ b0.out (Nat.le_refl _))
    rw [HEE.out] at this
    exact this
end Go.Proofs.YtmhfpipeoojacaaGreat
/- The contracts of the reference's Zig, Zag, Put. -/
namespace Go.Proofs.YtmhfpipeoojacaaGreat
set_option linter.unusedVariables false
open Go.RowKit

theorem rzig_neg (n : Int) (h0 : -9223372036854775808 ≤ n) (h : n < 0) : 2 * -(n + 1) + 1 = ((E.zig n : Nat) : Int) := by
  unfold E.zig; rw [if_pos h]; omega
theorem rzig_pos (n : Int) (h : 0 ≤ n) : 2 * n = ((E.zig n : Nat) : Int) := by
  unfold E.zig; rw [if_neg (by omega)]; omega

set_option maxHeartbeats 400000 in
theorem rzig_any (n : Int) (w : World) (h0 : -9223372036854775808 ≤ n) (h1 : n < 9223372036854775808) :
    Calls Tryz.prog 60 #[.int .i64 n] w fun e w' => e = .returned (.int .u64 ((E.zig n : Nat) : Int)) ∧ w' = w := by
  by_cases hn : n < 0
  · go_enter Tryz.func60, Tryz.ntmps60
    go_wp2
    go_ret
    exact ⟨ret_int (rzig_neg n h0 hn), rfl⟩
  · go_enter Tryz.func60, Tryz.ntmps60
    go_wp2
    go_ret
    exact ⟨ret_int (rzig_pos n (by omega)), rfl⟩

set_option maxHeartbeats 400000 in
theorem rzag_any (n : Int) (w : World) (h0 : 0 ≤ n) (h1 : n < 18446744073709551616) :
    Calls Tryz.prog 102 #[.int .u64 n] w fun e w' => e = .returned (.int .i64 (E.zag n.toNat)) ∧ w' = w := by
  by_cases hn : n % 2 = 1
  · have hb : (n % 2 == 1) = true := by simpa using hn
    clear hn
    go_enter Tryz.func102, Tryz.ntmps102
    go_wp2
    go_ret
    exact ⟨ret_int (zag_odd n h0 (by simpa using hb)), rfl⟩
  · have hb : (n % 2 == 1) = false := by simpa using hn
    clear hn
    go_enter Tryz.func102, Tryz.ntmps102
    go_wp2
    go_ret
    exact ⟨ret_int (zag_even n h0 (by simpa using hb)), rfl⟩

set_option maxHeartbeats 400000 in
theorem rput_any (n : Int) (w : World) (hn0 : 0 ≤ n) (hn1 : n < 18446744073709551616) :
    Calls Tryz.prog 25 #[.int .u64 n] w fun e w' => ∃ v', e = .returned v' ∧ w'.ownsRow w.heap.size 5 1 v' (E.leb n.toNat).length (B8 (E.leb n.toNat)) ∧ Below w.heap.size w w' := by
  obtain ⟨i0, hi, hz0, hz1, hz2⟩ := info_parts Tryz.infoU8
  have h10 := E.leb_ten n.toNat (by omega)
  go_enter Tryz.func25, Tryz.ntmps25
  go_wp2_with fail
  go_loopw [0, 3] (fun m b wr => ∃ (pre : List Nat) (k : Int), m = .int .u64 k ∧ 0 ≤ k ∧ k < 18446744073709551616 ∧ pre ++ E.leb k.toNat = E.leb n.toNat ∧ wr.ownsRow w.heap.size 5 1 b pre.length (B8 pre) ∧ AS w (.slice none 0 0) wr b) (fun m _ _ => (intOf m).toNat)
  case atStart => exact ⟨[], n, rfl, hn0, hn1, rfl, World.ownsRow_nil _ _ _ _, AS.refl _ _⟩
  case round =>
    obtain ⟨pre, k, rfl, hk0, hk1, hpre, hown, has⟩ := hrel
    have hlen : pre.length + (E.leb k.toNat).length = (E.leb n.toNat).length := by
      have := congrArg List.length hpre
      simpa using this
    have hlp := E.leb_pos k.toNat
    have hsz := has.1.size
    have HP := hide hpre
    have hpl : pre.length + 1 ≤ 140737488355328 := by omega
    by_cases hk : 127 < k
    · have HB := hide (E.leb_big k.toNat (by omega))
      clear hpre hlen h10 hlp
      go_wp2_with (at_builtin; refine wpList_append_to rfl _ _ 23 rfl w.heap.size 5 i0 (.int .u8 0) 1 1 Tryz.underlying23 hi hz0 hz1 hz2 rfl (by decide) _ _ _ rfl (hown.alloc _) (some ⟨wr.heap.size, 0, none⟩) 1 1 [.int .u8 (128 + k % 128)] rfl (by simp) rfl (Sl.news1 _ _) (one_oneCell _ _) (by unfold maxLen; omega) (by omega) (by simp; omega) ?_)
      intro v' w1 ho1 has1
      go_wp2
      go_roundw
      case rel =>
        refine ⟨pre ++ [k.toNat % 128 + 128], k / 128, rfl, by omega, by omega, ?_, ?_, has.trans (AS.pre ((Kept.refl _ wr).alloc _) has1)⟩
        · rw [← HP.out, HB.out, List.append_assoc, show (k / 128).toNat = k.toNat / 128 by omega]; rfl
        · rw [show (128 + k % 128 : Int) = ((k.toNat % 128 + 128 : Nat) : Int) by omega] at ho1
          rw [B8_append, List.length_append]; exact ho1
      case measure => simp [intOf]; omega
    · have HB := hide (E.leb_small k.toNat (by omega))
      clear hpre hlen h10 hlp
      go_wp2_with (at_builtin; refine wpList_append_to rfl _ _ 23 rfl w.heap.size 5 i0 (.int .u8 0) 1 1 Tryz.underlying23 hi hz0 hz1 hz2 rfl (by decide) _ _ _ rfl (hown.alloc _) (some ⟨wr.heap.size, 0, none⟩) 1 1 [.int .u8 k] rfl (by simp) rfl (Sl.news1 _ _) (one_oneCell _ _) (by unfold maxLen; omega) (by omega) (by simp; omega) ?_)
      intro v' w1 ho1 has1
      go_wp2
      go_ret
      refine ⟨v', rfl, ?_, (has.trans (AS.pre ((Kept.refl _ wr).alloc _) has1)).below (Nat.le_refl _) (by simp [Value.ownBlock])⟩
      rw [← HP.out, HB.out, B8_append, List.length_append, show B8 [k.toNat] = [Value.int .u8 k] by simp [B8]; omega]
      exact ho1
end Go.Proofs.YtmhfpipeoojacaaGreat
/- The contract of the reference's Get. -/
namespace Go.Proofs.YtmhfpipeoojacaaGreat
set_option linter.unusedVariables false
open Go.RowKit

theorem val_drop (l : List Nat) (i : Nat) (h : i < l.length) : E.val (l.drop i) = l.getD i 0 % 128 + 128 * E.val (l.drop (i + 1)) := by
  rw [List.drop_eq_getElem_cons h]
  simp [E.val, List.getD, h]
theorem val_drop_le (l : List Nat) (i : Nat) : E.val (l.drop i) ≤ E.val l := by
  have h := E.val_append (l.take i) (l.drop i)
  rw [List.take_append_drop] at h
  rw [h]
  have : E.val (l.drop i) ≤ 128 ^ (l.take i).length * E.val (l.drop i) := Nat.le_mul_of_pos_left _ (Nat.pow_pos (by omega))
  omega

set_option maxHeartbeats 400000 in
theorem rget_zero (ao : Option Addr) (cap : Nat) (w : World) :
    Calls Tryz.prog 34 #[.slice ao 0 cap] w fun e w' => e = .returned (.tuple #[.int .u64 0, .int .i64 0, .int .i64 3]) ∧ w' = w := by
  go_enter Tryz.func34, Tryz.ntmps34
  go_wp2_with fail
  go_loop [5] (fun k => k = .int .i64 0) (fun _ => 0)
  case atStart => exact rfl
  case round =>
    subst hrel
    go_wp2
    exact bodyPost_ret (v := .tuple #[.int .u64 0, .int .i64 0, .int .i64 3]) (by simp [results, Tryz.results34, go_sem]) rfl ⟨rfl, rfl⟩

set_option maxHeartbeats 2000000 in
theorem rget_some (b off len cap : Nat) (l : List Nat) (w : World) (hl : l.length = len) (hm : len ≤ 140737488355328) (hc : ∀ i, i < len → w.cell? ⟨b, off + i, none⟩ = some (.int .u8 ((l.getD i 0 : Nat) : Int))) (h256 : ∀ x ∈ l, x < 256) :
    Calls Tryz.prog 34 #[.slice (some ⟨b, off, none⟩) len cap] w fun e w' => e = .returned (.tuple #[.int .u64 ((E.gN l : Nat) : Int), .int .i64 ((E.gK l : Nat) : Int), .int .i64 ((E.gE l : Nat) : Int)]) ∧ w' = w := by
  have H2 := hide h256
  have HL := hide hl
  clear h256 hl
  go_enter Tryz.func34, Tryz.ntmps34
  go_wp2_with fail
  go_loop [5] (fun k => ∃ j : Nat, j ≤ 9 ∧ j ≤ len ∧ k = .int .i64 j ∧ (∀ t, t < j → 128 ≤ l.getD t 0)) (fun k => len - (intOf k).toNat)
  case atStart => exact ⟨0, by omega, Nat.zero_le _, rfl, fun t ht => by omega⟩
  case round =>
    obtain ⟨j, hj9, hjl, rfl, hlead⟩ := hrel
    have HLe := hide hlead
    clear hlead
    by_cases hlt : j < len
    · have hck := hc j hlt
      have hcl := E.getD_lt H2.out j
      obtain ⟨c, hce⟩ : ∃ c : Int, ((l.getD j 0 : Nat) : Int) = c := ⟨_, rfl⟩
      have hc0 : 0 ≤ c := by omega
      have hc1 : c < 256 := by omega
      rw [hce] at hck
      have HC := hide hce
      have HJL : Hid (j < l.length) := by have := HL.out; show _ < _; omega
      have HCC := hide hc
      have HI : Hid (c < 128 ∨ j = 9 → E.IsLead 9 l j) := fun h => ⟨hj9, Nat.le_of_lt HJL.out, HLe.out, h.elim (fun h => .inr (.inr (by have := HC.out; omega))) .inl⟩
      have hne : ((j : Int) == (len : Int)) = false := by simp; omega
      clear hc hce hcl
      by_cases hgo : j < 9 ∧ 128 ≤ c
      · obtain ⟨g1, g2⟩ := hgo
        have bz : (c == 0) = false := by simp; omega
        go_wp2
        all_goals
          go_round
          case rel =>
            refine ⟨j + 1, by omega, by omega, by go_num, fun t ht => ?_⟩
            rcases Nat.lt_or_ge t j with h | h
            · exact HLe.out t h
            · obtain rfl : t = j := by omega
              have := HC.out; omega
          case measure => simp [intOf]; omega
      · have HF : Hid ((j = 9 ∧ 1 < c) ∨ (0 < j ∧ c = 0) → E.gE l = 4) := fun h => E.gE_form (HI.out (by omega)) HJL.out (by have := HC.out; omega)
        have HO : Hid ((j = 9 → c ≤ 1) → (0 < j → c ≠ 0) → E.gE l = 0 ∧ E.gK l = j + 1 ∧ E.gN l = E.val (l.take (j + 1))) := fun h1 h2 => E.gE_ok (HI.out (by omega)) HJL.out (fun e => by have := HC.out; have := h1 e; omega) (fun e => by have := HC.out; have := h2 e; omega)
        rcases (show (j = 9 ∧ 1 < c) ∨ (j = 9 ∧ c = 0) ∨ (j < 9 ∧ c < 128 ∧ 0 < j ∧ c = 0) ∨ (j = 9 ∧ c = 1) ∨ (j < 9 ∧ c < 128 ∧ j = 0) ∨ (j < 9 ∧ c < 128 ∧ 0 < j ∧ c ≠ 0) by omega) with h | h | h | h | h | h
        · obtain ⟨rfl, h1⟩ := h
          have hg := HF.out (.inl ⟨rfl, h1⟩)
          have HG := hide hg
          clear hg hgo
          go_wp2
          have hz := E.g_zero (l := l) (by rw [HG.out]; decide)
          exact bodyPost_ret (v := .tuple #[.int .u64 0, .int .i64 0, .int .i64 4]) (by simp [results, Tryz.results34, go_sem]) rfl ⟨by rw [HG.out, hz.1, hz.2]; rfl, rfl⟩
        · obtain ⟨rfl, rfl⟩ := h
          have hg := HF.out (.inr ⟨by omega, rfl⟩)
          have HG := hide hg
          clear hg hgo
          go_wp2
          have hz := E.g_zero (l := l) (by rw [HG.out]; decide)
          exact bodyPost_ret (v := .tuple #[.int .u64 0, .int .i64 0, .int .i64 4]) (by simp [results, Tryz.results34, go_sem]) rfl ⟨by rw [HG.out, hz.1, hz.2]; rfl, rfl⟩
        · obtain ⟨h1, h2, h3, rfl⟩ := h
          have hg := HF.out (.inr ⟨h3, rfl⟩)
          have HG := hide hg
          have b9 : ((j : Int) == 9) = false := by simp; omega
          clear hg hgo
          go_wp2
          have hz := E.g_zero (l := l) (by rw [HG.out]; decide)
          exact bodyPost_ret (v := .tuple #[.int .u64 0, .int .i64 0, .int .i64 4]) (by simp [results, Tryz.results34, go_sem]) rfl ⟨by rw [HG.out, hz.1, hz.2]; rfl, rfl⟩
        · have hck9 : w.cell? ⟨b, off + 9, none⟩ = some (.int .u8 c) := by have := hck; rwa [h.1] at this
          have h9l : (9 : Int) < (len : Int) := by omega
          have b9 : ((j : Int) == 9) = true := by simp; omega
          have b1 : decide (1 < c) = false := by simp; omega
          have bj : 0 < j := by omega
          have bz : (c == 0) = false := by simp; omega
          have bjl : decide ((j : Int) < 9) = false := by simp; omega
          have HX := hide (HO.out (by omega) (by omega))
          clear hgo h
          go_wp2_with fail
          go_loop [6, 7] (fun n i => ∃ (x N : Int), i = .int .i64 x ∧ n = .int .u64 N ∧ -1 ≤ x ∧ x ≤ (j : Int) ∧ 0 ≤ N ∧ Hid (N = ((E.val ((l.take (j + 1)).drop (x + 1).toNat) : Nat) : Int))) (fun _ i => (intOf i + 1).toNat)
          case atStart => exact ⟨(j : Int), 0, rfl, rfl, by omega, by omega, by omega, hide (by rw [List.drop_of_length_le (by simp; omega)]; rfl)⟩
          case round =>
            obtain ⟨x, N, rfl, rfl, hx0, hx1, hN0, HN⟩ := hrel
            by_cases hx : 0 ≤ x
            · obtain ⟨t, rfl⟩ := Int.eq_ofNat_of_zero_le hx
              have hc2 := HCC.out t (by omega)
              have hcl2 := E.getD_lt H2.out t
              have hv := val_drop (l.take (j + 1)) t (by have := HJL.out; simp; omega)
              rw [E.getD_take _ _ _ (by omega)] at hv
              have hv2 := val_drop_le (l.take (j + 1)) t
              have hlim := E.gN_lt H2.out
              rw [HX.out.2.2] at hlim
              have hN := HN.out
              rw [show ((t : Int) + 1).toNat = t + 1 by omega] at hN
              obtain ⟨c2, hc2e⟩ : ∃ c : Int, ((l.getD t 0 : Nat) : Int) = c := ⟨_, rfl⟩
              rw [hc2e] at hc2
              have hb1 : N * 128 < 18446744073709551616 := by omega
              have hb2 : N * 128 + c2 % 128 < 18446744073709551616 := by omega
              have HV : Hid (N * 128 + c2 % 128 = ((E.val ((l.take (j + 1)).drop t) : Nat) : Int)) := by show _ = _; omega
              have hc20 : 0 ≤ c2 := by omega
              have hc21 : c2 < 256 := by omega
              clear hv hv2 hlim hN hc2e hcl2
              go_wp2
              go_round
              case rel => exact ⟨(t : Int) - 1, N * 128 + c2 % 128, rfl, rfl, by omega, by omega, by omega, hide (by rw [HV.out, show ((t : Int) - 1 + 1).toNat = t by omega])⟩
              case measure => simp [intOf]
            · have hx' : x = -1 := by omega
              subst hx'
              go_wp2
              obtain ⟨e1, e2, e3⟩ := HX.out
              have e4 : N = ((E.gN l : Nat) : Int) := by rw [HN.out, e3]; rfl
              refine bodyPost_ret (v := .tuple #[.int .u64 N, .int .i64 ((j : Int) + 1), .int .i64 0]) (by simp [results, Tryz.results34, go_sem]) rfl ⟨by rw [e1, e2, e4]; rfl, rfl⟩
        · have b9 : ((j : Int) == 9) = false := by simp; omega
          have bj : ¬ 0 < j := by omega
          have bg : decide (128 ≤ c) = false := by simp; omega
          have bjl : decide ((j : Int) < 9) = true := by simp; omega
          have HX := hide (HO.out (by omega) (by omega))
          clear hgo h
          go_wp2_with fail
          go_loop [6, 7] (fun n i => ∃ (x N : Int), i = .int .i64 x ∧ n = .int .u64 N ∧ -1 ≤ x ∧ x ≤ (j : Int) ∧ 0 ≤ N ∧ Hid (N = ((E.val ((l.take (j + 1)).drop (x + 1).toNat) : Nat) : Int))) (fun _ i => (intOf i + 1).toNat)
          case atStart => exact ⟨(j : Int), 0, rfl, rfl, by omega, by omega, by omega, hide (by rw [List.drop_of_length_le (by simp; omega)]; rfl)⟩
          case round =>
            obtain ⟨x, N, rfl, rfl, hx0, hx1, hN0, HN⟩ := hrel
            by_cases hx : 0 ≤ x
            · obtain ⟨t, rfl⟩ := Int.eq_ofNat_of_zero_le hx
              have hc2 := HCC.out t (by omega)
              have hcl2 := E.getD_lt H2.out t
              have hv := val_drop (l.take (j + 1)) t (by have := HJL.out; simp; omega)
              rw [E.getD_take _ _ _ (by omega)] at hv
              have hv2 := val_drop_le (l.take (j + 1)) t
              have hlim := E.gN_lt H2.out
              rw [HX.out.2.2] at hlim
              have hN := HN.out
              rw [show ((t : Int) + 1).toNat = t + 1 by omega] at hN
              obtain ⟨c2, hc2e⟩ : ∃ c : Int, ((l.getD t 0 : Nat) : Int) = c := ⟨_, rfl⟩
              rw [hc2e] at hc2
              have hb1 : N * 128 < 18446744073709551616 := by omega
              have hb2 : N * 128 + c2 % 128 < 18446744073709551616 := by omega
              have HV : Hid (N * 128 + c2 % 128 = ((E.val ((l.take (j + 1)).drop t) : Nat) : Int)) := by show _ = _; omega
              have hc20 : 0 ≤ c2 := by omega
              have hc21 : c2 < 256 := by omega
              clear hv hv2 hlim hN hc2e hcl2
              go_wp2
              go_round
              case rel => exact ⟨(t : Int) - 1, N * 128 + c2 % 128, rfl, rfl, by omega, by omega, by omega, hide (by rw [HV.out, show ((t : Int) - 1 + 1).toNat = t by omega])⟩
              case measure => simp [intOf]
            · have hx' : x = -1 := by omega
              subst hx'
              go_wp2
              obtain ⟨e1, e2, e3⟩ := HX.out
              have e4 : N = ((E.gN l : Nat) : Int) := by rw [HN.out, e3]; rfl
              refine bodyPost_ret (v := .tuple #[.int .u64 N, .int .i64 ((j : Int) + 1), .int .i64 0]) (by simp [results, Tryz.results34, go_sem]) rfl ⟨by rw [e1, e2, e4]; rfl, rfl⟩
        · have b9 : ((j : Int) == 9) = false := by simp; omega
          have bj : 0 < j := by omega
          have bg : decide (128 ≤ c) = false := by simp; omega
          have bz : (c == 0) = false := by simp; omega
          have bjl : decide ((j : Int) < 9) = true := by simp; omega
          have HX := hide (HO.out (by omega) (by omega))
          clear hgo h
          go_wp2_with fail
          go_loop [6, 7] (fun n i => ∃ (x N : Int), i = .int .i64 x ∧ n = .int .u64 N ∧ -1 ≤ x ∧ x ≤ (j : Int) ∧ 0 ≤ N ∧ Hid (N = ((E.val ((l.take (j + 1)).drop (x + 1).toNat) : Nat) : Int))) (fun _ i => (intOf i + 1).toNat)
          case atStart => exact ⟨(j : Int), 0, rfl, rfl, by omega, by omega, by omega, hide (by rw [List.drop_of_length_le (by simp; omega)]; rfl)⟩
          case round =>
            obtain ⟨x, N, rfl, rfl, hx0, hx1, hN0, HN⟩ := hrel
            by_cases hx : 0 ≤ x
            · obtain ⟨t, rfl⟩ := Int.eq_ofNat_of_zero_le hx
              have hc2 := HCC.out t (by omega)
              have hcl2 := E.getD_lt H2.out t
              have hv := val_drop (l.take (j + 1)) t (by have := HJL.out; simp; omega)
              rw [E.getD_take _ _ _ (by omega)] at hv
              have hv2 := val_drop_le (l.take (j + 1)) t
              have hlim := E.gN_lt H2.out
              rw [HX.out.2.2] at hlim
              have hN := HN.out
              rw [show ((t : Int) + 1).toNat = t + 1 by omega] at hN
              obtain ⟨c2, hc2e⟩ : ∃ c : Int, ((l.getD t 0 : Nat) : Int) = c := ⟨_, rfl⟩
              rw [hc2e] at hc2
              have hb1 : N * 128 < 18446744073709551616 := by omega
              have hb2 : N * 128 + c2 % 128 < 18446744073709551616 := by omega
              have HV : Hid (N * 128 + c2 % 128 = ((E.val ((l.take (j + 1)).drop t) : Nat) : Int)) := by show _ = _; omega
              have hc20 : 0 ≤ c2 := by omega
              have hc21 : c2 < 256 := by omega
              clear hv hv2 hlim hN hc2e hcl2
              go_wp2
              go_round
              case rel => exact ⟨(t : Int) - 1, N * 128 + c2 % 128, rfl, rfl, by omega, by omega, by omega, hide (by rw [HV.out, show ((t : Int) - 1 + 1).toNat = t by omega])⟩
              case measure => simp [intOf]
            · have hx' : x = -1 := by omega
              subst hx'
              go_wp2
              obtain ⟨e1, e2, e3⟩ := HX.out
              have e4 : N = ((E.gN l : Nat) : Int) := by rw [HN.out, e3]; rfl
              refine bodyPost_ret (v := .tuple #[.int .u64 N, .int .i64 ((j : Int) + 1), .int .i64 0]) (by simp [results, Tryz.results34, go_sem]) rfl ⟨by rw [e1, e2, e4]; rfl, rfl⟩
    · have HI : Hid (E.IsLead 9 l j) := ⟨hj9, by have := HL.out; omega, HLe.out, .inr (.inl (by have := HL.out; omega))⟩
      have hje : j = len := by omega
      subst hje
      clear hc
      go_wp2
      have hg := E.gE_short HI.out (by have := HL.out; omega)
      have hz := E.g_zero (l := l) (by rw [hg]; decide)
      exact bodyPost_ret (v := .tuple #[.int .u64 0, .int .i64 0, .int .i64 3]) (by simp [results, Tryz.results34, go_sem]) rfl ⟨by rw [hg, hz.1, hz.2]; rfl, rfl⟩

/-- The reference's Get. -/
theorem rget_any (ao : Option Addr) (len cap : Nat) (l : List Nat) (w : World) (h : Sl w .u8 ao len cap (ints l)) (h256 : ∀ x ∈ l, x < 256) (hm : len ≤ 140737488355328) :
    Calls Tryz.prog 34 #[.slice ao len cap] w fun e w' => e = .returned (.tuple #[.int .u64 ((E.gN l : Nat) : Int), .int .i64 ((E.gK l : Nat) : Int), .int .i64 ((E.gE l : Nat) : Int)]) ∧ w' = w := by
  obtain ⟨h1, h2, h3, h4, h5⟩ := h
  rw [ints_length] at h1
  by_cases h0 : len = 0
  · subst h0
    obtain rfl : l = [] := List.eq_nil_of_length_eq_zero h1
    exact rget_zero ao cap w
  · rcases h5 with h5 | ⟨b, off, rfl, hlt, h5⟩
    · omega
    · exact rget_some b off len cap l w h1 hm (fun i hi => by rw [h5 i hi, ints_getD]) h256
end Go.Proofs.YtmhfpipeoojacaaGreat
/- The contracts of the reference's Ints, Text, ToInts. -/
namespace Go.Proofs.YtmhfpipeoojacaaGreat
set_option linter.unusedVariables false
open Go.RowKit

/-- A slice's part. -/
theorem Sl.part {w : World} {k : IntKind} {ao : Option Addr} {len cap : Nat} {l : List Int} (h : Sl w k ao len cap l) (i j : Nat) (hij : i ≤ j) (hj : j ≤ len) : Sl w k (if cap = i then ao else ao.map (·.add (i * 1))) (j - i) (cap - i) ((l.take j).drop i) := by
  obtain ⟨h1, h2, h3, h4, h5⟩ := h
  refine ⟨by rw [List.length_drop, List.length_take, h1, Nat.min_eq_left hj], by omega, by omega, fun e => ?_, ?_⟩
  · by_cases hc : cap = i
    · omega
    · rw [if_neg hc] at e
      cases ao with
      | none => have := h4 rfl; omega
      | some x => simp at e
  · by_cases h0 : j - i = 0
    · exact .inl h0
    · rcases h5 with h5 | ⟨b, off, rfl, hlt, h5⟩
      · omega
      · rw [if_neg (by omega)]
        refine .inr ⟨b, off + i, by simp [Addr.add], hlt, fun t ht => ?_⟩
        rw [Nat.add_assoc, h5 (i + t) (by omega)]
        have : i + t < j := by omega
        simp [List.getD, this]

/-- The reference's Text. -/
theorem rtext_any (s : ByteArray) (w : World) (hs : s.size + 10 ≤ 140737488355328) :
    Calls Tryz.prog 62 #[.string s] w fun e w' => ∃ v, e = .returned v ∧ w'.ownsRow w.heap.size 5 1 v (E.leb s.size ++ sb s).length (B8 (E.leb s.size ++ sb s)) ∧ Below w.heap.size w w' := by
  obtain ⟨i0, hi, hz0, hz1, hz2⟩ := info_parts Tryz.infoU8
  have hl := E.leb_ten s.size (by omega)
  go_enter Tryz.func62, Tryz.ntmps62
  go_wp2_with fail
  refine (rput_any _ w (by omega) (by omega)).mono ?_
  rintro e w1 ⟨v1, rfl, ho1, hb1⟩
  rw [Int.toNat_natCast] at ho1
  go_wp2_with (at_builtin; refine Lib.wpList_append_own_string w1 rfl _ _ 23 9 rfl w.heap.size 5 i0 Tryz.underlying23 Tryz.underlying9 hi hz0 hz1 hz2 _ _ _ rfl ho1 s rfl ?c1 ?c2 ?c3 ?_)
  case c1 => unfold maxLen; omega
  case c2 => omega
  case c3 => exact hb1.size
  intro v2 w2 ho2 hg2 _
  go_wp2
  go_ret
  refine ⟨v2, rfl, ?_, hb1.trans ?_⟩
  · rw [B8_append, List.length_append, sb_length, ← strCells_sb]; exact ho2
  · exact (((Kept.refl (fun k => w.heap.size ≤ k) w1).grown hg2 (fun k hk => .inl (owns_lt ho1 hk).1))).below hb1.size (fun k hk => hk)
end Go.Proofs.YtmhfpipeoojacaaGreat

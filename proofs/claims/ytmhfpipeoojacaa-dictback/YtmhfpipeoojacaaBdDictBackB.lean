/- The contracts of slices.Clone at bytes, of val's toInt, toText. -/
import Derived.Test.YtmhfpipeoojacaaBdN
import Derived.Lib.SliceRun
import Derived.Test.YtmhfpipeoojacaaBdK
import Derived.Test.YtmhfpipeoojacaaBdM
import Derived.Test.YtmhfpipeoojacaaBdDictBackA
import Derived.Test.YtmhfpipeoojacaaBdA
namespace Go.Proofs.Ytmhfpipeoojacaa
set_option linter.unusedVariables false
open Go.RowKit

set_option maxHeartbeats 400000 in
theorem clone_nil (w : World) : Calls Try.prog 73 #[.slice none 0 0] w fun e w' => e = .returned (.slice none 0 0) ∧ w' = w := by
  have hq := fun (w : World) (a : Option Addr) (n c : Nat) => Lib.run_eql_slice_nil (P := Try.prog) w 36 5 a n c 0 0 Try.underlying36
  go_enter Try.func73, Try.ntmps73
  go_wp2
  go_ret
  exact ⟨rfl, rfl⟩
set_option maxHeartbeats 400000 in
theorem clone_some (x : Addr) (len cap : Nat) (l : List Int) (w : World) (h : Sl w .u8 (some x) len cap l) (hb : len ≤ 140737488355328) :
    Calls Try.prog 73 #[.slice (some x) len cap] w fun e w' => ∃ v', e = .returned v' ∧ w'.ownsRow w.heap.size 5 1 v' len (l.map (Value.int .u8)) ∧ Below w.heap.size w w' := by
  obtain ⟨i0, hi, hz0, hz1, hz2⟩ := info_parts Try.infoU8
  have hq := fun (w : World) (a : Option Addr) (n c : Nat) => Lib.run_eql_slice_nil (P := Try.prog) w 36 5 a n c 0 0 Try.underlying36
  go_enter Try.func73, Try.ntmps73
  go_wp2_with (at_builtin; refine wpList_append_to rfl _ _ 36 rfl w.heap.size 5 i0 (.int .u8 0) 1 1 Try.underlying36 hi hz0 hz1 hz2 rfl (by decide) _ 0 [] rfl (World.ownsRow_lit w #[] 0 (Nat.le_refl _) (by decide) rfl) (some x) len cap (l.map (Value.int .u8)) rfl ?c0 ?c6 ?c1 ?c2 ?c3 ?c4 ?c5 ?_)
  case c0 => simp
  case c6 => simpa using h.1
  case c1 => exact (h.below ((Below.refl _ _).alloc (Nat.le_refl _) _)).news
  case c2 => intro u hu; obtain ⟨y, _, rfl⟩ := List.mem_map.1 hu; rfl
  case c3 => have := h.2.1; have := h.2.2.1; omega
  case c4 => omega
  case c5 => simp
  intro v' w1 hown has
  go_wp2
  go_ret
  refine ⟨v', rfl, by simpa using hown, ?_⟩
  have hk := Kept.below (((Kept.refl _ w).alloc _).trans' (F := fun k => w.heap.size ≤ k) has.1 (fun k hk => ?_)) (Nat.le_refl _) (fun k hk => hk)
  · exact hk
  · exact .inl (owns_lt (World.ownsRow_lit (base := w.heap.size) (e := 5) (size := 1) w #[] 0 (Nat.le_refl _) (by decide) rfl) hk).1
/-- slices.Clone at bytes. -/
theorem clone_any (ao : Option Addr) (len cap : Nat) (l : List Nat) (w : World) (h : Sl w .u8 ao len cap (ints l)) (hb : len ≤ 140737488355328) :
    Calls Try.prog 73 #[.slice ao len cap] w fun e w' => ∃ a c, e = .returned (.slice a len c) ∧ Sl w' .u8 a len c (ints l) ∧ Below w.heap.size w w' := by
  have hl : l.length = len := by rw [← h.1, ints_length]
  cases ao with
  | some x =>
    refine (clone_some x len cap (ints l) w h hb).mono ?_
    rintro e w' ⟨v, rfl, ho, hb1⟩
    subst hl
    rw [← B8_ints] at ho
    obtain ⟨a, c, rfl, hs, _⟩ := Sl.of_bytes ho
    exact ⟨a, c, rfl, hs, hb1⟩
  | none =>
    obtain ⟨h1, h2, h3, h4, h5⟩ := h
    obtain rfl := h4 rfl
    obtain rfl : len = 0 := by omega
    obtain rfl : l = [] := List.eq_nil_of_length_eq_zero hl
    refine (clone_nil w).mono ?_
    rintro e w' ⟨rfl, rfl⟩
    exact ⟨_, _, rfl, Sl.nil _ _, Below.refl _ _⟩

/-- A value written anew. -/
def putV (w : World) (b : Nat) (k i : Int) (s : ByteArray) : World := ((w.setCell ⟨b, 0, none⟩ (.int .i64 k)).setCell ⟨b, 1, none⟩ (.int .i64 i)).setCell ⟨b, 2, none⟩ (.string s)
theorem At.set {w : World} {b : Nat} {k i : Int} {s : ByteArray} (h : At w b k i s) (k' i' : Int) (s' : ByteArray) : At (putV w b k' i' s') b k' i' s' := by
  unfold At putV at *
  simp only [World.setCell, Array.getElem?_modify, h]; simp
theorem putV_kept (w : World) (b : Nat) (k i : Int) (s : ByteArray) : Kept (fun x => x = b) w (putV w b k i s) :=
  Kept.setCell (F := fun x => x = b) (p := ⟨b, 2, none⟩) (Kept.setCell (F := fun x => x = b) (p := ⟨b, 1, none⟩) (Kept.setCell (F := fun x => x = b) (p := ⟨b, 0, none⟩) (Kept.refl _ w) (.inl rfl) _) (.inl rfl) _) (.inl rfl) _
theorem putV_below {w w1 : World} {b : Nat} (k i : Int) (s : ByteArray) (h : Below w.heap.size w w1) (hb : w.heap.size ≤ b) : Below w.heap.size w (putV w1 b k i s) :=
  ((h.setCell (p := ⟨b, 0, none⟩) hb _).setCell (p := ⟨b, 1, none⟩) hb _).setCell (p := ⟨b, 2, none⟩) hb _
/-- Bytes do not lie in a value. -/
theorem Sl.putV {w : World} {a : Option Addr} {n c : Nat} {l : List Int} (h : Sl w .u8 a n c l) {b : Nat} {k i : Int} {s : ByteArray} (hA : At w b k i s) (k' i' : Int) (s' : ByteArray) : Sl (putV w b k' i' s') .u8 a n c l := by
  refine h.kept0 (putV_kept w b k' i' s') ?_
  by_cases h0 : n = 0
  · exact .inl h0
  · refine .inr fun x hx hB => ?_
    rcases h.2.2.2.2 with h5 | ⟨B, off, hao, hlt, h5⟩
    · exact h0 h5
    · rw [hao] at hx
      obtain rfl := Option.some.inj hx
      have h6 := h5 0 (by omega)
      have hB' : B = b := hB
      subst hB'
      unfold At at hA
      simp only [World.cell?, hA, Nat.add_zero] at h6
      match off, h6 with
      | 0, h6 => simp at h6
      | 1, h6 => simp at h6
      | 2, h6 => simp at h6
      | n + 3, h6 => simp at h6
/-- A value, and two more, told. -/
theorem results_val {fn : Func} {p u v : Tmp} (h : fn.results = #[.cell p 24, .tmp u, .tmp v]) (tmps : Array Value) (w : World) (g : Nat) {k i : Int} {s : ByteArray} (hp : tmps.getD p undef = .pointer (some ⟨g, 0, none⟩)) (hA : At w g k i s) :
    (results fn tmps).run Try.prog w = .ok (.tuple #[.agg #[.int .i64 k, .int .i64 i, .string s], tmps.getD u undef, tmps.getD v undef]) w := by
  have hp' : tmps[p]?.getD undef = .pointer (some ⟨g, 0, none⟩) := by simpa using hp
  unfold At at hA
  simp [results, h, hp', asAddr, run_loadVar_row w g 24 24 _ (0, 0) _ hA Try.underlying24 rfl (by kernel_rfl)]

/-- What Of answers. -/
def OfAns (l : List Nat) (kind : Int) (w : World) (e : Ending) (w' : World) : Prop := ∃ a c, e = .returned (.tuple #[(Z.oV l kind).v, .slice a (Z.oR l kind).length c, .int .i64 ((Z.oE l kind : Nat) : Int)]) ∧ Sl w' .u8 a (Z.oR l kind).length c (ints (Z.oR l kind)) ∧ Below w.heap.size w w'
theorem OfAns.no {l : List Nat} {kind : Int} {w w' : World} {E : Nat} (h : Z.oE l kind = E) (h0 : E ≠ 0) (hb : Below w.heap.size w w') : OfAns l kind w (.returned (.tuple #[.agg #[.int .i64 0, .int .i64 0, .string ⟨#[]⟩], .slice none 0 0, .int .i64 ((E : Nat) : Int)])) w' := by
  subst h
  have e1 : Z.oV l kind = ⟨0, 0, ⟨#[]⟩⟩ := by unfold Z.oV; rw [if_neg h0]
  have e2 : Z.oR l kind = [] := by unfold Z.oR; rw [if_neg h0]
  unfold OfAns; rw [e1, e2]
  exact ⟨none, 0, rfl, Sl.nil _ _, hb⟩
theorem OfAns.yes {l r : List Nat} {kind k i : Int} {s : ByteArray} {w w' : World} {a : Option Addr} {n c : Nat} (h : Z.oE l kind = 0) (hw : Z.oW l kind = ⟨k, i, s⟩) (hr : Z.oS l kind = r) (hn : r.length = n) (hs : Sl w' .u8 a n c (ints r)) (hb : Below w.heap.size w w') : OfAns l kind w (.returned (.tuple #[.agg #[.int .i64 k, .int .i64 i, .string s], .slice a n c, .int .i64 0])) w' := by
  have e1 : Z.oV l kind = ⟨k, i, s⟩ := by unfold Z.oV; rw [if_pos h]; exact hw
  have e2 : Z.oR l kind = r := by unfold Z.oR; rw [if_pos h]; exact hr
  subst hn
  unfold OfAns; rw [e1, e2, h]
  exact ⟨a, c, rfl, hs, hb⟩
theorem oE_int (l : List Nat) : Z.oE l 1 = E.gE l := by unfold Z.oE; rw [if_neg (by decide), if_pos rfl]
theorem oE_text (l : List Nat) : Z.oE l 3 = E.xE 1024 l := by unfold Z.oE; rw [if_neg (by decide), if_neg (by decide), if_neg (by decide), if_pos rfl]
theorem iE_one (l : List Nat) : E.iE 1 l = E.gE l := by
  rw [E.iE_pos (by omega)]
  show E.tE 1 l = _
  unfold E.tE
  split
  · rename_i h; rw [h]; rfl
  · rfl
theorem iL_one {l : List Nat} (h : E.gE l = 0) : E.iL 1 l = [E.zag (E.gN l)] := by
  unfold E.iL; rw [if_pos (by rw [iE_one, h])]; rfl
theorem iR_one {l : List Nat} (h : E.gE l = 0) : E.iR 1 l = l.drop (E.gK l) := by
  unfold E.iR; rw [if_pos (by rw [iE_one, h])]; rfl
theorem oW_int (l : List Nat) : Z.oW l 1 = ⟨1, E.zag (E.gN l), ⟨#[]⟩⟩ := by unfold Z.oW; rw [if_pos rfl]
theorem oS_int (l : List Nat) : Z.oS l 1 = l.drop (E.gK l) := by unfold Z.oS; rw [if_pos rfl]
theorem oW_text (l : List Nat) : Z.oW l 3 = ⟨3, 0, strOfNums (ints (E.xS l))⟩ := by unfold Z.oW; rw [if_neg (by decide), if_neg (by decide), if_pos rfl]
theorem oS_text (l : List Nat) : Z.oS l 3 = E.xR l := by unfold Z.oS; rw [if_neg (by decide), if_neg (by decide), if_pos rfl]
theorem vtoint_any (ao : Option Addr) (len cap : Nat) (l : List Nat) (w : World) (h : Sl w .u8 ao len cap (ints l)) (h256 : ∀ x ∈ l, x < 256) (hm : len ≤ 140737488355328) :
    Calls Try.prog 100 #[.slice ao len cap] w (OfAns l 1 w) := by
  have hA := At.new w 0 0 ⟨#[]⟩
  have b0 := hide (below_one w (.cells #[.int .i64 0, .int .i64 0, .string ⟨#[]⟩] 24))
  have HT := hide (toints_anyN ao len cap l 1 _ (h.below b0.out) h256 ⟨hm, .inr (by omega)⟩ (by omega) (by omega))
  clear h
  by_cases hg : E.gE l = 0
  · have HL := hide (iL_one hg)
    have HR := hide (iR_one hg)
    have HE := hide ((iE_one l).trans hg)
    have HO := hide ((oE_int l).trans hg)
    clear hg
    go_enter Try.func100, Try.ntmps100
    go_wp2_with fail
    refine HT.out.mono ?_
    rintro e w1 ⟨v1, v2, rfl, ⟨⟨q1, c1, rfl, hs1, _⟩, q2, c2, rfl, hs2⟩, hb⟩
    rw [HE.out, HL.out, HR.out]
    rw [HL.out] at hs1
    rw [HR.out] at hs2
    rcases hs1.2.2.2.2 with h5 | ⟨B, off, rfl, hlt, h5⟩
    · simp at h5
    have hc := h5 0 (by simp)
    simp only [List.getD_cons_zero, Nat.add_zero] at hc
    replace hA := hA.below hb
    replace b0 := hide (bthen b0.out hb)
    replace hs2 := hide hs2
    obtain ⟨x, hx⟩ : ∃ x, E.zag (E.gN l) = x := ⟨_, rfl⟩
    obtain ⟨n2, hn2⟩ : ∃ n2, (l.drop (E.gK l)).length = n2 := ⟨_, rfl⟩
    rw [hx] at hc
    rw [hn2]
    rw [hn2] at hs2
    have HX := hide hx
    have HN2 := hide hn2
    clear hb h5 hs1 hlt hx hn2 HT h256 HL HR HE
    obtain ⟨a1, a2, a3⟩ := hA.cells
    obtain ⟨f1, f2, f3⟩ := hA.thawed
    replace hA := hide hA
    go_wp2
    refine bodyPost_ret (results_val Try.results100 _ _ w.heap.size rfl (hA.out.set 1 x ⟨#[]⟩)) rfl ?_
    exact OfAns.yes HO.out (by rw [oW_int, HX.out]) (oS_int l) HN2.out (hs2.out.putV hA.out 1 x ⟨#[]⟩) (putV_below 1 x ⟨#[]⟩ b0.out (Nat.le_refl _))
  · have HE := hide (iE_one l)
    have HO := hide (oE_int l)
    obtain ⟨G, hG⟩ : ∃ G : Nat, E.gE l = G := ⟨_, rfl⟩
    rw [hG] at hg HE HO
    clear hG
    have hg2 : ((G : Nat) : Int) ≠ 0 := by omega
    obtain ⟨e, he⟩ : ∃ e : Int, ((G : Nat) : Int) = e := ⟨_, rfl⟩
    have hg3 : e ≠ 0 := by omega
    have HEE := hide he
    go_enter Try.func100, Try.ntmps100
    go_wp2_with fail
    refine HT.out.mono ?_
    rintro e' w1 ⟨v1, v2, rfl, ⟨⟨q1, c1, rfl, _, _⟩, q2, c2, rfl, _⟩, hb⟩
    rw [HE.out, HEE.out]
    replace hA := hA.below hb
    replace b0 := hide (bthen b0.out hb)
    generalize (E.iL 1 l).length = n1
    generalize (E.iR 1 l).length = n2
    clear hb HT h256 HE he hg2
    obtain ⟨a1, a2, a3⟩ := hA.cells
    obtain ⟨f1, f2, f3⟩ := hA.thawed
    replace hA := hide hA
    go_wp2
    refine bodyPost_ret (results_val Try.results100 _ _ w.heap.size rfl (hA.out.set 0 0 ⟨#[]⟩)) rfl ?_
    have := OfAns.no HO.out hg (putV_below 0 0 ⟨#[]⟩ b0.out (Nat.le_refl _))
    rw [HEE.out] at this
    exact this
end Go.Proofs.Ytmhfpipeoojacaa
/- The contracts of the reference's Zig, Zag, Put. -/
namespace Go.Proofs.Ytmhfpipeoojacaa
set_option linter.unusedVariables false
open Go.RowKit

theorem rzig_neg (n : Int) (h0 : -9223372036854775808 ≤ n) (h : n < 0) : 2 * -(n + 1) + 1 = ((E.zig n : Nat) : Int) := by
  unfold E.zig; rw [if_pos h]; omega
theorem rzig_pos (n : Int) (h : 0 ≤ n) : 2 * n = ((E.zig n : Nat) : Int) := by
  unfold E.zig; rw [if_neg (by omega)]; omega

end Go.Proofs.Ytmhfpipeoojacaa
/- The contract of the reference's Get. -/
namespace Go.Proofs.Ytmhfpipeoojacaa
set_option linter.unusedVariables false
open Go.RowKit

theorem val_drop (l : List Nat) (i : Nat) (h : i < l.length) : E.val (l.drop i) = l.getD i 0 % 128 + 128 * E.val (l.drop (i + 1)) := by
  rw [List.drop_eq_getElem_cons h]
  simp [E.val, List.getD, h]
theorem val_drop_le (l : List Nat) (i : Nat) : E.val (l.drop i) ≤ E.val l := by
  have h := E.val_append (l.take i) (l.drop i)
  rw [List.take_append_drop] at h
  rw [h]
  have : E.val (l.drop i) ≤ 128 ^ (l.take i).length * E.val (l.drop i) := Nat.le_mul_of_pos_left _ (Nat.pow_pos (by omega))
  omega

end Go.Proofs.Ytmhfpipeoojacaa
/- The contracts of the reference's Ints, Text, ToInts. -/
namespace Go.Proofs.Ytmhfpipeoojacaa
set_option linter.unusedVariables false
open Go.RowKit

/-- A slice's part. -/
theorem Sl.part {w : World} {k : IntKind} {ao : Option Addr} {len cap : Nat} {l : List Int} (h : Sl w k ao len cap l) (i j : Nat) (hij : i ≤ j) (hj : j ≤ len) : Sl w k (if cap = i then ao else ao.map (·.add (i * 1))) (j - i) (cap - i) ((l.take j).drop i) := by
  obtain ⟨h1, h2, h3, h4, h5⟩ := h
  refine ⟨by rw [List.length_drop, List.length_take, h1, Nat.min_eq_left hj], by omega, by omega, fun e => ?_, ?_⟩
  · by_cases hc : cap = i
    · omega
    · rw [if_neg hc] at e
      cases ao with
      | none => have := h4 rfl; omega
      | some x => simp at e
  · by_cases h0 : j - i = 0
    · exact .inl h0
    · rcases h5 with h5 | ⟨b, off, rfl, hlt, h5⟩
      · omega
      · rw [if_neg (by omega)]
        refine .inr ⟨b, off + i, by simp [Addr.add], hlt, fun t ht => ?_⟩
        rw [Nat.add_assoc, h5 (i + t) (by omega)]
        have : i + t < j := by omega
        simp [List.getD, this]

end Go.Proofs.Ytmhfpipeoojacaa
/- The contract of the reference's Bytes. -/
namespace Go.Proofs.Ytmhfpipeoojacaa
set_option linter.unusedVariables false
open Go.RowKit

/-- What the reference's Bytes answers: bytes in new memory. -/
def BytesNew (x : Z.V) (w : World) (e : Ending) (w' : World) : Prop := ∃ a c, e = .returned (.tuple #[.slice a (Z.bl x).length c, .int .i64 (Z.be x)]) ∧ Sl w' .u8 a (Z.bl x).length c (ints (Z.bl x)) ∧ Below w.heap.size w w' ∧ ∀ y, a = some y → w.heap.size ≤ y.block
theorem BytesNew.no {x : Z.V} {w w' : World} (h : Z.may x = false) (hb : Below w.heap.size w w') : BytesNew x w (.returned (.tuple #[.slice none 0 0, .int .i64 1])) w' := by
  have e1 : Z.bl x = [] := by unfold Z.bl; rw [h]; rfl
  have e2 : Z.be x = 1 := by unfold Z.be; rw [h]; rfl
  unfold BytesNew; rw [e1, e2]
  exact ⟨none, 0, rfl, Sl.nil _ _, hb, by simp⟩
theorem BytesNew.yes {x : Z.V} {w w' : World} {l : List Nat} {a : Option Addr} {len c : Nat} (h : Z.may x = true) (hl : Z.lb x = l) (hn : l.length = len) (hs : Sl w' .u8 a len c (ints l)) (hb : Below w.heap.size w w') (hf : ∀ y, a = some y → w.heap.size ≤ y.block) : BytesNew x w (.returned (.tuple #[.slice a len c, .int .i64 0])) w' := by
  have e1 : Z.bl x = l := by unfold Z.bl; rw [h]; exact hl
  have e2 : Z.be x = 0 := by unfold Z.be; rw [h]; rfl
  subst hn
  unfold BytesNew; rw [e1, e2]
  exact ⟨a, c, rfl, hs, hb, hf⟩
/-- A row of one's own lies where it may. -/
theorem own_new {w : World} {B C : Nat} {e : TypeId} {size n : Nat} {v : Value} {xs : List Value} {a : Option Addr} (h : w.ownsRow B e size v n xs) (ha : v.ownBlock = a.map (·.block)) (hC : C ≤ B) : ∀ y, a = some y → C ≤ y.block := fun y hy => by
  have := (owns_lt h (k := y.block) (by rw [ha, hy]; rfl)).1
  omega

end Go.Proofs.Ytmhfpipeoojacaa
/- Bytes appended to bytes of one's own, as a law at the operation. -/
namespace Go.Proofs.Ytmhfpipeoojacaa
set_option linter.unusedVariables false
open Go.RowKit

theorem wpList_app {w : World} {ops : Array Oper} {rest : List Oper} {o : Oper} {a : Act} {Q : Exit → Act → World → Prop} (hgd : o.guard = none) (s x : Operand)
    (ho : o.op = .call { callee := .builtin .append, args := #[s, x], argTypes := #[36, 36] })
    (base : Nat) (v : Value) (l : List Nat) (hs : a.eval s = v) (hown : w.ownsRow base 5 1 v l.length (B8 l))
    (ao : Option Addr) (m c : Nat) (news : List Nat) (hx : a.eval x = .slice ao m c) (hsl : Sl w .u8 ao m c (ints news)) (hlim : l.length + m ≤ 140737488355328) (hbase : base ≤ w.heap.size) (r : List Nat) (hr : l ++ news = r)
    (h : ∀ v' w', w'.ownsRow base 5 1 v' r.length (B8 r) → AS w v w' v' → wpList Try.prog ops Q rest (a.put o.dst v') w') : wpList Try.prog ops Q (o :: rest) a w := by
  obtain ⟨i0, hi, hz0, hz1, hz2⟩ := info_parts Try.infoU8
  have hm : news.length = m := by rw [← hsl.1, ints_length]
  refine wpList_append_to hgd s x 36 ho base 5 i0 (.int .u8 0) 1 1 Try.underlying36 hi hz0 hz1 hz2 rfl (by decide) v l.length (B8 l) hs hown ao m c ((ints news).map (Value.int .u8)) hx ?_ (by simp [ints_length, hm]) hsl.news ?_ (by unfold maxLen; omega) (by omega) hbase ?_
  · intro e
    have h4 := hsl.2.2.2.1 e
    have h2 := hsl.2.1
    exact ⟨by omega, h4⟩
  · intro u hu
    obtain ⟨y, _, rfl⟩ := List.mem_map.1 hu
    rfl
  · intro v' w' ho' has'
    refine h v' w' ?_ has'
    rw [← hr, List.length_append, hm, B8_append, B8_ints news]
    exact ho'
/-- No bytes, in new memory. -/
theorem owns_none (w : World) : (w.alloc (.cells #[] 5)).ownsRow w.heap.size 5 1 (.slice (some ⟨w.heap.size, 0, none⟩) 0 0) ([] : List Nat).length (B8 []) :=
  World.ownsRow_lit w #[] 0 (Nat.le_refl _) (by decide) (by simp)
/-- A row of one's own, as bytes that can be read; its length under a name. -/
theorem Sl.of_own {w : World} {B : Nat} {v : Value} {l : List Nat} (h : w.ownsRow B 5 1 v l.length (B8 l)) {k : Nat} (hk : l.length = k) : ∃ a c, v = .slice a k c ∧ Sl w .u8 a k c (ints l) := by
  subst hk
  obtain ⟨a, c, h1, h2, _⟩ := Sl.of_bytes h
  exact ⟨a, c, h1, h2⟩
end Go.Proofs.Ytmhfpipeoojacaa
/- Bytes: a column's values laid down. -/
namespace Go.Proofs.Ytmhfpipeoojacaa
set_option linter.unusedVariables false
open Go.RowKit

/-- What Bytes tells: nothing beside an error. -/
def Z.cb (l : List Z.V) (kind : Int) : List Nat := if Z.chk l kind = 0 then Z.pb l else []
theorem cb_bad {l : List Z.V} {kind : Int} (h : Z.chk l kind ≠ 0) : Z.cb l kind = [] := by unfold Z.cb; rw [if_neg h]
theorem cb_ok {l : List Z.V} {kind : Int} (h : Z.chk l kind = 0) : Z.cb l kind = Z.pb l := by unfold Z.cb; rw [if_pos h]
theorem bl_may {x : Z.V} (h : Z.may x = true) : Z.bl x = Z.lb x := by unfold Z.bl; rw [h]; rfl
theorem pb_take {l : List Z.V} {j : Nat} {x : Z.V} (h : l[j]? = some x) : Z.pb (l.take j) ++ Z.lb x = Z.pb (l.take (j + 1)) := by rw [take_snocV h, pb_snoc]
/-- A value's bytes are few. -/
theorem lb_le {x : Z.V} (hi : Z.I64 x.i) (h : Z.may x = true) : (Z.lb x).length ≤ 1034 := by
  obtain ⟨k, i, s⟩ := x
  rcases may_kind h with rfl | rfl | rfl | rfl
  · rw [lb_else (by decide) (by decide) (by decide)]; simp
  · rw [lb_int]
    have := E.leb_ten _ (E.zig_lt i hi.1 hi.2)
    omega
  · rw [lb_float, Z.k8_length]; omega
  · have hsz := may_size h
    rw [lb_text, List.length_append, sb_length]
    have := E.leb_ten s.size (by omega)
    omega
theorem pb_le : ∀ l : List Z.V, (∀ x ∈ l, Z.I64 x.i) → (∀ x ∈ l, Z.may x = true) → (Z.pb l).length ≤ 1034 * l.length
  | [], _, _ => by simp [Z.pb]
  | x :: l, h1, h2 => by
    have a1 := lb_le (h1 x (by simp)) (h2 x (by simp))
    have a2 := pb_le l (fun y hy => h1 y (by simp [hy])) (fun y hy => h2 y (by simp [hy]))
    rw [pb_cons, List.length_append, List.length_cons]
    omega
theorem pb_take_le {l : List Z.V} (h1 : ∀ x ∈ l, Z.I64 x.i) (h2 : ∀ x ∈ l, Z.may x = true) (j : Nat) : (Z.pb (l.take j)).length ≤ 1034 * l.length := by
  have := pb_le (l.take j) (fun y hy => h1 y (List.mem_of_mem_take hy)) (fun y hy => h2 y (List.mem_of_mem_take hy))
  rw [List.length_take] at this
  omega
/-- What Bytes answers. -/
def ColBytes (l : List Z.V) (kind : Int) (w : World) (e : Ending) (w' : World) : Prop := ∃ a c, e = .returned (.tuple #[.slice a (Z.cb l kind).length c, .int .i64 (Z.chk l kind)]) ∧ Sl w' .u8 a (Z.cb l kind).length c (ints (Z.cb l kind)) ∧ Below w.heap.size w w'
theorem ColBytes.no {l : List Z.V} {kind E : Int} {w w' : World} (h : Z.chk l kind = E) (h0 : E ≠ 0) (hb : Below w.heap.size w w') : ColBytes l kind w (.returned (.tuple #[.slice none 0 0, .int .i64 E])) w' := by
  unfold ColBytes; rw [cb_bad (by rw [h]; exact h0), h]
  exact ⟨none, 0, rfl, Sl.nil _ _, hb⟩
theorem ColBytes.yes {l : List Z.V} {kind : Int} {w w' : World} {B : Nat} {v : Value} (h : Z.chk l kind = 0) (ho : w'.ownsRow B 5 1 v (Z.pb l).length (B8 (Z.pb l))) (hb : Below w.heap.size w w') : ColBytes l kind w (.returned (.tuple #[v, .int .i64 0])) w' := by
  obtain ⟨a, c, rfl, hs, _⟩ := Sl.of_bytes ho
  unfold ColBytes; rw [cb_ok h, h]
  exact ⟨a, c, rfl, hs, hb⟩

set_option maxHeartbeats 1000000 in
theorem pbytes_some (b off len cap : Nat) (l : List Z.V) (kind : Int) (w : World) (h : SlV w (some ⟨b, off, none⟩) len cap l) (hI : ∀ x ∈ l, Z.I64 x.i) (h0 : Z.chk l kind = 0) (hlt : b < w.heap.size)
    (hc : ∀ j x, l[j]? = some x → w.cell? ⟨b, off + j * 3, none⟩ = some (.int .i64 x.k) ∧ w.cell? ⟨b, off + j * 3 + 1, none⟩ = some (.int .i64 x.i) ∧ w.cell? ⟨b, off + j * 3 + 2, none⟩ = some (.string x.s)) :
    Calls Try.prog 26 #[.slice (some ⟨b, off, none⟩) len cap, .int .i64 kind] w (ColBytes l kind w) := by
  have HC := hide hc
  have HL := hide h.1
  have HI := hide hI
  have HK := hide h0
  have hm : len ≤ 4096 := by rw [← h.1]; exact (chk_zero h0).2.1
  have HM := hide (chk_zero h0).2.2.2
  have HCK := hide (check_any _ _ _ l kind w h hI)
  clear hc hI h0 h
  go_enter Try.func26, Try.ntmps26
  go_wp2_with fail
  refine HCK.out.mono ?_
  rintro e w1 ⟨rfl, hb1⟩
  rw [HK.out]
  replace hb1 := hide hb1
  clear HCK
  go_wp2_with fail
  go_loopw [7, 20] (fun v i wr => ∃ j : Nat, j ≤ len ∧ i = .int .i64 j ∧ Hid (wr.ownsRow w.heap.size 5 1 v (Z.pb (l.take j)).length (B8 (Z.pb (l.take j)))) ∧ Hid (Below w.heap.size w wr)) (fun _ i _ => len - (intOf i).toNat)
  case atStart => exact ⟨0, Nat.zero_le _, rfl, hide (World.ownsRow_nil _ _ _ _), hb1⟩
  case round =>
    obtain ⟨j, hj, rfl, hrow, hbw⟩ := hrel
    by_cases hjl : j < len
    · obtain ⟨⟨xk, xi, xs⟩, hx⟩ : ∃ x, l[j]? = some x := ⟨l[j]'(by rw [HL.out]; exact hjl), List.getElem?_eq_getElem _⟩
      obtain ⟨c1, c2, c3⟩ := HC.out j _ hx
      have d1 : wr.cell? ⟨b, off + j * 3, none⟩ = some (.int .i64 xk) := by rw [hbw.out.cell (p := ⟨b, off + j * 3, none⟩) hlt]; exact c1
      have d2 : wr.cell? ⟨b, off + j * 3 + 1, none⟩ = some (.int .i64 xi) := by rw [hbw.out.cell (p := ⟨b, off + j * 3 + 1, none⟩) hlt]; exact c2
      have d3 : wr.cell? ⟨b, off + j * 3 + 2, none⟩ = some (.string xs) := by rw [hbw.out.cell (p := ⟨b, off + j * 3 + 2, none⟩) hlt]; exact c3
      have HX := hide hx
      clear c1 c2 c3 hx
      have HXM := hide (HM.out _ (List.mem_of_getElem? HX.out))
      have HXI := hide (HI.out _ (List.mem_of_getElem? HX.out))
      have HLE := hide (pb_take_le HI.out HM.out j)
      have HLB := hide (lb_le HXI.out HXM.out)
      go_wp2_with fail
      refine (vbytes_any _ _ _ _ HXI.out).mono ?_
      rintro e w2 ⟨qa, qc, rfl, hs2, hb2⟩
      rw [bl_may HXM.out]
      rw [bl_may HXM.out] at hs2
      have hbm : Below w.heap.size w w2 := bthen (bthen hbw.out (below_one wr _)) hb2
      have hrow2 : w2.ownsRow w.heap.size 5 1 u7 (Z.pb (l.take j)).length (B8 (Z.pb (l.take j))) := owns_below (hrow.out.alloc _) hb2
      have hsz := hbm.size
      obtain ⟨m, hmm⟩ : ∃ m, (Z.lb ⟨xk, xi, xs⟩).length = m := ⟨_, rfl⟩
      rw [hmm]
      rw [hmm] at hs2
      have HMM := hide hmm
      have HBM := hide hbm
      have HS2 := hide hs2
      have HR2 := hide hrow2
      clear hmm hbm hs2 hrow2 hb2 d1 d2 d3
      go_wp2_with (at_builtin; refine wpList_app rfl _ _ rfl w.heap.size u7 (Z.pb (l.take j)) rfl HR2.out qa m qc (Z.lb ⟨xk, xi, xs⟩) rfl HS2.out ?c0 hsz (Z.pb (l.take (j + 1))) (pb_take HX.out) ?_)
      case c0 =>
        have h1 := HLE.out
        have h2 := HLB.out
        have h3 := HMM.out
        rw [HL.out] at h1
        omega
      intro v3 w3 hown has
      have hb3 : Below w.heap.size w w3 := HBM.out.trans (has.below hsz (fun k hk => (owns_lt HR2.out hk).1))
      have HB3 := hide hb3
      have HO := hide hown
      clear hb3 hown has
      go_wp2
      go_roundw
      case rel => exact ⟨j + 1, hjl, by go_num, HO, HB3⟩
      case measure => simp [intOf]; omega
    · obtain rfl : j = len := by omega
      have hll : l.take j = l := by rw [← HL.out, List.take_length]
      have HR : Hid (wr.ownsRow w.heap.size 5 1 u7 (Z.pb l).length (B8 (Z.pb l))) := by
        have := hrow.out
        rwa [hll] at this
      clear hll hrow
      go_wp2
      go_ret2
      exact ColBytes.yes HK.out HR.out hbw.out
theorem pbytes_none (ao : Option Addr) (cap : Nat) (kind : Int) (w : World) (h : SlV w ao 0 cap []) (h0 : Z.chk [] kind = 0) :
    Calls Try.prog 26 #[.slice ao 0 cap, .int .i64 kind] w (ColBytes [] kind w) := by
  have HK := hide h0
  have HCK := hide (check_any _ _ _ [] kind w h (by simp))
  clear h h0
  go_enter Try.func26, Try.ntmps26
  go_wp2_with fail
  refine HCK.out.mono ?_
  rintro e w1 ⟨rfl, hb1⟩
  rw [HK.out]
  replace hb1 := hide hb1
  clear HCK
  go_wp2_with fail
  go_rounds 1
  go_ret2
  exact ColBytes.yes (B := 0) HK.out (World.ownsRow_nil _ _ _ _) hb1.out
theorem pbytes_any (ao : Option Addr) (len cap : Nat) (l : List Z.V) (kind : Int) (w : World) (h : SlV w ao len cap l) (hI : ∀ x ∈ l, Z.I64 x.i) :
    Calls Try.prog 26 #[.slice ao len cap, .int .i64 kind] w (ColBytes l kind w) := by
  by_cases h0 : Z.chk l kind = 0
  · rcases h.2.2.2.2 with h5 | ⟨b, off, rfl, hlt, h5⟩
    · subst h5
      obtain rfl : l = [] := List.eq_nil_of_length_eq_zero h.1
      exact pbytes_none ao cap kind w h h0
    · exact pbytes_some b off len cap l kind w h hI h0 hlt h5
  · have HCK := hide (check_any _ _ _ l kind w h hI)
    obtain ⟨E, hE⟩ : ∃ E, Z.chk l kind = E := ⟨_, rfl⟩
    have HE := hide hE
    have hE0 : (E != 0) = true := by rw [← hE]; simpa using h0
    have HE0 := hide (show E ≠ 0 by rw [← hE]; exact h0)
    clear h hI hE h0
    go_enter Try.func26, Try.ntmps26
    go_wp2_with fail
    refine HCK.out.mono ?_
    rintro e w1 ⟨rfl, hb1⟩
    rw [HE.out]
    replace hb1 := hide hb1
    clear HCK
    go_wp2
    go_ret2
    exact ColBytes.no HE.out HE0.out hb1.out
end Go.Proofs.Ytmhfpipeoojacaa
/- The contracts of val's toText, toFloat. -/
namespace Go.Proofs.Ytmhfpipeoojacaa
set_option linter.unusedVariables false
open Go.RowKit

theorem vtotext_any (ao : Option Addr) (len cap : Nat) (l : List Nat) (w : World) (h : Sl w .u8 ao len cap (ints l)) (h256 : ∀ x ∈ l, x < 256) (hm : len ≤ 140737488355328) :
    Calls Try.prog 102 #[.slice ao len cap] w (OfAns l 3 w) := by
  have hA := At.new w 0 0 ⟨#[]⟩
  have b0 := hide (below_one w (.cells #[.int .i64 0, .int .i64 0, .string ⟨#[]⟩] 24))
  have HT := hide (totext_any ao len cap l 1024 _ (h.below b0.out) h256 hm (by omega) (by omega))
  clear h
  by_cases hg : E.xE 1024 l = 0
  · have HS : Hid (E.yS 1024 l = E.xS l) := by show _ = _; unfold E.yS; rw [if_pos hg]
    have HR : Hid (E.yR 1024 l = E.xR l) := by show _ = _; unfold E.yR; rw [if_pos hg]
    have HE := hide hg
    have HO := hide ((oE_text l).trans hg)
    clear hg
    go_enter Try.func102, Try.ntmps102
    go_wp2_with fail
    refine HT.out.mono ?_
    rintro e w1 ⟨v1, v2, rfl, ⟨rfl, q2, c2, rfl, hs2⟩, hb⟩
    rw [HE.out, HS.out, HR.out]
    rw [HR.out] at hs2
    replace hA := hA.below hb
    replace b0 := hide (bthen b0.out hb)
    replace hs2 := hide hs2
    obtain ⟨x, hx⟩ : ∃ x, strOfNums (ints (E.xS l)) = x := ⟨_, rfl⟩
    obtain ⟨n2, hn2⟩ : ∃ n2, (E.xR l).length = n2 := ⟨_, rfl⟩
    rw [hx, hn2]
    rw [hn2] at hs2
    have HX := hide hx
    have HN2 := hide hn2
    clear hb hx hn2 HT h256 HS HR HE
    obtain ⟨a1, a2, a3⟩ := hA.cells
    obtain ⟨f1, f2, f3⟩ := hA.thawed
    replace hA := hide hA
    go_wp2
    refine bodyPost_ret (results_val Try.results102 _ _ w.heap.size rfl (hA.out.set 3 0 x)) rfl ?_
    exact OfAns.yes HO.out (by rw [oW_text, HX.out]) (oS_text l) HN2.out (hs2.out.putV hA.out 3 0 x) (putV_below 3 0 x b0.out (Nat.le_refl _))
  · have HO := hide (oE_text l)
    obtain ⟨G, hG⟩ : ∃ G : Nat, E.xE 1024 l = G := ⟨_, rfl⟩
    rw [hG] at hg HO
    obtain ⟨e, he⟩ : ∃ e : Int, ((G : Nat) : Int) = e := ⟨_, rfl⟩
    have hg3 : e ≠ 0 := by omega
    have HEE := hide he
    have HG := hide hG
    clear hG he
    go_enter Try.func102, Try.ntmps102
    go_wp2_with fail
    refine HT.out.mono ?_
    rintro e' w1 ⟨v1, v2, rfl, ⟨rfl, q2, c2, rfl, _⟩, hb⟩
    rw [HG.out, HEE.out]
    replace hA := hA.below hb
    replace b0 := hide (bthen b0.out hb)
    generalize (E.yR 1024 l).length = n2
    generalize strOfNums (ints (E.yS 1024 l)) = x
    clear hb HT h256
    obtain ⟨a1, a2, a3⟩ := hA.cells
    obtain ⟨f1, f2, f3⟩ := hA.thawed
    replace hA := hide hA
    go_wp2
    refine bodyPost_ret (results_val Try.results102 _ _ w.heap.size rfl (hA.out.set 0 0 ⟨#[]⟩)) rfl ?_
    have := OfAns.no HO.out hg (putV_below 0 0 ⟨#[]⟩ b0.out (Nat.le_refl _))
    rw [HEE.out] at this
    exact this

theorem oE_short {l : List Nat} (h : l.length < 8) : Z.oE l 2 = 3 := by unfold Z.oE; rw [if_neg (by decide), if_neg (by decide), if_pos rfl, if_pos h]
theorem oE_form {l : List Nat} (h : 8 ≤ l.length) (hk : D.ky (D.bt ((Z.o8 l : Nat) : Int)) ≠ ((Z.o8 l : Nat) : Int)) : Z.oE l 2 = 4 := by unfold Z.oE; rw [if_neg (by decide), if_neg (by decide), if_pos rfl, if_neg (by omega), if_neg hk]
theorem oE_float {l : List Nat} (h : 8 ≤ l.length) (hk : D.ky (D.bt ((Z.o8 l : Nat) : Int)) = ((Z.o8 l : Nat) : Int)) : Z.oE l 2 = 0 := by unfold Z.oE; rw [if_neg (by decide), if_neg (by decide), if_pos rfl, if_neg (by omega), if_pos hk]
theorem oW_float (l : List Nat) : Z.oW l 2 = ⟨2, Z.sg (D.bt ((Z.o8 l : Nat) : Int)), ⟨#[]⟩⟩ := by unfold Z.oW; rw [if_neg (by decide), if_pos rfl]
theorem oS_float (l : List Nat) : Z.oS l 2 = l.drop 8 := by unfold Z.oS; rw [if_neg (by decide), if_pos rfl]

theorem vtofloat_short (ao : Option Addr) (len cap : Nat) (l : List Nat) (w : World) (hl : l.length = len) (h8 : len < 8) :
    Calls Try.prog 101 #[.slice ao len cap] w (OfAns l 2 w) := by
  have hA := At.new w 0 0 ⟨#[]⟩
  have b0 := hide (below_one w (.cells #[.int .i64 0, .int .i64 0, .string ⟨#[]⟩] 24))
  have HO : Hid (Z.oE l 2 = 3) := oE_short (by omega)
  clear hl
  obtain ⟨a1, a2, a3⟩ := hA.cells
  obtain ⟨f1, f2, f3⟩ := hA.thawed
  replace hA := hide hA
  go_enter Try.func101, Try.ntmps101
  go_wp2
  refine bodyPost_ret (results_val Try.results101 _ _ w.heap.size rfl hA.out) rfl ?_
  exact OfAns.no HO.out (by decide) b0.out
end Go.Proofs.Ytmhfpipeoojacaa

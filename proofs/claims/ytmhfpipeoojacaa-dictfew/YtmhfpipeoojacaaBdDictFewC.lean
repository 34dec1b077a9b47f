/- Steps of a region that draws its order: a value's parts in memory. -/
import Derived.Test.YtmhfpipeoojacaaBdW
import Derived.Test.YtmhfpipeoojacaaBdK
import Derived.Test.YtmhfpipeoojacaaBdN
import Derived.Test.YtmhfpipeoojacaaBdU
import Derived.Test.YtmhfpipeoojacaaBdDictFewB
import Derived.Lib.SliceRun
import Derived.Test.YtmhfpipeoojacaaBdM
namespace Go.Proofs.Ytmhfpipeoojacaa.V
set_option linter.unusedVariables false
open Go.RowKit

variable {ops : Array Oper} {Q : Exit → Act → World → Prop} {tbl : List (Nat × Ent)} {w0 : World} {o : Oper}

/-- The address of a part. -/
theorem Step.field {s B i : Nat} (hw : Wants tbl ops o) (ho : o.op = .fieldAddr 24 (.tmp s) i) (hs : get tbl s = Ent.is (.pointer (some ⟨B, 0, none⟩))) (hi : i < 3) (hd : ∀ d, o.dst = some d → get tbl d = Ent.is (.pointer (some ⟨B, i, none⟩))) : Step Try.prog ops Q tbl w0 o := by
  refine Step.value hw fun a w hb hk => ⟨.pointer (some ⟨B, i, none⟩), ?_, fun d h => by rw [hd d h]; rfl⟩
  have h1 : a.eval (.tmp s) = .pointer (some ⟨B, 0, none⟩) := by
    have := hk s (looks_op (by rw [ho]; simp [Op.operands]))
    rwa [hs] at this
  simp only [execOp, ho, h1]
  match i, hi with
  | 0, _ => simp [go_sem]
  | 1, _ => simp [go_sem]
  | 2, _ => simp [go_sem]
/-- A value as a whole. -/
theorem Step.loadV {s B : Nat} {k i : Int} {z : ByteArray} (hw : Wants tbl ops o) (ho : o.op = .load 24 (.tmp s)) (hs : get tbl s = Ent.is (.pointer (some ⟨B, 0, none⟩))) (hB : At w0 B k i z) (hd : ∀ d, o.dst = some d → get tbl d = Ent.is (.agg #[.int .i64 k, .int .i64 i, .string z])) : Step Try.prog ops Q tbl w0 o := by
  refine Step.value hw fun a w hb hk => ⟨.agg #[.int .i64 k, .int .i64 i, .string z], ?_, fun d h => by rw [hd d h]; rfl⟩
  have h1 : a.eval (.tmp s) = .pointer (some ⟨B, 0, none⟩) := by
    have := hk s (looks_op (by rw [ho]; simp [Op.operands]))
    rwa [hs] at this
  have h2 : At w B k i z := hB.below hb
  unfold At at h2
  unfold execOp
  simp only [ho, h1, Instr.loadAt, Instr.sureAddr, Sem.run_bind, Sem.run_pure, Result.andThen_ok, run_loadVar_row w B 24 24 _ (0, 0) _ h2 Try.underlying24 rfl (by kernel_rfl)]
/-- A part. -/
theorem Step.loadI {t s B j : Nat} {k : IntKind} {n : Int} (hw : Wants tbl ops o) (ho : o.op = .load t (.tmp s)) (hs : get tbl s = Ent.is (.pointer (some ⟨B, j, none⟩))) (ht : Try.prog.underlying t = some (.int k)) (hl : B < w0.heap.size) (hB : w0.cell? ⟨B, j, none⟩ = some (.int k n)) (hd : ∀ d, o.dst = some d → get tbl d = Ent.is (.int k n)) : Step Try.prog ops Q tbl w0 o := by
  refine Step.value hw fun a w hb hk => ⟨.int k n, ?_, fun d h => by rw [hd d h]; rfl⟩
  have h1 : a.eval (.tmp s) = .pointer (some ⟨B, j, none⟩) := by
    have := hk s (looks_op (by rw [ho]; simp [Op.operands]))
    rwa [hs] at this
  have h2 : w.cell? ⟨B, j, none⟩ = some (.int k n) := by rw [hb.cell (p := ⟨B, j, none⟩) hl]; exact hB
  have ha : ∀ w : World, (isAgg t).run Try.prog w = .ok false w := fun w => by unfold isAgg; rw [Sem.run_bind, run_underlying ht w]; rfl
  simp only [execOp, ho, h1]
  simp [go_sem, h2, ha]
theorem Step.loadS {t s B j : Nat} {z : ByteArray} (hw : Wants tbl ops o) (ho : o.op = .load t (.tmp s)) (hs : get tbl s = Ent.is (.pointer (some ⟨B, j, none⟩))) (ht : Try.prog.underlying t = some .string) (hl : B < w0.heap.size) (hB : w0.cell? ⟨B, j, none⟩ = some (.string z)) (hd : ∀ d, o.dst = some d → get tbl d = Ent.is (.string z)) : Step Try.prog ops Q tbl w0 o := by
  refine Step.value hw fun a w hb hk => ⟨.string z, ?_, fun d h => by rw [hd d h]; rfl⟩
  have h1 : a.eval (.tmp s) = .pointer (some ⟨B, j, none⟩) := by
    have := hk s (looks_op (by rw [ho]; simp [Op.operands]))
    rwa [hs] at this
  have h2 : w.cell? ⟨B, j, none⟩ = some (.string z) := by rw [hb.cell (p := ⟨B, j, none⟩) hl]; exact hB
  have ha : ∀ w : World, (isAgg t).run Try.prog w = .ok false w := fun w => by unfold isAgg; rw [Sem.run_bind, run_underlying ht w]; rfl
  simp only [execOp, ho, h1]
  simp [go_sem, h2, ha]
theorem At.lt {w : World} {B : Nat} {k i : Int} {z : ByteArray} (h : At w B k i z) : B < w.heap.size := lt_of_block h
theorem eql_int (t : TypeId) (k : IntKind) (x y : Int) (_ht : Try.prog.underlying t = some (.int k)) (w : World) : (binOp .eql t (.int k x) (.int k y)).run Try.prog w = .ok (.bool (x == y)) w := by
  simp [go_sem]
theorem eql_bool (x y : Bool) (w : World) : (binOp .eql 4 (.bool x) (.bool y)).run Try.prog w = .ok (.bool (x == y)) w := by
  simp [go_sem]
end Go.Proofs.Ytmhfpipeoojacaa.V
/- The contract of the reference's May. -/
namespace Go.Proofs.Ytmhfpipeoojacaa
set_option linter.unusedVariables false
open Go.RowKit

theorem may_float2 {i : Int} {s : ByteArray} (hi : Z.I64 i) : Z.may ⟨2, i, s⟩ = (s.toList.isEmpty && (D.cl (Z.u i) == Z.u i)) := by
  rw [may_float, Bool.and_comm]
  congr 1
  unfold Z.same Z.cl
  simp
  rw [Bool.eq_iff_iff, beq_iff_eq, beq_iff_eq]
  constructor
  · intro h; rw [← Z.u_sg (D.cl_in (Z.u_in i)), h]
  · intro h; rw [h, Z.sg_u hi]
theorem may_null2 {i : Int} {s : ByteArray} : Z.may ⟨0, i, s⟩ = ((i == 0) && s.toList.isEmpty) := by
  rw [empty_of]; unfold Z.may; simp; rfl

def mayYesTbl (B : Nat) (i U C : Int) (s : ByteArray) (b : Bool) : List (Nat × V.Ent) :=
   [(1, V.Ent.is (.pointer (some ⟨B, 0, none⟩))),
    (22, V.Ent.is (.pointer (some ⟨B, 2, none⟩))),
    (23, V.Ent.is (.string s)),
    (24, V.Ent.is (.bool true)),
    (25, V.Ent.is (.bool true)),
    (26, V.Ent.is (.pointer (some ⟨B, 1, none⟩))),
    (27, V.Ent.is (.int .i64 i)),
    (28, V.Ent.is (.int .u64 U)),
    (29, V.Ent.is (.int .u64 C)),
    (30, V.Ent.is (.pointer (some ⟨B, 1, none⟩))),
    (31, V.Ent.is (.int .i64 i)),
    (32, V.Ent.is (.int .u64 U)),
    (33, V.Ent.is (.bool b)),
    (34, V.Ent.is (.bool b)),
    (2, V.Ent.is (.bool b))]

def mayNoTbl (B : Nat) (i U C : Int) (s : ByteArray) (b : Bool) : List (Nat × V.Ent) :=
   [(1, V.Ent.is (.pointer (some ⟨B, 0, none⟩))),
    (22, V.Ent.is (.pointer (some ⟨B, 2, none⟩))),
    (23, V.Ent.is (.string s)),
    (24, V.Ent.is (.bool false)),
    (25, V.Ent.is (.bool false)),
    (26, V.Ent.is (undef)),
    (27, V.Ent.is (undef)),
    (28, V.Ent.is (undef)),
    (29, V.Ent.is (undef)),
    (30, V.Ent.is (undef)),
    (31, V.Ent.is (undef)),
    (32, V.Ent.is (undef)),
    (33, V.Ent.is (undef)),
    (34, V.Ent.is (.bool false)),
    (2, V.Ent.is (.bool false))]

end Go.Proofs.Ytmhfpipeoojacaa
/- Check: may values be a column's? The program's answer, and the document's. -/
namespace Go.Proofs.Ytmhfpipeoojacaa
set_option linter.unusedVariables false
open Go.RowKit

theorem iscol_any (kind : Int) (w : World) : Calls Try.prog 48 #[.int .i64 kind] w fun e w' => e = .returned (.bool (Z.kindOk kind)) ∧ w' = w := by
  by_cases k1 : kind = 1
  · subst k1
    go_enter Try.func48, Try.ntmps48
    go_wp2
    go_ret
    exact ⟨rfl, rfl⟩
  · by_cases k2 : kind = 2
    · subst k2
      go_enter Try.func48, Try.ntmps48
      go_wp2
      go_ret
      exact ⟨rfl, rfl⟩
    · by_cases k3 : kind = 3
      · subst k3
        go_enter Try.func48, Try.ntmps48
        go_wp2
        go_ret
        exact ⟨rfl, rfl⟩
      · have HK : Hid (Z.kindOk kind = false) := by show _ = _; unfold Z.kindOk; simp [k1, k2, k3]
        have e1 : (kind == 1) = false := by simpa using k1
        have e2 : (kind == 2) = false := by simpa using k2
        have e3 : (kind == 3) = false := by simpa using k3
        go_enter Try.func48, Try.ntmps48
        go_wp2
        go_ret
        exact ⟨by rw [HK.out]; rfl, rfl⟩
theorem chk_kind {l : List Z.V} {kind : Int} (h : Z.kindOk kind = false) : Z.chk l kind = 1 := by unfold Z.chk; rw [if_pos h]
theorem chk_many {l : List Z.V} {kind : Int} (h : Z.kindOk kind = true) (h1 : 4096 < l.length) : Z.chk l kind = 2 := by unfold Z.chk; rw [h, if_neg (by decide), if_pos h1]
theorem chk_other {l : List Z.V} {kind : Int} (h : Z.kindOk kind = true) (h1 : l.length ≤ 4096) (h2 : l.any (Z.isOther kind) = true) : Z.chk l kind = 7 := by
  unfold Z.chk; rw [h, if_neg (by decide), if_neg (by omega)]
  exact if_pos h2
theorem chk_mayNot {l : List Z.V} {kind : Int} (h : Z.kindOk kind = true) (h1 : l.length ≤ 4096) (h2 : l.any (Z.isOther kind) = false) (h3 : l.any Z.mayNot = true) : Z.chk l kind = 1 := by
  unfold Z.chk; rw [h, if_neg (by decide), if_neg (by omega)]
  exact (if_neg (by show ¬ l.any (Z.isOther kind) = true; rw [h2]; decide)).trans (if_pos h3)
theorem chk_yes {l : List Z.V} {kind : Int} (h : Z.kindOk kind = true) (h1 : l.length ≤ 4096) (h2 : l.any (Z.isOther kind) = false) (h3 : l.any Z.mayNot = false) : Z.chk l kind = 0 := by
  unfold Z.chk; rw [h, if_neg (by decide), if_neg (by omega)]
  exact (if_neg (by show ¬ l.any (Z.isOther kind) = true; rw [h2]; decide)).trans (if_neg (by show ¬ l.any Z.mayNot = true; rw [h3]; decide))

set_option maxHeartbeats 1000000 in
theorem check_any (ao : Option Addr) (len cap : Nat) (l : List Z.V) (kind : Int) (w : World) (h : SlV w ao len cap l) (hI : ∀ x ∈ l, Z.I64 x.i) :
    Calls Try.prog 25 #[.slice ao len cap, .int .i64 kind] w fun e w' => e = .returned (.int .i64 (Z.chk l kind)) ∧ Below w.heap.size w w' := by
  have hmf : ∀ (fn : Fn) (first cap : Array Value) (w : World), (Instr.makeFunc fn first cap).run Try.prog w = .ok (.func fn first cap) w := fun _ _ _ _ => rfl
  have hb := heap_alloc_new w (.cells #[.int .i64 kind] 3)
  have b0 := hide (below_one w (.cells #[.int .i64 kind] 3))
  have HS := hide (h.below b0.out)
  have HI := hide hI
  have HL := hide h.1
  obtain ⟨c1, _⟩ := cell_of_heap hb
  have HB := hide hb
  clear h hI hb
  obtain ⟨q, hq⟩ : ∃ q, Z.kindOk kind = q := ⟨_, rfl⟩
  have HQ := hide hq
  clear hq
  go_enter Try.func25, Try.ntmps25
  go_wp2_with fail
  refine (iscol_any _ _).mono ?_
  rintro e w1 ⟨rfl, rfl⟩
  rw [HQ.out]
  cases q with
  | false =>
    go_wp2
    go_ret
    exact ⟨by rw [chk_kind HQ.out]; rfl, b0.out⟩
  | true =>
    by_cases hm : 4096 < len
    · go_wp2
      go_ret
      exact ⟨by rw [chk_many HQ.out (by rw [HL.out]; exact hm)]; rfl, b0.out⟩
    · go_wp2_with fail
      refine (contains_other _ _ _ l w.heap.size kind _ HS.out (by omega) HB.out).mono ?_
      rintro e w1 ⟨rfl, hb1⟩
      replace b0 := hide (bthen b0.out hb1)
      replace HS := hide (HS.out.below hb1)
      obtain ⟨q2, hq2⟩ : ∃ q, l.any (Z.isOther kind) = q := ⟨_, rfl⟩
      have HQ2 := hide hq2
      rw [hq2]
      clear hq2 hb1
      cases q2 with
      | true =>
        go_wp2
        go_ret
        exact ⟨by rw [chk_other HQ.out (by rw [HL.out]; omega) HQ2.out]; rfl, b0.out⟩
      | false =>
        go_wp2_with fail
        refine (contains_mayNot _ _ _ l _ HS.out (by omega) HI.out).mono ?_
        rintro e w2 ⟨rfl, hb2⟩
        replace b0 := hide (bthen b0.out hb2)
        obtain ⟨q3, hq3⟩ : ∃ q, l.any Z.mayNot = q := ⟨_, rfl⟩
        have HQ3 := hide hq3
        rw [hq3]
        clear hq3 hb2
        cases q3 with
        | true =>
          go_wp2
          go_ret
          exact ⟨by rw [chk_mayNot HQ.out (by rw [HL.out]; omega) HQ2.out HQ3.out]; rfl, b0.out⟩
        | false =>
          go_wp2
          go_ret
          exact ⟨by rw [chk_yes HQ.out (by rw [HL.out]; omega) HQ2.out HQ3.out]; rfl, b0.out⟩
end Go.Proofs.Ytmhfpipeoojacaa
/- The document's Check. -/
namespace Go.Proofs.Ytmhfpipeoojacaa
set_option linter.unusedVariables false
open Go.RowKit

end Go.Proofs.Ytmhfpipeoojacaa
/- The contracts of slices.Clone at bytes, of val's toInt, toText. -/
namespace Go.Proofs.Ytmhfpipeoojacaa
set_option linter.unusedVariables false
open Go.RowKit

set_option maxHeartbeats 400000 in
theorem clone_nil (w : World) : Calls Try.prog 73 #[.slice none 0 0] w fun e w' => e = .returned (.slice none 0 0) ∧ w' = w := by
  have hq := fun (w : World) (a : Option Addr) (n c : Nat) => Lib.run_eql_slice_nil (P := Try.prog) w 36 5 a n c 0 0 Try.underlying36
  go_enter Try.func73, Try.ntmps73
  go_wp2
  go_ret
  exact ⟨rfl, rfl⟩
set_option maxHeartbeats 400000 in
theorem clone_some (x : Addr) (len cap : Nat) (l : List Int) (w : World) (h : Sl w .u8 (some x) len cap l) (hb : len ≤ 140737488355328) :
    Calls Try.prog 73 #[.slice (some x) len cap] w fun e w' => ∃ v', e = .returned v' ∧ w'.ownsRow w.heap.size 5 1 v' len (l.map (Value.int .u8)) ∧ Below w.heap.size w w' := by
  obtain ⟨i0, hi, hz0, hz1, hz2⟩ := info_parts Try.infoU8
  have hq := fun (w : World) (a : Option Addr) (n c : Nat) => Lib.run_eql_slice_nil (P := Try.prog) w 36 5 a n c 0 0 Try.underlying36
  go_enter Try.func73, Try.ntmps73
  go_wp2_with (at_builtin; refine wpList_append_to rfl _ _ 36 rfl w.heap.size 5 i0 (.int .u8 0) 1 1 Try.underlying36 hi hz0 hz1 hz2 rfl (by decide) _ 0 [] rfl (World.ownsRow_lit w #[] 0 (Nat.le_refl _) (by decide) rfl) (some x) len cap (l.map (Value.int .u8)) rfl ?c0 ?c6 ?c1 ?c2 ?c3 ?c4 ?c5 ?_)
  case c0 => simp
  case c6 => simpa using h.1
  case c1 => exact (h.below ((Below.refl _ _).alloc (Nat.le_refl _) _)).news
  case c2 => intro u hu; obtain ⟨y, _, rfl⟩ := List.mem_map.1 hu; rfl
  case c3 => have := h.2.1; have := h.2.2.1; omega
  case c4 => omega
  case c5 => simp
  intro v' w1 hown has
  go_wp2
  go_ret
  refine ⟨v', rfl, by simpa using hown, ?_⟩
  have hk := Kept.below (((Kept.refl _ w).alloc _).trans' (F := fun k => w.heap.size ≤ k) has.1 (fun k hk => ?_)) (Nat.le_refl _) (fun k hk => hk)
  · exact hk
  · exact .inl (owns_lt (World.ownsRow_lit (base := w.heap.size) (e := 5) (size := 1) w #[] 0 (Nat.le_refl _) (by decide) rfl) hk).1
/-- slices.Clone at bytes. -/
theorem clone_any (ao : Option Addr) (len cap : Nat) (l : List Nat) (w : World) (h : Sl w .u8 ao len cap (ints l)) (hb : len ≤ 140737488355328) :
    Calls Try.prog 73 #[.slice ao len cap] w fun e w' => ∃ a c, e = .returned (.slice a len c) ∧ Sl w' .u8 a len c (ints l) ∧ Below w.heap.size w w' := by
  have hl : l.length = len := by rw [← h.1, ints_length]
  cases ao with
  | some x =>
    refine (clone_some x len cap (ints l) w h hb).mono ?_
    rintro e w' ⟨v, rfl, ho, hb1⟩
    subst hl
    rw [← B8_ints] at ho
    obtain ⟨a, c, rfl, hs, _⟩ := Sl.of_bytes ho
    exact ⟨a, c, rfl, hs, hb1⟩
  | none =>
    obtain ⟨h1, h2, h3, h4, h5⟩ := h
    obtain rfl := h4 rfl
    obtain rfl : len = 0 := by omega
    obtain rfl : l = [] := List.eq_nil_of_length_eq_zero hl
    refine (clone_nil w).mono ?_
    rintro e w' ⟨rfl, rfl⟩
    exact ⟨_, _, rfl, Sl.nil _ _, Below.refl _ _⟩

/-- A value written anew. -/
def putV (w : World) (b : Nat) (k i : Int) (s : ByteArray) : World := ((w.setCell ⟨b, 0, none⟩ (.int .i64 k)).setCell ⟨b, 1, none⟩ (.int .i64 i)).setCell ⟨b, 2, none⟩ (.string s)
theorem At.set {w : World} {b : Nat} {k i : Int} {s : ByteArray} (h : At w b k i s) (k' i' : Int) (s' : ByteArray) : At (putV w b k' i' s') b k' i' s' := by
  unfold At putV at *
  simp only [World.setCell, Array.getElem?_modify, h]; simp
theorem putV_kept (w : World) (b : Nat) (k i : Int) (s : ByteArray) : Kept (fun x => x = b) w (putV w b k i s) :=
  Kept.setCell (F := fun x => x = b) (p := ⟨b, 2, none⟩) (Kept.setCell (F := fun x => x = b) (p := ⟨b, 1, none⟩) (Kept.setCell (F := fun x => x = b) (p := ⟨b, 0, none⟩) (Kept.refl _ w) (.inl rfl) _) (.inl rfl) _) (.inl rfl) _
theorem putV_below {w w1 : World} {b : Nat} (k i : Int) (s : ByteArray) (h : Below w.heap.size w w1) (hb : w.heap.size ≤ b) : Below w.heap.size w (putV w1 b k i s) :=
  ((h.setCell (p := ⟨b, 0, none⟩) hb _).setCell (p := ⟨b, 1, none⟩) hb _).setCell (p := ⟨b, 2, none⟩) hb _
/-- Bytes do not lie in a value. -/
theorem Sl.putV {w : World} {a : Option Addr} {n c : Nat} {l : List Int} (h : Sl w .u8 a n c l) {b : Nat} {k i : Int} {s : ByteArray} (hA : At w b k i s) (k' i' : Int) (s' : ByteArray) : Sl (putV w b k' i' s') .u8 a n c l := by
  refine h.kept0 (putV_kept w b k' i' s') ?_
  by_cases h0 : n = 0
  · exact .inl h0
  · refine .inr fun x hx hB => ?_
    rcases h.2.2.2.2 with h5 | ⟨B, off, hao, hlt, h5⟩
    · exact h0 h5
    · rw [hao] at hx
      obtain rfl := Option.some.inj hx
      have h6 := h5 0 (by omega)
      have hB' : B = b := hB
      subst hB'
      unfold At at hA
      simp only [World.cell?, hA, Nat.add_zero] at h6
      match off, h6 with
      | 0, h6 => simp at h6
      | 1, h6 => simp at h6
      | 2, h6 => simp at h6
      | n + 3, h6 => simp at h6
/-- A value, and two more, told. -/
theorem results_val {fn : Func} {p u v : Tmp} (h : fn.results = #[.cell p 24, .tmp u, .tmp v]) (tmps : Array Value) (w : World) (g : Nat) {k i : Int} {s : ByteArray} (hp : tmps.getD p undef = .pointer (some ⟨g, 0, none⟩)) (hA : At w g k i s) :
    (results fn tmps).run Try.prog w = .ok (.tuple #[.agg #[.int .i64 k, .int .i64 i, .string s], tmps.getD u undef, tmps.getD v undef]) w := by
  have hp' : tmps[p]?.getD undef = .pointer (some ⟨g, 0, none⟩) := by simpa using hp
  unfold At at hA
  simp [results, h, hp', asAddr, run_loadVar_row w g 24 24 _ (0, 0) _ hA Try.underlying24 rfl (by kernel_rfl)]

/-- What Of answers. -/
def OfAns (l : List Nat) (kind : Int) (w : World) (e : Ending) (w' : World) : Prop := ∃ a c, e = .returned (.tuple #[(Z.oV l kind).v, .slice a (Z.oR l kind).length c, .int .i64 ((Z.oE l kind : Nat) : Int)]) ∧ Sl w' .u8 a (Z.oR l kind).length c (ints (Z.oR l kind)) ∧ Below w.heap.size w w'
theorem OfAns.no {l : List Nat} {kind : Int} {w w' : World} {E : Nat} (h : Z.oE l kind = E) (h0 : E ≠ 0) (hb : Below w.heap.size w w') : OfAns l kind w (.returned (.tuple #[.agg #[.int .i64 0, .int .i64 0, .string ⟨#[]⟩], .slice none 0 0, .int .i64 ((E : Nat) : Int)])) w' := by
  subst h
  have e1 : Z.oV l kind = ⟨0, 0, ⟨#[]⟩⟩ := by unfold Z.oV; rw [if_neg h0]
  have e2 : Z.oR l kind = [] := by unfold Z.oR; rw [if_neg h0]
  unfold OfAns; rw [e1, e2]
  exact ⟨none, 0, rfl, Sl.nil _ _, hb⟩
theorem OfAns.yes {l r : List Nat} {kind k i : Int} {s : ByteArray} {w w' : World} {a : Option Addr} {n c : Nat} (h : Z.oE l kind = 0) (hw : Z.oW l kind = ⟨k, i, s⟩) (hr : Z.oS l kind = r) (hn : r.length = n) (hs : Sl w' .u8 a n c (ints r)) (hb : Below w.heap.size w w') : OfAns l kind w (.returned (.tuple #[.agg #[.int .i64 k, .int .i64 i, .string s], .slice a n c, .int .i64 0])) w' := by
  have e1 : Z.oV l kind = ⟨k, i, s⟩ := by unfold Z.oV; rw [if_pos h]; exact hw
  have e2 : Z.oR l kind = r := by unfold Z.oR; rw [if_pos h]; exact hr
  subst hn
  unfold OfAns; rw [e1, e2, h]
  exact ⟨a, c, rfl, hs, hb⟩
theorem oE_int (l : List Nat) : Z.oE l 1 = E.gE l := by unfold Z.oE; rw [if_neg (by decide), if_pos rfl]
theorem oE_text (l : List Nat) : Z.oE l 3 = E.xE 1024 l := by unfold Z.oE; rw [if_neg (by decide), if_neg (by decide), if_neg (by decide), if_pos rfl]
theorem iE_one (l : List Nat) : E.iE 1 l = E.gE l := by
  rw [E.iE_pos (by omega)]
  show E.tE 1 l = _
  unfold E.tE
  split
  · rename_i h; rw [h]; rfl
  · rfl
theorem iL_one {l : List Nat} (h : E.gE l = 0) : E.iL 1 l = [E.zag (E.gN l)] := by
  unfold E.iL; rw [if_pos (by rw [iE_one, h])]; rfl
theorem iR_one {l : List Nat} (h : E.gE l = 0) : E.iR 1 l = l.drop (E.gK l) := by
  unfold E.iR; rw [if_pos (by rw [iE_one, h])]; rfl
theorem oW_int (l : List Nat) : Z.oW l 1 = ⟨1, E.zag (E.gN l), ⟨#[]⟩⟩ := by unfold Z.oW; rw [if_pos rfl]
theorem oS_int (l : List Nat) : Z.oS l 1 = l.drop (E.gK l) := by unfold Z.oS; rw [if_pos rfl]
theorem oW_text (l : List Nat) : Z.oW l 3 = ⟨3, 0, strOfNums (ints (E.xS l))⟩ := by unfold Z.oW; rw [if_neg (by decide), if_neg (by decide), if_pos rfl]
theorem oS_text (l : List Nat) : Z.oS l 3 = E.xR l := by unfold Z.oS; rw [if_neg (by decide), if_neg (by decide), if_pos rfl]
theorem vtoint_any (ao : Option Addr) (len cap : Nat) (l : List Nat) (w : World) (h : Sl w .u8 ao len cap (ints l)) (h256 : ∀ x ∈ l, x < 256) (hm : len ≤ 140737488355328) :
    Calls Try.prog 100 #[.slice ao len cap] w (OfAns l 1 w) := by
  have hA := At.new w 0 0 ⟨#[]⟩
  have b0 := hide (below_one w (.cells #[.int .i64 0, .int .i64 0, .string ⟨#[]⟩] 24))
  have HT := hide (toints_anyN ao len cap l 1 _ (h.below b0.out) h256 ⟨hm, .inr (by omega)⟩ (by omega) (by omega))
  clear h
  by_cases hg : E.gE l = 0
  · have HL := hide (iL_one hg)
    have HR := hide (iR_one hg)
    have HE := hide ((iE_one l).trans hg)
    have HO := hide ((oE_int l).trans hg)
    clear hg
    go_enter Try.func100, Try.ntmps100
    go_wp2_with fail
    refine HT.out.mono ?_
    rintro e w1 ⟨v1, v2, rfl, ⟨⟨q1, c1, rfl, hs1, _⟩, q2, c2, rfl, hs2⟩, hb⟩
    rw [HE.out, HL.out, HR.out]
    rw [HL.out] at hs1
    rw [HR.out] at hs2
    rcases hs1.2.2.2.2 with h5 | ⟨B, off, rfl, hlt, h5⟩
    · simp at h5
    have hc := h5 0 (by simp)
    simp only [List.getD_cons_zero, Nat.add_zero] at hc
    replace hA := hA.below hb
    replace b0 := hide (bthen b0.out hb)
    replace hs2 := hide hs2
    obtain ⟨x, hx⟩ : ∃ x, E.zag (E.gN l) = x := ⟨_, rfl⟩
    obtain ⟨n2, hn2⟩ : ∃ n2, (l.drop (E.gK l)).length = n2 := ⟨_, rfl⟩
    rw [hx] at hc
    rw [hn2]
    rw [hn2] at hs2
    have HX := hide hx
    have HN2 := hide hn2
    clear hb h5 hs1 hlt hx hn2 HT h256 HL HR HE
    obtain ⟨a1, a2, a3⟩ := hA.cells
    obtain ⟨f1, f2, f3⟩ := hA.thawed
    replace hA := hide hA
    go_wp2
    refine bodyPost_ret (results_val Try.results100 _ _ w.heap.size rfl (hA.out.set 1 x ⟨#[]⟩)) rfl ?_
    exact OfAns.yes HO.out (by rw [oW_int, HX.out]) (oS_int l) HN2.out (hs2.out.putV hA.out 1 x ⟨#[]⟩) (putV_below 1 x ⟨#[]⟩ b0.out (Nat.le_refl _))
  · have HE := hide (iE_one l)
    have HO := hide (oE_int l)
    obtain ⟨G, hG⟩ : ∃ G : Nat, E.gE l = G := ⟨_, rfl⟩
    rw [hG] at hg HE HO
    clear hG
    have hg2 : ((G : Nat) : Int) ≠ 0 := by omega
    obtain ⟨e, he⟩ : ∃ e : Int, ((G : Nat) : Int) = e := ⟨_, rfl⟩
    have hg3 : e ≠ 0 := by omega
    have HEE := hide he
    go_enter Try.func100, Try.ntmps100
    go_wp2_with fail
    refine HT.out.mono ?_
    rintro e' w1 ⟨v1, v2, rfl, ⟨⟨q1, c1, rfl, _, _⟩, q2, c2, rfl, _⟩, hb⟩
    rw [HE.out, HEE.out]
    replace hA := hA.below hb
    replace b0 := hide (bthen b0.out hb)
    generalize (E.iL 1 l).length = n1
    generalize (E.iR 1 l).length = n2
    clear hb HT h256 HE he hg2
    obtain ⟨a1, a2, a3⟩ := hA.cells
    obtain ⟨f1, f2, f3⟩ := hA.thawed
    replace hA := hide hA
    go_wp2
    refine bodyPost_ret (results_val Try.results100 _ _ w.heap.size rfl (hA.out.set 0 0 ⟨#[]⟩)) rfl ?_
    have := OfAns.no HO.out hg (putV_below 0 0 ⟨#[]⟩ b0.out (Nat.le_refl _))
    rw [HEE.out] at this
    exact this
end Go.Proofs.Ytmhfpipeoojacaa
/- The contracts of the reference's Zig, Zag, Put. -/
namespace Go.Proofs.Ytmhfpipeoojacaa
set_option linter.unusedVariables false
open Go.RowKit

theorem rzig_neg (n : Int) (h0 : -9223372036854775808 ≤ n) (h : n < 0) : 2 * -(n + 1) + 1 = ((E.zig n : Nat) : Int) := by
  unfold E.zig; rw [if_pos h]; omega
theorem rzig_pos (n : Int) (h : 0 ≤ n) : 2 * n = ((E.zig n : Nat) : Int) := by
  unfold E.zig; rw [if_neg (by omega)]; omega

end Go.Proofs.Ytmhfpipeoojacaa
/- The contract of the reference's Get. -/
namespace Go.Proofs.Ytmhfpipeoojacaa
set_option linter.unusedVariables false
open Go.RowKit

theorem val_drop (l : List Nat) (i : Nat) (h : i < l.length) : E.val (l.drop i) = l.getD i 0 % 128 + 128 * E.val (l.drop (i + 1)) := by
  rw [List.drop_eq_getElem_cons h]
  simp [E.val, List.getD, h]
theorem val_drop_le (l : List Nat) (i : Nat) : E.val (l.drop i) ≤ E.val l := by
  have h := E.val_append (l.take i) (l.drop i)
  rw [List.take_append_drop] at h
  rw [h]
  have : E.val (l.drop i) ≤ 128 ^ (l.take i).length * E.val (l.drop i) := Nat.le_mul_of_pos_left _ (Nat.pow_pos (by omega))
  omega

end Go.Proofs.Ytmhfpipeoojacaa
/- The contracts of the reference's Ints, Text, ToInts. -/
namespace Go.Proofs.Ytmhfpipeoojacaa
set_option linter.unusedVariables false
open Go.RowKit

/-- A slice's part. -/
theorem Sl.part {w : World} {k : IntKind} {ao : Option Addr} {len cap : Nat} {l : List Int} (h : Sl w k ao len cap l) (i j : Nat) (hij : i ≤ j) (hj : j ≤ len) : Sl w k (if cap = i then ao else ao.map (·.add (i * 1))) (j - i) (cap - i) ((l.take j).drop i) := by
  obtain ⟨h1, h2, h3, h4, h5⟩ := h
  refine ⟨by rw [List.length_drop, List.length_take, h1, Nat.min_eq_left hj], by omega, by omega, fun e => ?_, ?_⟩
  · by_cases hc : cap = i
    · omega
    · rw [if_neg hc] at e
      cases ao with
      | none => have := h4 rfl; omega
      | some x => simp at e
  · by_cases h0 : j - i = 0
    · exact .inl h0
    · rcases h5 with h5 | ⟨b, off, rfl, hlt, h5⟩
      · omega
      · rw [if_neg (by omega)]
        refine .inr ⟨b, off + i, by simp [Addr.add], hlt, fun t ht => ?_⟩
        rw [Nat.add_assoc, h5 (i + t) (by omega)]
        have : i + t < j := by omega
        simp [List.getD, this]

end Go.Proofs.Ytmhfpipeoojacaa
/- The contract of the reference's Bytes. -/
namespace Go.Proofs.Ytmhfpipeoojacaa
set_option linter.unusedVariables false
open Go.RowKit

/-- What the reference's Bytes answers: bytes in new memory. -/
def BytesNew (x : Z.V) (w : World) (e : Ending) (w' : World) : Prop := ∃ a c, e = .returned (.tuple #[.slice a (Z.bl x).length c, .int .i64 (Z.be x)]) ∧ Sl w' .u8 a (Z.bl x).length c (ints (Z.bl x)) ∧ Below w.heap.size w w' ∧ ∀ y, a = some y → w.heap.size ≤ y.block
theorem BytesNew.no {x : Z.V} {w w' : World} (h : Z.may x = false) (hb : Below w.heap.size w w') : BytesNew x w (.returned (.tuple #[.slice none 0 0, .int .i64 1])) w' := by
  have e1 : Z.bl x = [] := by unfold Z.bl; rw [h]; rfl
  have e2 : Z.be x = 1 := by unfold Z.be; rw [h]; rfl
  unfold BytesNew; rw [e1, e2]
  exact ⟨none, 0, rfl, Sl.nil _ _, hb, by simp⟩
theorem BytesNew.yes {x : Z.V} {w w' : World} {l : List Nat} {a : Option Addr} {len c : Nat} (h : Z.may x = true) (hl : Z.lb x = l) (hn : l.length = len) (hs : Sl w' .u8 a len c (ints l)) (hb : Below w.heap.size w w') (hf : ∀ y, a = some y → w.heap.size ≤ y.block) : BytesNew x w (.returned (.tuple #[.slice a len c, .int .i64 0])) w' := by
  have e1 : Z.bl x = l := by unfold Z.bl; rw [h]; exact hl
  have e2 : Z.be x = 0 := by unfold Z.be; rw [h]; rfl
  subst hn
  unfold BytesNew; rw [e1, e2]
  exact ⟨a, c, rfl, hs, hb, hf⟩
/-- A row of one's own lies where it may. -/
theorem own_new {w : World} {B C : Nat} {e : TypeId} {size n : Nat} {v : Value} {xs : List Value} {a : Option Addr} (h : w.ownsRow B e size v n xs) (ha : v.ownBlock = a.map (·.block)) (hC : C ≤ B) : ∀ y, a = some y → C ≤ y.block := fun y hy => by
  have := (owns_lt h (k := y.block) (by rw [ha, hy]; rfl)).1
  omega

end Go.Proofs.Ytmhfpipeoojacaa

/- slices.ContainsFunc with the two closures of Check; Check. -/
import Derived.Test.YthcnfbjljkighaaBdG
import Derived.Test.YthcnfbjljkighaaBdK
import Derived.Test.YthcnfbjljkighaaBdC
import Derived.Test.YthcnfbjljkighaaBdH
import Derived.Test.YthcnfbjljkighaaRows
import Derived.WalkKit
import Derived.WalkSpells
import Derived.WalkLawsBesides
import Derived.Test.YthcnfbjljkighaaBdE
namespace Go.Proofs.Ythcnfbjljkighaa
set_option linter.unusedVariables false
open Go.RowKit

theorem any_get {l : List Z.V} {p : Z.V → Bool} {j : Nat} {x : Z.V} (h : l[j]? = some x) (hk : p x = true) : l.any p = true := List.any_eq_true.2 ⟨x, List.mem_of_getElem? h, hk⟩
theorem any_take {l : List Z.V} {p : Z.V → Bool} {j : Nat} {x : Z.V} (h : l[j]? = some x) (hk : p x = false) (ht : (l.take j).any p = false) : (l.take (j + 1)).any p = false := by
  rw [take_snocV h, List.any_append, ht, List.any_cons, hk]; rfl
def Z.isOther (kind : Int) (x : Z.V) : Bool := x.k != kind
def Z.mayNot (x : Z.V) : Bool := !Z.may x

theorem isother_any (B : Nat) (kind : Int) (k i : Int) (s : ByteArray) (w : World) (hb : w.heap[B]? = some (.cells #[.int .i64 kind] 3 (0, 0))) :
    Calls Try.prog 25 #[.agg #[.int .i64 k, .int .i64 i, .string s], .pointer (some ⟨B, 0, none⟩)] w fun e w' => e = .returned (.bool (Z.isOther kind ⟨k, i, s⟩)) ∧ Below w.heap.size w w' := by
  have hA := At.new w k i s
  have b0 := hide (below_one w (.cells #[.int .i64 k, .int .i64 i, .string s] 41))
  have hb1 := heap_alloc_keep (.cells #[.int .i64 k, .int .i64 i, .string s] 41) hb
  obtain ⟨c1, _⟩ := cell_of_heap hb1
  obtain ⟨a1, a2, a3⟩ := hA.cells
  clear hA hb hb1
  obtain ⟨q, hq⟩ : ∃ q, (k != kind) = q := ⟨_, rfl⟩
  have HQ : Hid (Z.isOther kind ⟨k, i, s⟩ = q) := hq
  go_enter Try.func25, Try.ntmps25
  go_wp2
  go_ret
  exact ⟨by rw [HQ.out]; rfl, b0.out⟩
theorem maynot_any (k i : Int) (s : ByteArray) (w : World) (hi : Z.I64 i) :
    Calls Try.prog 26 #[.agg #[.int .i64 k, .int .i64 i, .string s]] w fun e w' => e = .returned (.bool (Z.mayNot ⟨k, i, s⟩)) ∧ Below w.heap.size w w' := by
  have hA := At.new w k i s
  have b0 := hide (below_one w (.cells #[.int .i64 k, .int .i64 i, .string s] 41))
  obtain ⟨a1, a2, a3⟩ := hA.cells
  clear hA
  obtain ⟨q, hq⟩ : ∃ q, Z.may ⟨k, i, s⟩ = q := ⟨_, rfl⟩
  have HQ := hide hq
  clear hq
  go_enter Try.func26, Try.ntmps26
  go_wp2_with fail
  refine (may_any _ _ _ _ hi).mono ?_
  rintro e w1 ⟨rfl, hb⟩
  rw [HQ.out]
  replace b0 := hide (bthen b0.out hb)
  clear hb
  go_wp2
  go_ret
  exact ⟨by simp [Z.mayNot, HQ.out], b0.out⟩

set_option maxHeartbeats 1000000 in
theorem index_other (b off len cap : Nat) (l : List Z.V) (B : Nat) (kind : Int) (w : World) (hl : l.length = len) (hcap : len ≤ 140737488355328) (hlt : b < w.heap.size) (hB : w.heap[B]? = some (.cells #[.int .i64 kind] 3 (0, 0)))
    (hc : ∀ j x, l[j]? = some x → w.cell? ⟨b, off + j * 3, none⟩ = some (.int .i64 x.k) ∧ w.cell? ⟨b, off + j * 3 + 1, none⟩ = some (.int .i64 x.i) ∧ w.cell? ⟨b, off + j * 3 + 2, none⟩ = some (.string x.s)) :
    Calls Try.prog 45 #[.slice (some ⟨b, off, none⟩) len cap, .func (.func 25) #[] #[.pointer (some ⟨B, 0, none⟩)]] w fun e w' => ∃ r : Int, e = .returned (.int .i64 r) ∧ decide (0 ≤ r) = l.any (Z.isOther kind) ∧ Below w.heap.size w w' := by
  have HC := hide hc
  have HL := hide hl
  have HP := hide hB
  clear hc hl hB
  go_enter Try.func45, Try.ntmps45
  go_wp2_with fail
  go_loopw [8] (fun i wr => ∃ j : Nat, j ≤ len ∧ i = .int .i64 j ∧ Hid ((l.take j).any (Z.isOther kind) = false) ∧ Hid (Below w.heap.size w wr)) (fun i _ => len - (intOf i).toNat)
  case atStart => exact ⟨0, Nat.zero_le _, rfl, hide rfl, hide (Below.refl _ _)⟩
  case round =>
    obtain ⟨j, hj, rfl, han, hbw⟩ := hrel
    by_cases hjl : j < len
    · obtain ⟨⟨xk, xi, xs⟩, hx⟩ : ∃ x, l[j]? = some x := ⟨l[j]'(by rw [HL.out]; exact hjl), List.getElem?_eq_getElem _⟩
      obtain ⟨c1, c2, c3⟩ := HC.out j _ hx
      have d1 : wr.cell? ⟨b, off + j * 3, none⟩ = some (.int .i64 xk) := by rw [hbw.out.cell (p := ⟨b, off + j * 3, none⟩) hlt]; exact c1
      have d2 : wr.cell? ⟨b, off + j * 3 + 1, none⟩ = some (.int .i64 xi) := by rw [hbw.out.cell (p := ⟨b, off + j * 3 + 1, none⟩) hlt]; exact c2
      have d3 : wr.cell? ⟨b, off + j * 3 + 2, none⟩ = some (.string xs) := by rw [hbw.out.cell (p := ⟨b, off + j * 3 + 2, none⟩) hlt]; exact c3
      have HX := hide hx
      clear c1 c2 c3 hx
      go_wp2_with fail
      refine (isother_any B kind _ _ _ _ (by rw [hbw.out.block B (lt_of_block HP.out)]; exact HP.out)).mono ?_
      rintro e w2 ⟨rfl, hw2⟩
      have HBN := hide (bthen hbw.out hw2)
      obtain ⟨q, hq⟩ : ∃ q, (Z.isOther kind) ⟨xk, xi, xs⟩ = q := ⟨_, rfl⟩
      have HQ := hide hq
      rw [hq]
      clear hw2 hq d1 d2 d3
      cases q with
      | true =>
        go_wp2
        go_ret
        exact ⟨_, rfl, by rw [any_get HX.out HQ.out]; simp, HBN.out⟩
      | false =>
        go_wp2
        go_roundw
        case rel => exact ⟨j + 1, hjl, by go_num, hide (any_take HX.out HQ.out han.out), HBN⟩
        case measure => simp [intOf]; omega
    · obtain rfl : j = len := by omega
      have HE : Hid (l.any (Z.isOther kind) = false) := by
        have := han.out
        rwa [← HL.out, List.take_length] at this
      go_wp2
      go_ret
      exact ⟨_, rfl, by rw [HE.out]; rfl, hbw.out⟩
theorem index_other0 (ao : Option Addr) (cap : Nat) (B : Nat) (kind : Int) (w : World) :
    Calls Try.prog 45 #[.slice ao 0 cap, .func (.func 25) #[] #[.pointer (some ⟨B, 0, none⟩)]] w fun e w' => ∃ r : Int, e = .returned (.int .i64 r) ∧ decide (0 ≤ r) = ([] : List Z.V).any (Z.isOther kind) ∧ Below w.heap.size w w' := by
  go_enter Try.func45, Try.ntmps45
  go_wp2_with fail
  go_rounds 1
  go_ret
  exact ⟨_, rfl, rfl, Below.refl _ _⟩
theorem contains_other (ao : Option Addr) (len cap : Nat) (l : List Z.V) (B : Nat) (kind : Int) (w : World) (h : SlV w ao len cap l) (hcap : len ≤ 140737488355328) (hB : w.heap[B]? = some (.cells #[.int .i64 kind] 3 (0, 0))) :
    Calls Try.prog 28 #[.slice ao len cap, .func (.func 25) #[] #[.pointer (some ⟨B, 0, none⟩)]] w fun e w' => e = .returned (.bool (l.any (Z.isOther kind))) ∧ Below w.heap.size w w' := by
  have HC : Hid (Calls Try.prog 45 #[.slice ao len cap, .func (.func 25) #[] #[.pointer (some ⟨B, 0, none⟩)]] w fun e w' => ∃ r : Int, e = .returned (.int .i64 r) ∧ decide (0 ≤ r) = l.any (Z.isOther kind) ∧ Below w.heap.size w w') := by
    show Calls _ _ _ _ _
    rcases h.2.2.2.2 with h5 | ⟨b, off, rfl, hlt, h5⟩
    · subst h5
      obtain rfl : l = [] := List.eq_nil_of_length_eq_zero h.1
      exact index_other0 ao cap B kind w
    · exact index_other b off len cap l B kind w h.1 hcap hlt hB h5
  clear h hB
  go_enter Try.func28, Try.ntmps28
  go_wp2_with fail
  refine HC.out.mono ?_
  rintro e w1 ⟨r, rfl, hr, hb1⟩
  replace hb1 := hide hb1
  obtain ⟨q, hq⟩ : ∃ q, l.any (Z.isOther kind) = q := ⟨_, rfl⟩
  rw [hq] at hr
  have HQ := hide hq
  clear hq
  cases q with
  | true =>
    have h0 : 0 ≤ r := by simpa using hr
    clear hr
    go_wp2
    go_ret
    exact ⟨by rw [HQ.out]; simp, hb1.out⟩
  | false =>
    have h0 : ¬ 0 ≤ r := by simpa using hr
    clear hr
    go_wp2
    go_ret
    exact ⟨by rw [HQ.out]; simp [h0], hb1.out⟩

set_option maxHeartbeats 1000000 in
theorem index_mayNot (b off len cap : Nat) (l : List Z.V) (w : World) (hl : l.length = len) (hcap : len ≤ 140737488355328) (hlt : b < w.heap.size) (hI : ∀ x ∈ l, Z.I64 x.i)
    (hc : ∀ j x, l[j]? = some x → w.cell? ⟨b, off + j * 3, none⟩ = some (.int .i64 x.k) ∧ w.cell? ⟨b, off + j * 3 + 1, none⟩ = some (.int .i64 x.i) ∧ w.cell? ⟨b, off + j * 3 + 2, none⟩ = some (.string x.s)) :
    Calls Try.prog 45 #[.slice (some ⟨b, off, none⟩) len cap, .func (.func 26) #[] #[]] w fun e w' => ∃ r : Int, e = .returned (.int .i64 r) ∧ decide (0 ≤ r) = l.any Z.mayNot ∧ Below w.heap.size w w' := by
  have HC := hide hc
  have HL := hide hl
  have HP := hide hI
  clear hc hl hI
  go_enter Try.func45, Try.ntmps45
  go_wp2_with fail
  go_loopw [8] (fun i wr => ∃ j : Nat, j ≤ len ∧ i = .int .i64 j ∧ Hid ((l.take j).any Z.mayNot = false) ∧ Hid (Below w.heap.size w wr)) (fun i _ => len - (intOf i).toNat)
  case atStart => exact ⟨0, Nat.zero_le _, rfl, hide rfl, hide (Below.refl _ _)⟩
  case round =>
    obtain ⟨j, hj, rfl, han, hbw⟩ := hrel
    by_cases hjl : j < len
    · obtain ⟨⟨xk, xi, xs⟩, hx⟩ : ∃ x, l[j]? = some x := ⟨l[j]'(by rw [HL.out]; exact hjl), List.getElem?_eq_getElem _⟩
      obtain ⟨c1, c2, c3⟩ := HC.out j _ hx
      have d1 : wr.cell? ⟨b, off + j * 3, none⟩ = some (.int .i64 xk) := by rw [hbw.out.cell (p := ⟨b, off + j * 3, none⟩) hlt]; exact c1
      have d2 : wr.cell? ⟨b, off + j * 3 + 1, none⟩ = some (.int .i64 xi) := by rw [hbw.out.cell (p := ⟨b, off + j * 3 + 1, none⟩) hlt]; exact c2
      have d3 : wr.cell? ⟨b, off + j * 3 + 2, none⟩ = some (.string xs) := by rw [hbw.out.cell (p := ⟨b, off + j * 3 + 2, none⟩) hlt]; exact c3
      have HX := hide hx
      clear c1 c2 c3 hx
      go_wp2_with fail
      refine (maynot_any _ _ _ _ (HP.out _ (List.mem_of_getElem? HX.out))).mono ?_
      rintro e w2 ⟨rfl, hw2⟩
      have HBN := hide (bthen hbw.out hw2)
      obtain ⟨q, hq⟩ : ∃ q, Z.mayNot ⟨xk, xi, xs⟩ = q := ⟨_, rfl⟩
      have HQ := hide hq
      rw [hq]
      clear hw2 hq d1 d2 d3
      cases q with
      | true =>
        go_wp2
        go_ret
        exact ⟨_, rfl, by rw [any_get HX.out HQ.out]; simp, HBN.out⟩
      | false =>
        go_wp2
        go_roundw
        case rel => exact ⟨j + 1, hjl, by go_num, hide (any_take HX.out HQ.out han.out), HBN⟩
        case measure => simp [intOf]; omega
    · obtain rfl : j = len := by omega
      have HE : Hid (l.any Z.mayNot = false) := by
        have := han.out
        rwa [← HL.out, List.take_length] at this
      go_wp2
      go_ret
      exact ⟨_, rfl, by rw [HE.out]; rfl, hbw.out⟩
theorem index_mayNot0 (ao : Option Addr) (cap : Nat) (w : World) :
    Calls Try.prog 45 #[.slice ao 0 cap, .func (.func 26) #[] #[]] w fun e w' => ∃ r : Int, e = .returned (.int .i64 r) ∧ decide (0 ≤ r) = ([] : List Z.V).any Z.mayNot ∧ Below w.heap.size w w' := by
  go_enter Try.func45, Try.ntmps45
  go_wp2_with fail
  go_rounds 1
  go_ret
  exact ⟨_, rfl, rfl, Below.refl _ _⟩
theorem contains_mayNot (ao : Option Addr) (len cap : Nat) (l : List Z.V) (w : World) (h : SlV w ao len cap l) (hcap : len ≤ 140737488355328) (hI : ∀ x ∈ l, Z.I64 x.i) :
    Calls Try.prog 28 #[.slice ao len cap, .func (.func 26) #[] #[]] w fun e w' => e = .returned (.bool (l.any Z.mayNot)) ∧ Below w.heap.size w w' := by
  have HC : Hid (Calls Try.prog 45 #[.slice ao len cap, .func (.func 26) #[] #[]] w fun e w' => ∃ r : Int, e = .returned (.int .i64 r) ∧ decide (0 ≤ r) = l.any Z.mayNot ∧ Below w.heap.size w w') := by
    show Calls _ _ _ _ _
    rcases h.2.2.2.2 with h5 | ⟨b, off, rfl, hlt, h5⟩
    · subst h5
      obtain rfl : l = [] := List.eq_nil_of_length_eq_zero h.1
      exact index_mayNot0 ao cap  w
    · exact index_mayNot b off len cap l  w h.1 hcap hlt hI h5
  clear h hI
  go_enter Try.func28, Try.ntmps28
  go_wp2_with fail
  refine HC.out.mono ?_
  rintro e w1 ⟨r, rfl, hr, hb1⟩
  replace hb1 := hide hb1
  obtain ⟨q, hq⟩ : ∃ q, l.any Z.mayNot = q := ⟨_, rfl⟩
  rw [hq] at hr
  have HQ := hide hq
  clear hq
  cases q with
  | true =>
    have h0 : 0 ≤ r := by simpa using hr
    clear hr
    go_wp2
    go_ret
    exact ⟨by rw [HQ.out]; simp, hb1.out⟩
  | false =>
    have h0 : ¬ 0 ≤ r := by simpa using hr
    clear hr
    go_wp2
    go_ret
    exact ⟨by rw [HQ.out]; simp [h0], hb1.out⟩
end Go.Proofs.Ythcnfbjljkighaa
/- Steps of a region that draws its order: a value's parts in memory. -/
namespace Go.Proofs.Ythcnfbjljkighaa.V
set_option linter.unusedVariables false
open Go.RowKit

variable {ops : Array Oper} {Q : Exit → Act → World → Prop} {tbl : List (Nat × Ent)} {w0 : World} {o : Oper}

/-- The address of a part. -/
theorem Step.field {s B i : Nat} (hw : Wants tbl ops o) (ho : o.op = .fieldAddr 41 (.tmp s) i) (hs : get tbl s = Ent.is (.pointer (some ⟨B, 0, none⟩))) (hi : i < 3) (hd : ∀ d, o.dst = some d → get tbl d = Ent.is (.pointer (some ⟨B, i, none⟩))) : Step Try.prog ops Q tbl w0 o := by
  refine Step.value hw fun a w hb hk => ⟨.pointer (some ⟨B, i, none⟩), ?_, fun d h => by rw [hd d h]; rfl⟩
  have h1 : a.eval (.tmp s) = .pointer (some ⟨B, 0, none⟩) := by
    have := hk s (looks_op (by rw [ho]; simp [Op.operands]))
    rwa [hs] at this
  simp only [execOp, ho, h1]
  match i, hi with
  | 0, _ => simp [go_sem]
  | 1, _ => simp [go_sem]
  | 2, _ => simp [go_sem]
/-- A value as a whole. -/
theorem Step.loadV {s B : Nat} {k i : Int} {z : ByteArray} (hw : Wants tbl ops o) (ho : o.op = .load 41 (.tmp s)) (hs : get tbl s = Ent.is (.pointer (some ⟨B, 0, none⟩))) (hB : At w0 B k i z) (hd : ∀ d, o.dst = some d → get tbl d = Ent.is (.agg #[.int .i64 k, .int .i64 i, .string z])) : Step Try.prog ops Q tbl w0 o := by
  refine Step.value hw fun a w hb hk => ⟨.agg #[.int .i64 k, .int .i64 i, .string z], ?_, fun d h => by rw [hd d h]; rfl⟩
  have h1 : a.eval (.tmp s) = .pointer (some ⟨B, 0, none⟩) := by
    have := hk s (looks_op (by rw [ho]; simp [Op.operands]))
    rwa [hs] at this
  have h2 : At w B k i z := hB.below hb
  unfold At at h2
  unfold execOp
  simp only [ho, h1, Instr.loadAt, Instr.sureAddr, Sem.run_bind, Sem.run_pure, Result.andThen_ok, run_loadVar_row w B 41 41 _ (0, 0) _ h2 Try.underlying41 rfl (by kernel_rfl)]
/-- A part. -/
theorem Step.loadI {t s B j : Nat} {k : IntKind} {n : Int} (hw : Wants tbl ops o) (ho : o.op = .load t (.tmp s)) (hs : get tbl s = Ent.is (.pointer (some ⟨B, j, none⟩))) (ht : Try.prog.underlying t = some (.int k)) (hl : B < w0.heap.size) (hB : w0.cell? ⟨B, j, none⟩ = some (.int k n)) (hd : ∀ d, o.dst = some d → get tbl d = Ent.is (.int k n)) : Step Try.prog ops Q tbl w0 o := by
  refine Step.value hw fun a w hb hk => ⟨.int k n, ?_, fun d h => by rw [hd d h]; rfl⟩
  have h1 : a.eval (.tmp s) = .pointer (some ⟨B, j, none⟩) := by
    have := hk s (looks_op (by rw [ho]; simp [Op.operands]))
    rwa [hs] at this
  have h2 : w.cell? ⟨B, j, none⟩ = some (.int k n) := by rw [hb.cell (p := ⟨B, j, none⟩) hl]; exact hB
  have ha : ∀ w : World, (isAgg t).run Try.prog w = .ok false w := fun w => by unfold isAgg; rw [Sem.run_bind, run_underlying ht w]; rfl
  simp only [execOp, ho, h1]
  simp [go_sem, h2, ha]
theorem Step.loadS {t s B j : Nat} {z : ByteArray} (hw : Wants tbl ops o) (ho : o.op = .load t (.tmp s)) (hs : get tbl s = Ent.is (.pointer (some ⟨B, j, none⟩))) (ht : Try.prog.underlying t = some .string) (hl : B < w0.heap.size) (hB : w0.cell? ⟨B, j, none⟩ = some (.string z)) (hd : ∀ d, o.dst = some d → get tbl d = Ent.is (.string z)) : Step Try.prog ops Q tbl w0 o := by
  refine Step.value hw fun a w hb hk => ⟨.string z, ?_, fun d h => by rw [hd d h]; rfl⟩
  have h1 : a.eval (.tmp s) = .pointer (some ⟨B, j, none⟩) := by
    have := hk s (looks_op (by rw [ho]; simp [Op.operands]))
    rwa [hs] at this
  have h2 : w.cell? ⟨B, j, none⟩ = some (.string z) := by rw [hb.cell (p := ⟨B, j, none⟩) hl]; exact hB
  have ha : ∀ w : World, (isAgg t).run Try.prog w = .ok false w := fun w => by unfold isAgg; rw [Sem.run_bind, run_underlying ht w]; rfl
  simp only [execOp, ho, h1]
  simp [go_sem, h2, ha]
theorem At.lt {w : World} {B : Nat} {k i : Int} {z : ByteArray} (h : At w B k i z) : B < w.heap.size := lt_of_block h
theorem eql_int (t : TypeId) (k : IntKind) (x y : Int) (_ht : Try.prog.underlying t = some (.int k)) (w : World) : (binOp .eql t (.int k x) (.int k y)).run Try.prog w = .ok (.bool (x == y)) w := by
  simp [go_sem]
theorem eql_bool (x y : Bool) (w : World) : (binOp .eql 4 (.bool x) (.bool y)).run Try.prog w = .ok (.bool (x == y)) w := by
  simp [go_sem]
end Go.Proofs.Ythcnfbjljkighaa.V
/- The contracts of the reference's Parts, IsNan, Clean, Key, Bits, Compare. -/
namespace Go.Proofs.Ythcnfbjljkighaa
set_option linter.unusedVariables false
open Go.RowKit

theorem rparts_any (b : Int) (w : World) (h0 : 0 ≤ b) (h1 : b < 18446744073709551616) :
    Calls Try.prog 49 #[.int .u64 b] w fun e w' => e = .returned (.tuple #[.bool (decide (9223372036854775808 ≤ b)), .int .u64 (b / 4503599627370496 % 2048), .int .u64 (b % 4503599627370496)]) ∧ w' = w := by
  go_enter Try.func49, Try.ntmps49
  go_wp2
  go_ret3
  exact ⟨rfl, rfl⟩
theorem risnan_any (b : Int) (w : World) (h0 : 0 ≤ b) (h1 : b < 18446744073709551616) :
    Calls Try.prog 57 #[.int .u64 b] w fun e w' => e = .returned (.bool (D.isN b)) ∧ w' = w := by
  go_enter Try.func57, Try.ntmps57
  go_wp2_with fail
  refine (rparts_any b w h0 h1).mono ?_
  rintro e w1 ⟨rfl, rfl⟩
  obtain ⟨E, hE⟩ : ∃ E, b / 4503599627370496 % 2048 = E := ⟨_, rfl⟩
  obtain ⟨F, hF⟩ : ∃ F, b % 4503599627370496 = F := ⟨_, rfl⟩
  rw [hE, hF]
  have hI : Hid (D.isN b = ((E == 2047) && (F != 0))) := by show _ = _; unfold D.isN; rw [hE, hF]
  clear hE hF
  cases hb : (E == 2047) with
  | false =>
    go_wp2
    go_ret
    exact ⟨by rw [hI.out, hb]; rfl, rfl⟩
  | true =>
    go_wp2
    go_ret
    exact ⟨by rw [hI.out, hb]; rfl, rfl⟩
theorem rclean_any (b : Int) (w : World) (h0 : 0 ≤ b) (h1 : b < 18446744073709551616) :
    Calls Try.prog 46 #[.int .u64 b] w fun e w' => e = .returned (.int .u64 (D.cl b)) ∧ w' = w := by
  go_enter Try.func46, Try.ntmps46
  go_wp2_with fail
  refine (risnan_any b w h0 h1).mono ?_
  rintro e w1 ⟨rfl, rfl⟩
  cases hb : D.isN b with
  | false =>
    have HC : Hid (D.cl b = b) := D.cl_num hb
    go_wp2
    go_ret
    exact ⟨by rw [HC.out]; rfl, rfl⟩
  | true =>
    have HC : Hid (D.cl b = 9221120237041090560) := D.cl_nan hb
    go_wp2
    go_ret
    exact ⟨by rw [HC.out]; rfl, rfl⟩
theorem rkey_any (b : Int) (w : World) (h0 : 0 ≤ b) (h1 : b < 18446744073709551616) :
    Calls Try.prog 37 #[.int .u64 b] w fun e w' => e = .returned (.int .u64 (D.ky b)) ∧ w' = w := by
  have hc := D.cl_in (b := b) ⟨h0, h1⟩
  go_enter Try.func37, Try.ntmps37
  go_wp2_with fail
  refine (rclean_any b w h0 h1).mono ?_
  rintro e w1 ⟨rfl, rfl⟩
  obtain ⟨c, hce⟩ : ∃ c, D.cl b = c := ⟨_, rfl⟩
  rw [hce] at hc ⊢
  have HK : Hid (D.ky b = if 9223372036854775808 ≤ c then 18446744073709551615 - c else c + 9223372036854775808) := by show _ = _; unfold D.ky; rw [hce]
  obtain ⟨hc0, hc1⟩ := hc
  clear hce
  by_cases hs : 9223372036854775808 ≤ c
  · go_wp2_with fail
    refine (rparts_any c w1 hc0 hc1).mono ?_
    rintro e w2 ⟨rfl, rfl⟩
    have hd : decide (9223372036854775808 ≤ c) = true := by simp [hs]
    rw [hd]
    go_wp2
    go_ret
    exact ⟨by rw [HK.out, if_pos hs]; rfl, rfl⟩
  · go_wp2_with fail
    refine (rparts_any c w1 hc0 hc1).mono ?_
    rintro e w2 ⟨rfl, rfl⟩
    have hd : decide (9223372036854775808 ≤ c) = false := by simp; omega
    rw [hd]
    go_wp2
    go_ret
    exact ⟨by rw [HK.out, if_neg (by omega)]; rfl, rfl⟩
theorem rbits_any (k : Int) (w : World) (h0 : 0 ≤ k) (h1 : k < 18446744073709551616) :
    Calls Try.prog 55 #[.int .u64 k] w fun e w' => e = .returned (.int .u64 (D.bt k)) ∧ w' = w := by
  by_cases hs : 9223372036854775808 ≤ k
  · have HK : Hid (D.bt k = D.cl (k - 9223372036854775808)) := by show _ = _; unfold D.bt; rw [if_pos hs]
    go_enter Try.func55, Try.ntmps55
    go_wp2_with fail
    refine (rclean_any _ w (by omega) (by omega)).mono ?_
    rintro e w1 ⟨rfl, rfl⟩
    go_wp2
    go_ret
    exact ⟨by rw [HK.out]; rfl, rfl⟩
  · have HK : Hid (D.bt k = D.cl (18446744073709551615 - k)) := by show _ = _; unfold D.bt; rw [if_neg hs]
    go_enter Try.func55, Try.ntmps55
    go_wp2_with fail
    refine (rclean_any _ w (by omega) (by omega)).mono ?_
    rintro e w1 ⟨rfl, rfl⟩
    go_wp2
    go_ret
    exact ⟨by rw [HK.out]; rfl, rfl⟩
end Go.Proofs.Ythcnfbjljkighaa
/- The contract of the reference's May. -/
namespace Go.Proofs.Ythcnfbjljkighaa
set_option linter.unusedVariables false
open Go.RowKit

theorem may_float2 {i : Int} {s : ByteArray} (hi : Z.I64 i) : Z.may ⟨2, i, s⟩ = (s.toList.isEmpty && (D.cl (Z.u i) == Z.u i)) := by
  rw [may_float, Bool.and_comm]
  congr 1
  unfold Z.same Z.cl
  simp
  rw [Bool.eq_iff_iff, beq_iff_eq, beq_iff_eq]
  constructor
  · intro h; rw [← Z.u_sg (D.cl_in (Z.u_in i)), h]
  · intro h; rw [h, Z.sg_u hi]
theorem may_null2 {i : Int} {s : ByteArray} : Z.may ⟨0, i, s⟩ = ((i == 0) && s.toList.isEmpty) := by
  rw [empty_of]; unfold Z.may; simp; rfl

def mayYesTbl (B : Nat) (i U C : Int) (s : ByteArray) (b : Bool) : List (Nat × V.Ent) :=
   [(1, V.Ent.is (.pointer (some ⟨B, 0, none⟩))),
    (22, V.Ent.is (.pointer (some ⟨B, 2, none⟩))),
    (23, V.Ent.is (.string s)),
    (24, V.Ent.is (.bool true)),
    (25, V.Ent.is (.bool true)),
    (26, V.Ent.is (.pointer (some ⟨B, 1, none⟩))),
    (27, V.Ent.is (.int .i64 i)),
    (28, V.Ent.is (.int .u64 U)),
    (29, V.Ent.is (.int .u64 C)),
    (30, V.Ent.is (.pointer (some ⟨B, 1, none⟩))),
    (31, V.Ent.is (.int .i64 i)),
    (32, V.Ent.is (.int .u64 U)),
    (33, V.Ent.is (.bool b)),
    (34, V.Ent.is (.bool b)),
    (2, V.Ent.is (.bool b))]

def mayNoTbl (B : Nat) (i U C : Int) (s : ByteArray) (b : Bool) : List (Nat × V.Ent) :=
   [(1, V.Ent.is (.pointer (some ⟨B, 0, none⟩))),
    (22, V.Ent.is (.pointer (some ⟨B, 2, none⟩))),
    (23, V.Ent.is (.string s)),
    (24, V.Ent.is (.bool false)),
    (25, V.Ent.is (.bool false)),
    (26, V.Ent.is (undef)),
    (27, V.Ent.is (undef)),
    (28, V.Ent.is (undef)),
    (29, V.Ent.is (undef)),
    (30, V.Ent.is (undef)),
    (31, V.Ent.is (undef)),
    (32, V.Ent.is (undef)),
    (33, V.Ent.is (undef)),
    (34, V.Ent.is (.bool false)),
    (2, V.Ent.is (.bool false))]

set_option maxHeartbeats 1000000 in
theorem umay_f (i : Int) (s : ByteArray) (w : World) (hi : Z.I64 i) : Calls Try.prog 29 #[.agg #[.int .i64 2, .int .i64 i, .string s]] w fun e w' => e = .returned (.bool (Z.may ⟨2, i, s⟩)) ∧ Below w.heap.size w w' := by
  have HM := hide (may_float2 (s := s) hi)
  have hU : IntKind.u64.wrap i = Z.u i := u64_wrap i
  have HI := Z.u_in i
  obtain ⟨b, hb⟩ : ∃ b, (D.cl (Z.u i) == Z.u i) = b := ⟨_, rfl⟩
  rw [hb] at HM
  have HC := hide fun w => rclean_any _ w HI.1 HI.2
  obtain ⟨U, hU2⟩ : ∃ U, Z.u i = U := ⟨_, rfl⟩
  rw [hU2] at hU hb HI HC
  obtain ⟨C, hC⟩ : ∃ C, D.cl U = C := ⟨_, rfl⟩
  rw [hC] at hb HC
  clear hU2 hC
  have hA := At.new w 2 i s
  cases hs : s.toList.isEmpty with
  | false =>
    rw [hs] at HM
    go_enter Try.func29, Try.ntmps29
    go_wp2_with fail
    refine V.wp_region2 (w0 := w.alloc (.cells #[.int .i64 2, .int .i64 i, .string s] 41)) [22, 23, 24, 25, 26, 27, 28, 29, 30, 31, 32, 33, 34, 2] [1] (mayNoTbl w.heap.size i U C s b) rfl (by kernel_rfl) (by kernel_rfl) (Below.refl _ _) ?hb ?hs ?hd
    case hb =>
      intro d hd
      simp only [List.mem_cons, List.not_mem_nil, or_false] at hd
      rcases hd with rfl <;> rfl
    case hs =>
      refine ⟨?_, ?_, ?_, ?_, ?_, ?_, ?_, ?_, ?_, ?_, ?_, ?_, ?_, ?_, trivial⟩
      · exact V.Step.field (.inl rfl) rfl rfl (by omega) (fun _ h => by cases h; rfl)
      · exact V.Step.loadS (.inl rfl) rfl rfl Try.underlying9 (V.At.lt hA) hA.cells.2.2 (fun _ h => by cases h; rfl)
      · exact V.Step.bin (v1 := .string s) (v2 := .string { data := #[] }) (v := .bool false) (.inl rfl) rfl (.inl ⟨_, rfl⟩) (.inr ⟨_, rfl⟩) rfl rfl (fun w => ⟨rfl, by simp [go_sem]; simpa using hs⟩) (fun _ h => by cases h; rfl)
      · exact V.Step.move (.inl rfl) (.inl rfl) (.inl ⟨_, rfl⟩) (fun _ h => by cases h; rfl)
      · exact V.Step.skip (.inl ⟨_, _, rfl, rfl, .inl rfl⟩) (fun _ h => by cases h; rfl)
      · exact V.Step.skip (.inl ⟨_, _, rfl, rfl, .inl rfl⟩) (fun _ h => by cases h; rfl)
      · exact V.Step.skip (.inl ⟨_, _, rfl, rfl, .inl rfl⟩) (fun _ h => by cases h; rfl)
      · exact V.Step.skip (.inl ⟨_, _, rfl, rfl, .inl rfl⟩) (fun _ h => by cases h; rfl)
      · exact V.Step.skip (.inl ⟨_, _, rfl, rfl, .inl rfl⟩) (fun _ h => by cases h; rfl)
      · exact V.Step.skip (.inl ⟨_, _, rfl, rfl, .inl rfl⟩) (fun _ h => by cases h; rfl)
      · exact V.Step.skip (.inl ⟨_, _, rfl, rfl, .inl rfl⟩) (fun _ h => by cases h; rfl)
      · exact V.Step.skip (.inl ⟨_, _, rfl, rfl, .inl rfl⟩) (fun _ h => by cases h; rfl)
      · exact V.Step.pick (b := false) (.inl rfl) rfl ⟨_, rfl, rfl⟩ (.inr ⟨_, rfl⟩) (fun _ h => by cases h; rfl)
      · exact V.Step.move (.inl rfl) (.inr rfl) (.inl ⟨_, rfl⟩) (fun _ h => by cases h; rfl)
    case hd =>
      intro vs w1 hw1 hk
      have h2 : vs 2 = .bool false := hk 13 _ 2 rfl rfl
      simp only [V.puts, List.foldl_cons, List.foldl_nil, h2, Act.put, List.setIfInBounds_toArray, List.set_cons_zero, List.set_cons_succ]
      go_wp2
      go_ret
      exact ⟨by rw [HM.out]; rfl, bthen (below_one w _) hw1⟩
  | true =>
    rw [hs] at HM
    go_enter Try.func29, Try.ntmps29
    go_wp2_with fail
    refine V.wp_region2 (w0 := w.alloc (.cells #[.int .i64 2, .int .i64 i, .string s] 41)) [22, 23, 24, 25, 26, 27, 28, 29, 30, 31, 32, 33, 34, 2] [1] (mayYesTbl w.heap.size i U C s b) rfl (by kernel_rfl) (by kernel_rfl) (Below.refl _ _) ?hb ?hs ?hd
    case hb =>
      intro d hd
      simp only [List.mem_cons, List.not_mem_nil, or_false] at hd
      rcases hd with rfl <;> rfl
    case hs =>
      refine ⟨?_, ?_, ?_, ?_, ?_, ?_, ?_, ?_, ?_, ?_, ?_, ?_, ?_, ?_, trivial⟩
      · exact V.Step.field (.inl rfl) rfl rfl (by omega) (fun _ h => by cases h; rfl)
      · exact V.Step.loadS (.inl rfl) rfl rfl Try.underlying9 (V.At.lt hA) hA.cells.2.2 (fun _ h => by cases h; rfl)
      · exact V.Step.bin (v1 := .string s) (v2 := .string { data := #[] }) (v := .bool true) (.inl rfl) rfl (.inl ⟨_, rfl⟩) (.inr ⟨_, rfl⟩) rfl rfl (fun w => ⟨rfl, by simp [go_sem]; simpa using hs⟩) (fun _ h => by cases h; rfl)
      · exact V.Step.move (.inl rfl) (.inl rfl) (.inl ⟨_, rfl⟩) (fun _ h => by cases h; rfl)
      · exact V.Step.field (.inr ⟨_, _, _, rfl, rfl, rfl⟩) rfl rfl (by omega) (fun _ h => by cases h; rfl)
      · exact V.Step.loadI (.inr ⟨_, _, _, rfl, rfl, rfl⟩) rfl rfl Try.underlying2 (V.At.lt hA) hA.cells.2.1 (fun _ h => by cases h; rfl)
      · exact V.Step.conv (v := .int .u64 U) (.inr ⟨_, _, _, rfl, rfl, rfl⟩) rfl rfl (fun w => by simp [go_sem, hU]) (fun _ h => by cases h; rfl)
      · exact V.Step.call1 (.inr ⟨_, _, _, rfl, rfl, rfl⟩) rfl rfl Try.func46 (by decide +kernel) rfl (fun w1 hw1 => (HC.out w1).mono (by rintro e w9 ⟨rfl, rfl⟩; exact ⟨_, rfl, Below.refl _ _, fun d h => by cases h; rfl⟩))
      · exact V.Step.field (.inr ⟨_, _, _, rfl, rfl, rfl⟩) rfl rfl (by omega) (fun _ h => by cases h; rfl)
      · exact V.Step.loadI (.inr ⟨_, _, _, rfl, rfl, rfl⟩) rfl rfl Try.underlying2 (V.At.lt hA) hA.cells.2.1 (fun _ h => by cases h; rfl)
      · exact V.Step.conv (v := .int .u64 U) (.inr ⟨_, _, _, rfl, rfl, rfl⟩) rfl rfl (fun w => by simp [go_sem, hU]) (fun _ h => by cases h; rfl)
      · exact V.Step.bin (v1 := .int .u64 C) (v2 := .int .u64 U) (v := .bool b) (.inr ⟨_, _, _, rfl, rfl, rfl⟩) rfl (.inl ⟨_, rfl⟩) (.inl ⟨_, rfl⟩) rfl rfl (fun w => ⟨rfl, by rw [V.eql_int _ .u64 _ _ Try.underlying58, hb]⟩) (fun _ h => by cases h; rfl)
      · exact V.Step.pick (b := true) (.inl rfl) rfl ⟨_, rfl, rfl⟩ (.inl ⟨_, rfl⟩) (fun _ h => by cases h; rfl)
      · exact V.Step.move (.inl rfl) (.inr rfl) (.inl ⟨_, rfl⟩) (fun _ h => by cases h; rfl)
    case hd =>
      intro vs w1 hw1 hk
      have h2 : vs 2 = .bool b := hk 13 _ 2 rfl rfl
      simp only [V.puts, List.foldl_cons, List.foldl_nil, h2, Act.put, List.setIfInBounds_toArray, List.set_cons_zero, List.set_cons_succ]
      go_wp2
      go_ret
      exact ⟨by rw [HM.out]; rfl, bthen (below_one w _) hw1⟩
theorem umay_any (k i : Int) (s : ByteArray) (w : World) (hi : Z.I64 i) : Calls Try.prog 29 #[.agg #[.int .i64 k, .int .i64 i, .string s]] w fun e w' => e = .returned (.bool (Z.may ⟨k, i, s⟩)) ∧ Below w.heap.size w w' := by
  by_cases k2 : k = 2
  · subst k2
    exact umay_f i s w hi
  · by_cases k1 : k = 1
    · subst k1
      have HM : Hid (Z.may ⟨1, i, s⟩ = s.toList.isEmpty) := may_int
      go_enter Try.func29, Try.ntmps29
      go_wp2
      go_ret
      exact ⟨by rw [HM.out]; rfl, below_one _ _⟩
    · by_cases k3 : k = 3
      · subst k3
        have HM : Hid (Z.may ⟨3, i, s⟩ = ((i == 0) && decide ((s.size : Int) ≤ 1024))) := may_text
        cases hi0 : (i == 0) with
        | true =>
          rw [hi0] at HM
          go_enter Try.func29, Try.ntmps29
          go_wp2
          go_ret
          exact ⟨by rw [HM.out]; rfl, below_one _ _⟩
        | false =>
          rw [hi0] at HM
          go_enter Try.func29, Try.ntmps29
          go_wp2
          go_ret
          exact ⟨by rw [HM.out]; rfl, below_one _ _⟩
      · by_cases k0 : k = 0
        · subst k0
          have HM : Hid (Z.may ⟨0, i, s⟩ = ((i == 0) && s.toList.isEmpty)) := may_null2
          cases hi0 : (i == 0) with
          | true =>
            rw [hi0] at HM
            go_enter Try.func29, Try.ntmps29
            go_wp2
            go_ret
            exact ⟨by rw [HM.out]; rfl, below_one _ _⟩
          | false =>
            rw [hi0] at HM
            go_enter Try.func29, Try.ntmps29
            go_wp2
            go_ret
            exact ⟨by rw [HM.out]; rfl, below_one _ _⟩
        · have HM : Hid (Z.may ⟨k, i, s⟩ = false) := may_else k0 k1 k2 k3
          go_enter Try.func29, Try.ntmps29
          go_wp2
          go_ret
          exact ⟨by rw [HM.out]; rfl, below_one _ _⟩
end Go.Proofs.Ythcnfbjljkighaa

/- Arrays of numbers held against each other; parts of slices, as laws at the operation. -/
import Derived.Test.YtmobcabkaodjoaaH6
import Derived.Test.YtmobcabkaodjoaaV4
import Derived.ChangeKeysEq
namespace Go.Proofs.Ytmobcabkaodjoaa
set_option linter.unusedVariables false
open Go.RowKit

theorem items_eq {P : Program} {d : Nat} {e : TypeId} {k : IntKind} (he : P.underlying e = some (.int k)) (xs ys : Array Value) (x y : Nat → Int) (w : World) : ∀ (is : List Nat), (∀ i ∈ is, xs[i]? = some (.int k (x i)) ∧ ys[i]? = some (.int k (y i))) →
    (Op.eqItems (d + 1) e 1 xs ys is).run P w = .ok (is.all fun i => x i == y i) w
  | [], _ => by simp [Op.eqItems]
  | i :: is, h => by
    obtain ⟨h1, h2⟩ := h i (by simp)
    have hp : P.plainKey e = true := by simp [Program.plainKey, he]
    have ih := items_eq (d := d) he xs ys x y w is fun j hj => h j (by simp [hj])
    simp only [Op.eqItems, Sem.run_bind, Nat.mul_one, run_part_plain w hp h1, run_part_plain w hp h2, Result.andThen_ok, run_equalIn_int w d e k k _ _ he, List.all_cons]
    by_cases hxy : x i = y i
    · simp [hxy, ih]
    · simp [hxy]
theorem arr_eq {P : Program} {t e : TypeId} {n : Nat} {k : IntKind} {i0 : TypeInfo} (hu : P.underlying t = some (.array n e)) (hi : P.info? e = some i0) (he : P.underlying e = some (.int k)) (hc : P.cellsOf e = 1) (xs ys : Array Value) (x y : Nat → Int) (w : World) (h : ∀ i, i < n → xs[i]? = some (.int k (x i)) ∧ ys[i]? = some (.int k (y i))) :
    (Op.equalIn 10000 t (.agg xs) (.agg ys)).run P w = .ok ((List.range n).all fun i => x i == y i) w := by
  rw [show (10000 : Nat) = 9999 + 1 from rfl, run_equalIn_array w 9999 xs ys hu hi, hc]
  exact items_eq (d := 9998) he xs ys x y w _ fun i hi => h i (by simpa using hi)

theorem B8_at (l : List Nat) (i : Nat) (h : i < l.length) : (B8 l).toArray[i]? = some (.int .u8 ((l.getD i 0 : Nat) : Int)) := by
  simp [B8, List.getD, h]
theorem all_getD (l m : List Nat) (h : l.length = m.length) : ((List.range l.length).all fun i => ((l.getD i 0 : Nat) : Int) == ((m.getD i 0 : Nat) : Int)) = decide (l = m) := by
  rw [Bool.eq_iff_iff]
  simp only [List.all_eq_true, List.mem_range, beq_iff_eq, decide_eq_true_eq]
  constructor
  · intro hh
    apply List.ext_getElem h
    intro i h1 h2
    have := hh i h1
    simp [List.getD, h1, h2] at this
    omega
  · rintro rfl i _; rfl
theorem four_neq (l m : List Nat) (hl : l.length = 4) (hm : m.length = 4) (w : World) : (binOp .neq 50 (.agg (B8 l).toArray) (.agg (B8 m).toArray)).run Try.prog w = .ok (.bool (!decide (l = m))) w := by
  obtain ⟨i0, hi, hz0, hz1, hz2⟩ := info_parts Try.infoU8
  rw [run_neq_struct, arr_eq (n := 4) Try.underlying50 hi Try.underlying5 (by kernel_rfl) _ _ (fun i => ((l.getD i 0 : Nat) : Int)) (fun i => ((m.getD i 0 : Nat) : Int)) w (fun i hi => ⟨B8_at l i (by omega), B8_at m i (by omega)⟩)]
  have := all_getD l m (by omega)
  rw [hl] at this
  rw [this]
  rfl
theorem four_guard (x y : Operand) (xs ys : Array Value) (w : World) : (eqGuard .neq 50 x y (.agg xs) (.agg ys)).run Try.prog w = .ok () w :=
  run_eqGuard_agg w .neq 50 x y xs ys (by kernel_rfl)

/-- What stands behind the first so many bytes. -/
theorem wpList_rest {w : World} {ops : Array Oper} {rest : List Oper} {o : Oper} {a : Act} {Q : Exit → Act → World → Prop} (hgd : o.guard = none) (s p : Operand) (ho : o.op = .slice 22 s (some p) none none)
    (ao : Option Addr) (len cap : Nat) (hs : a.eval s = .slice ao len cap) (k : Int) (hp : a.eval p = .int .i64 k) (l : List Nat) (hsl : Sl w .u8 ao len cap (ints l)) (hk0 : 0 ≤ k) (hk : k.toNat ≤ len)
    (h : ∀ ao' cap', Sl w .u8 ao' (len - k.toNat) cap' (ints (l.drop k.toNat)) → wpList Try.prog ops Q rest (a.put o.dst (.slice ao' (len - k.toNat) cap')) w) : wpList Try.prog ops Q (o :: rest) a w := by
  refine wpList_plain hgd fun K hK => ?_
  obtain ⟨i, rfl⟩ := Int.eq_ofNat_of_zero_le hk0
  rw [Int.toNat_natCast] at hk h
  have hc := hsl.2.1
  have hr := run_slice_l (P := Try.prog) w 22 ao len cap V.under_bytes .i64 (i : Int) (by omega) (by omega)
  rw [V.elem_bytes, V.size_u8] at hr
  simp only [Result.andThen_ok, Int.toNat_natCast, sliced] at hr
  have hr2 := run_sliceAt_slice (P := Try.prog) w 22 (.slice ao len cap) (some (.int .i64 (i : Int))) none none V.under_bytes
  have hsl2 := hsl.part i len hk (Nat.le_refl _)
  rw [List.take_of_length_le (by rw [hsl.1]; exact Nat.le_refl _), ← ints_drop] at hsl2
  unfold Oper.wp
  simp only [execOp, ho, hs, hp, Option.map_some, Option.map_none]
  simp only [Nat.mul_one] at hsl2
  simp [hr2, hr]
  exact hK _ _ (h _ _ hsl2)

/-- An array of four bytes, read. -/
theorem V.Step.load4 {ops : Array Oper} {Q : Exit → Act → World → Prop} {tbl : List (Nat × V.Ent)} {w0 : World} {o : Oper} {s B : Nat} {C : Array Value} {t : TypeId} (hw : V.Wants tbl ops o) (ho : o.op = .load 50 (.tmp s)) (hs : V.get tbl s = V.Ent.is (.pointer (some ⟨B, 0, none⟩))) (hB : w0.heap[B]? = some (.cells C t (0, 0))) (hC : C.size = 4) (hd : ∀ d, o.dst = some d → V.get tbl d = V.Ent.is (.agg C)) : V.Step Try.prog ops Q tbl w0 o := by
  refine V.Step.value hw fun a w hb hk => ⟨.agg C, ?_, fun d h => by rw [hd d h]; rfl⟩
  have h1 : a.eval (.tmp s) = .pointer (some ⟨B, 0, none⟩) := by
    have := hk s (V.looks_op (by rw [ho]; simp [Op.operands]))
    rwa [hs] at this
  have h2 : w.heap[B]? = some (.cells C t (0, 0)) := by rw [hb.block B (lt_of_block hB)]; exact hB
  unfold execOp
  simp only [ho, h1, Instr.loadAt, Instr.sureAddr, Sem.run_bind, Sem.run_pure, Result.andThen_ok, run_loadVar_row w B t 50 C (0, 0) (.array 4 5) h2 Try.underlying50 rfl (by rw [hC]; exact (zero_of_info Try.infoFour).2)]
def entTab (f : Nat → Nat) : V.Ent := ⟨fun v _ => ∃ C, v = .agg C ∧ Tab f C, fun _ h => h⟩
theorem splice_whole (Z cs : List Value) (h : Z.length = cs.length) : splice Z 0 cs = cs := by simp [splice, h]
end Go.Proofs.Ytmobcabkaodjoaa

/- A row of values cut at its head; an append in place in a region that draws its order. -/
import Derived.Test.YtbgofbajihdjdaaTE
import Derived.Test.YtbgofbajihdjdaaT8
namespace Go.Proofs.Ytbgofbajihdjdaa
set_option linter.unusedVariables false
open Go.RowKit

theorem size_val (w : World) : (sizeOf 44).run Try.prog w = .ok 3 w := by
  have h : (Try.prog.info? 44).map (·.size) = some 3 := by kernel_rfl
  cases hq : Try.prog.info? 44 with
  | none => rw [hq] at h; simp at h
  | some i => rw [hq] at h; simp at h; simp [sizeOf, typeInfo, hq, h]
theorem elem_vals : Try.prog.elem 22 = 44 := by kernel_rfl
theorem under_vals : Try.prog.underlying 22 = some (.slice (Try.prog.elem 22)) := by rw [elem_vals]; exact Try.underlying22
theorem rest_V {w : World} {ao : Option Addr} {len cap : Nat} {l : List Z.V} (h : SlV w ao len cap l) {K : Nat} (hK : K ≤ len) : ∃ qa, SlV w qa (len - K) (cap - K) (l.drop K) ∧
    (∀ w : World, (Instr.slice 22 (.slice ao len cap) (some (.int .i64 (K : Int))) none none).run Try.prog w = .ok (.slice qa (len - K) (cap - K)) w) ∧
    (∀ w : World, (Instr.sliceAt 22 (.slice ao len cap) (some (.int .i64 (K : Int))) none none).run Try.prog w = .ok (.slice qa (len - K) (cap - K)) w) := by
  obtain ⟨h1, h2, h3, h4, h5⟩ := h
  have hr : ∀ w : World, (Instr.slice 22 (.slice ao len cap) (some (.int .i64 (K : Int))) none none).run Try.prog w = .ok (.slice (if cap = K then ao else ao.map (·.add (K * 3))) (len - K) (cap - K)) w := fun w => by
    have hr := run_slice_l (P := Try.prog) w 22 ao len cap under_vals .i64 (K : Int) (by omega) (by omega)
    rw [elem_vals, size_val] at hr
    simp only [Result.andThen_ok, Int.toNat_natCast, sliced] at hr
    exact hr
  refine ⟨_, ?_, hr, fun w => ?_⟩
  · refine ⟨by rw [List.length_drop, h1], by omega, by omega, ?_, ?_⟩
    · split
      · intro _; omega
      · intro e
        cases ao with
        | none => have := h4 rfl; omega
        | some x => simp at e
    · by_cases hc : cap = K
      · exact .inl (by omega)
      · rw [if_neg hc]
        rcases h5 with h5 | ⟨b, off, rfl, hlt, h5⟩
        · exact .inl (by omega)
        · refine .inr ⟨b, off + K * 3, by simp [Addr.add], hlt, fun j x hx => ?_⟩
          rw [List.getElem?_drop] at hx
          have h6 := h5 _ _ hx
          rw [show off + (K + j) * 3 = off + K * 3 + j * 3 by omega] at h6
          exact h6
  · rw [run_sliceAt_slice (P := Try.prog) w 22 (.slice ao len cap) (some (.int .i64 (K : Int))) none none under_vals]; exact hr w
theorem join_len (bs : List Bool) (l : List Z.V) (h : l.length + cntT bs ≠ bs.length) : joinE bs l = 4 := by
  unfold joinE joinOk
  have : (l.length + cntT bs == bs.length) = false := by simpa using h
  rw [this]
  rfl
theorem join_any (bs : List Bool) (l : List Z.V) (h : anyN l = true) : joinE bs l = 4 := by
  unfold joinE joinOk
  rw [h]
  simp
theorem join_yes (bs : List Bool) (l : List Z.V) (h : l.length + cntT bs = bs.length) (h2 : anyN l = false) : joinE bs l = 0 := by
  unfold joinE joinOk
  rw [h2, h]
  simp
theorem anyN_rep (n : Nat) (v : Z.V) (h : (v.k == 0) = false) : anyN (List.replicate n v) = false := by
  unfold anyN
  rw [List.any_eq_false]
  intro x hx
  rw [List.eq_of_mem_replicate hx, h]
  simp
theorem anyN_set (l : List Z.V) (h : 0 < l.length) : anyN (l.set 0 Z.z0) = true := by
  cases l with
  | nil => simp at h
  | cons x l => rfl
namespace V
variable {ops : Array Oper} {Q : Exit → Act → World → Prop} {tbl : List (Nat × Ent)} {w0 : World} {o : Oper}
/-- Something, and a number. -/
def Ent.tupE (E : Int) : Ent := ⟨fun v _ => ∃ x, v = .tuple #[x, .int .i64 E], fun _ h => h⟩
def Ent.any : Ent := ⟨fun _ _ => True, fun _ h => h⟩
theorem Step.extA {s : Nat} {E : Int} (hw : Wants tbl ops o) (ho : o.op = .extract (.tmp s) 0) (hs : get tbl s = Ent.tupE E) (hd : ∀ d, o.dst = some d → get tbl d = Ent.any) : Step Try.prog ops Q tbl w0 o := by
  refine Step.value hw fun a w hb hk => ?_
  have h1 := hk s (looks_op (by rw [ho]; simp [Op.operands]))
  rw [hs] at h1
  obtain ⟨x, h1⟩ := h1
  refine ⟨x, ?_, fun d h => by rw [hd d h]; trivial⟩
  simp only [execOp, ho, h1]
  simp [go_sem]
theorem Step.extE {s : Nat} {E : Int} (hw : Wants tbl ops o) (ho : o.op = .extract (.tmp s) 1) (hs : get tbl s = Ent.tupE E) (hd : ∀ d, o.dst = some d → get tbl d = Ent.is (.int .i64 E)) : Step Try.prog ops Q tbl w0 o := by
  refine Step.value hw fun a w hb hk => ?_
  have h1 := hk s (looks_op (by rw [ho]; simp [Op.operands]))
  rw [hs] at h1
  obtain ⟨x, h1⟩ := h1
  refine ⟨.int .i64 E, ?_, fun d h => by rw [hd d h]; rfl⟩
  simp only [execOp, ho, h1]
  simp [go_sem]
/-- An append in place, where all that stays alive are plain values. -/
theorem Touch.appV {bs al : List Nat} {jx j : Nat} {s x : Nat} {l news : List Z.V} {m : Nat} (hg : o.guard = none) (ho : o.op = .call { callee := .builtin .append, args := #[.tmp s, .tmp x], argTypes := #[22, 22] })
    (hs : get tbl s = Ent.ownV w0.heap.size l) (hx : get tbl x = Ent.slV m news) (hlim : (l.length + m) * 32 ≤ 140737488355328) (hd : ∀ d, o.dst = some d → get tbl d = Ent.ownV w0.heap.size (l ++ news)) (hfr : ∀ d, d ∈ bs ∨ d ∈ al → ∃ y, get tbl d = Ent.is y) :
    Touch Try.prog ops Q tbl bs al w0 (fun _ _ => True) jx j o := by
  intro a w hb hk
  have h1 : OwnV w w0.heap.size (a.eval (.tmp s)) l := by
    have := hk s (looks_op (by rw [ho]; simp [Op.operands, Call.operands]))
    rwa [hs] at this
  have h2 := hk x (looks_op (by rw [ho]; simp [Op.operands, Call.operands]))
  rw [hx] at h2
  obtain ⟨ao, c, h2, hsl⟩ := h2
  refine ⟨hg, wp_of_list (ops := ops) hg (wpList_appV hg (.tmp s) (.tmp x) ho w0.heap.size _ l rfl h1 ao m c news h2 hsl hlim hb.size ?_)⟩
  intro v' w' ho' has _
  refine ⟨rfl, has.below hb.size (fun k hk => (owns_lt h1 hk).1), ⟨v', rfl, fun d hdd => by rw [hd d hdd]; exact ho'⟩, fun d hdd v hp => ?_, fun _ => trivial⟩
  obtain ⟨y, hy⟩ := hfr d hdd
  rw [hy] at hp ⊢
  exact hp
end V
end Go.Proofs.Ytbgofbajihdjdaa

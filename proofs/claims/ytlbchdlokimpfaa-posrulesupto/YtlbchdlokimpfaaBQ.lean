/- What a state of the model that a call may begin in says of the table that bits are looked up in. -/
import Derived.Test.YtlbchdlokimpfaaRU
import Derived.Test.YtlbchdlokimpfaaB5
namespace Go.Proofs.Ytlbchdlokimpfaa
set_option linter.unusedVariables false
open Go.ChangeShapes Go.WideShapes Go.ChangeAt Go.RowKit

theorem Cell.u8_of {w : World} {n : Nat} {t : TypeId} {v : Value} (hu : Try.prog.underlying t = some (.int .u8)) (h : Cell.ok Try.prog w .any n t v) : ∃ x, v = .int .u8 x := by
  unfold Cell.ok at h
  rw [hu] at h
  cases v <;> first | (simp at h; done) | skip
  rename_i k x
  cases k <;> first | exact ⟨_, rfl⟩ | (simp at h; done)
theorem tab_of_shape {w : World} (h : w.ShapedOpen Try.prog) : ∃ tb, TabAt w tb := by
  obtain ⟨cs, hh, hs, hr⟩ := h.1 0 (Array.replicate 64 (.int .u8 0)) 108 (of_decide_eq_true (by kernel_rfl)) (by kernel_rfl)
  obtain ⟨ts, hts, hsz, hall⟩ := hr (by kernel_rfl)
  have e : Try.prog.cellTypes Try.prog.depth 108 = some (List.replicate 64 5) := by kernel_rfl
  rw [e] at hts
  cases hts
  have hs64 : cs.size = 64 := by simpa using hs
  have hlt : 0 < w.heap.size := (Array.getElem?_eq_some_iff.1 hh).1
  have hc : ∀ i (hi : i < 64), ∃ x, cs[i]'(by omega) = .int .u8 x := fun i hi => by
    obtain ⟨u, hu, hok⟩ := hall i (cs[i]'(by omega)) (by simp)
    have : u = 5 := List.eq_of_mem_replicate (List.mem_of_getElem? hu)
    subst this
    exact Cell.u8_of Try.underlying5 hok
  refine ⟨fun i => if hi : i < 64 then (hc i hi).choose else 0, hlt, fun i hi => ?_⟩
  have h2 := (hc i hi).choose_spec
  simp only [dif_pos hi]
  rw [← h2]
  simp [World.cell?, hh, hs64, hi]
/-- A row's proof, where what is asked of the state is handed on. -/
theorem handed_shaped {H : Type} {enc : TypeId × Value → H} {a : Assume} {C : Checked} {os : Os} {f : FuncId} {fn : Func} {s : ChangeSpec} {conds : List PathCond} {apart fresh handsOn again : Bool}
    (own : ownKnob C.prog.godebug = none) (started : os.Started) (noInit : C.prog.inits.idxOf? f = none) (hfn : C.prog.funcs[f]? = some fn)
    (witness : ∃ (w : World) (tape : Tape) (i : Input), w.os = os ∧ (w.forCall tape i).Shaped C.prog ∧ i.vars = [] ∧ Input.okWide C.prog (w.forCall tape i) .any w.heap.size f i ∧
      s.pre6 enc C.prog fn conds apart (w.forCall tape i).memory i.args ∧ a.holds C.prog (lone (Frame.enter C.prog f i.args .normal) [] (w.forCall tape i)))
    (contract : ∀ (W : World) (base : Nat) (args : Array Value) (ds gs : List (DataW H)) (before : List MemPlace),
      W.ShapedOpen C.prog →
      (∀ (j : Nat) t v, fn.params[j]? = some t → args[j]? = some v → Value.okWide C.prog W .any base t v) →
      DataW.Whole enc C.prog fn.params.toList s.vars apart W args.toList ds gs before →
      conds.all (PathCond.test C.prog ⟨fn.params.toList, ds, s.plain.varTypes C.prog, gs⟩) = true →
      (DataW.weightsEach C.prog (fn.params.toList ++ s.plain.varTypes C.prog) (ds ++ gs)).all (· ≤ reachBytes) = true →
      a.holds C.prog (lone (Frame.enter C.prog f args .normal) [] W) →
      Calls C.prog f args W fun e W' => ∃ v, e = .returned v ∧ s.post enc C.prog fn apart fresh handsOn again W args v W') :
    ReturnsInHanded a C os f .any (s.pre6 enc C.prog fn conds apart) (s.post enc C.prog fn apart fresh handsOn again) := by
  refine returnsInHanded_of_calls own started noInit witness ?_
  intro w tape i _ hsh _ hok hpre hholds
  obtain ⟨_, _, _, fn', hfn', _, _, _, _, hval⟩ := hok
  have e : fn' = fn := Option.some.inj (hfn'.symm.trans hfn)
  subst e
  obtain ⟨⟨ds, gs, before, hw, hc⟩, hz⟩ := hpre
  have hw' := DataW.Whole.of_heap (w' := w.forCall tape i) (by rfl) hw
  refine (contract (w.forCall tape i) w.heap.size i.args ds gs before hsh hval hw' hc (hz.weights hw) hholds).mono fun e W' ⟨v, he, hp⟩ => ?_
  subst he
  exact ChangeSpec.post_blind hp
end Go.Proofs.Ytlbchdlokimpfaa

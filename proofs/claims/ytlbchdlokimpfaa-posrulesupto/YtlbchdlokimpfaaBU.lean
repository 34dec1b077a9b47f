/- A row's proof of a second form, where what is asked of the state is handed on; two small numbers that came in by value. -/
import Derived.Test.YtlbchdlokimpfaaBQ
import Derived.Test.YtlbchdlokimpfaaUB
namespace Go.Proofs.Ytlbchdlokimpfaa
set_option linter.unusedVariables false
open Go.ChangeShapes Go.WideShapes Go.ChangeAt Go.RowKit

theorem two_un : Try.prog.underlying 50 = some (.array 2 5) := by kernel_rfl
theorem okWide_two {w : World} {r : Reach} {base : Nat} {v : Value} (h : Value.okWide Try.prog w r base 50 v) : ∃ cs, v = .agg cs ∧ cs.size = 2 := by
  simp only [Value.okWide, two_un] at h
  obtain ⟨cs, h1, h2, _⟩ := h
  exact ⟨cs, h1, h2.trans (by kernel_rfl)⟩
theorem open_two {H : Type} {enc : TypeId × Value → H} {W : World} {D : Array Value} {d : DataW H} {p : List MemPlace} (hs : D.size = 2)
    (h : DataW.Trod enc Try.prog W 0 (fun _ => true) true 50 (.agg D) d p) : ∃ r0 r1 : Int, D = #[.int .u8 r0, .int .u8 r1] ∧ (0 ≤ r0 ∧ r0 < 256) ∧ (0 ≤ r1 ∧ r1 < 256) := by
  obtain ⟨fuel, hf⟩ := h
  obtain ⟨xs, m, _, _, hl, hn, hx⟩ := DataW.trod_array two_un hf
  have hc : Try.prog.cellsOf 5 = 1 := by kernel_rfl
  have key : ∀ i, i < 2 → ∃ n : Int, D[i]? = some (.int .u8 n) ∧ 0 ≤ n ∧ n < 256 := by
    intro i hi
    have h1 := hx i hi
    rw [hc, Nat.mul_one] at h1
    have hxi : xs[i]? = some xs[i] := by simp
    rw [hxi] at h1
    obtain ⟨n, h2, _, h3⟩ := DataW.trod_int Try.underlying5 h1
    have h4 := bounds_u8 h3
    refine ⟨n, ?_, h4.1, by omega⟩
    have h5 : (Value.agg D).cells.toList = D.toList := rfl
    rw [h5] at h2
    have h6 : ((D.toList.drop i).take 1)[0]? = D[i]? := by
      rw [List.getElem?_take]; simp
    rw [h2] at h6
    simpa using h6.symm
  obtain ⟨r0, e0, a0⟩ := key 0 (by decide)
  obtain ⟨r1, e1, a1⟩ := key 1 (by decide)
  refine ⟨r0, r1, ?_, a0, a1⟩
  obtain ⟨l⟩ := D
  match l, hs, e0, e1 with
  | [x, y], _, e0, e1 => simp at e0 e1; rw [e0, e1]
/-- A row's proof, where what is asked of the state is handed on. -/
theorem handed_cond {H : Type} {enc : TypeId × Value → H} {a : Assume} {C : Checked} {os : Os} {f : FuncId} {fn : Func} {s : OpenSpec} {k : (H : Type) → List (DataW H) → Bool} (hk : s.cond = some k) {F : Stop.Interp} {conds : List PathCond} {apart fresh handsOn again : Bool}
    (own : ownKnob C.prog.godebug = none) (started : os.Started) (noInit : C.prog.inits.idxOf? f = none) (hfn : C.prog.funcs[f]? = some fn)
    (witness : ∃ (w : World) (tape : Tape) (i : Input), w.os = os ∧ (w.forCall tape i).Shaped C.prog ∧ i.vars = [] ∧ Input.okWide C.prog (w.forCall tape i) .any w.heap.size f i ∧
      s.pre6 enc C.prog fn conds apart (w.forCall tape i).memory i.args ∧ a.holds C.prog (lone (Frame.enter C.prog f i.args .normal) [] (w.forCall tape i)))
    (contract : ∀ (W : World) (base : Nat) (args : Array Value) (ds gs : List (DataW H)) (before : List MemPlace),
      W.ShapedOpen C.prog →
      (∀ (j : Nat) t v, fn.params[j]? = some t → args[j]? = some v → Value.okWide C.prog W .any base t v) →
      DataW.Whole enc C.prog fn.params.toList s.vars apart W args.toList ds gs before →
      conds.all (PathCond.test C.prog ⟨fn.params.toList, ds, s.bare.plain.varTypes C.prog, gs⟩) = true → k H (ds ++ gs) = true →
      a.holds C.prog (lone (Frame.enter C.prog f args .normal) [] W) →
      Calls C.prog f args W fun e W' => ∃ v, e = .returned v ∧ (s.at F).post enc C.prog fn apart fresh handsOn again W args v W') :
    ReturnsInHanded a C os f .any (s.pre6 enc C.prog fn conds apart) ((s.at F).post enc C.prog fn apart fresh handsOn again) := by
  refine returnsInHanded_of_calls own started noInit witness ?_
  intro w tape i _ hsh _ hok hpre hholds
  obtain ⟨_, _, _, fn', hfn', _, _, _, _, hval⟩ := hok
  have e : fn' = fn := Option.some.inj (hfn'.symm.trans hfn)
  subst e
  obtain ⟨ds, gs, before, hw, hc, hkk⟩ := (OpenSpec.pre_some hk conds apart _ _).1 hpre.1
  have hw' := DataW.Whole.of_heap (w' := w.forCall tape i) (by rfl) hw
  refine (contract (w.forCall tape i) w.heap.size i.args ds gs before hsh hval hw' hc hkk hholds).mono fun e W' ⟨v, he, hp⟩ => ?_
  subst he
  exact ChangeSpec.post_blind hp
end Go.Proofs.Ytlbchdlokimpfaa

/- What a row's step hands to the walks: a value that came in. -/
import Derived.Test.YtkcpfgjkplailaaBdT
import Derived.Test.YtkcpfgjkplailaaBdE
import Derived.Lib.SmallJoins
import Derived.Test.YtkcpfgjkplailaaBdY
namespace Go.Proofs.Ytkcpfgjkplailaa
set_option linter.unusedVariables false
open Go.ChangeShapes Go.WideShapes Go.ChangeAt Go.RowKit

theorem Try.cellsVal : Try.prog.cellsOf 42 = 3 := by kernel_rfl
set_option maxRecDepth 10000 in
theorem open_val {H : Type} {enc : TypeId × Value → H} {W : World} {base : Nat} {v : Value} {d : DataW H} {p : List MemPlace}
    (hv : Value.okWide Try.prog W .any base 42 v) (h : DataW.Trod enc Try.prog W 0 (fun _ => true) true 42 v d p) :
    ∃ (k i : Int) (s : ByteArray), v = .agg #[.int .i64 k, .int .i64 i, .string s] ∧ Z.I64 k ∧ Z.I64 i ∧ s.size ≤ maxLen ∧ d = .agg [.lit (.int .i64 k), .lit (.int .i64 i), .lit (.string s.data.toList)] := by
  obtain ⟨c0, c1, c2, y0, y1, y2, m, rfl, rfl, rfl, hy0, hy1, hy2⟩ := Joins.open_agg3 Try.underlying42 (by kernel_rfl) Try.cellsVal hv h
  obtain ⟨x, e0, rfl, wx⟩ := DataW.trod_int Try.underlying3 hy0
  obtain ⟨y, e1, rfl, wy⟩ := DataW.trod_int Try.underlying2 hy1
  obtain ⟨s, e2, rfl, ws⟩ := DataW.trod_string Try.underlying9 hy2
  simp at e0 e1 e2
  subst e0 e1 e2
  have h1 := wf_i64 wx
  have h2 := wf_i64 wy
  exact ⟨x, y, s, rfl, h1, h2, ws, rfl⟩
end Go.Proofs.Ytkcpfgjkplailaa

/- The contract of leb's caught: whatever work does; then of Get. -/
import Derived.Test.YtahpbenobhodnaaE3
import Derived.Defers
import Derived.Recover
import Derived.Laws.Pointers
namespace Go.Proofs.Ytahpbenobhodnaa
set_option linter.unusedVariables false
open Go.RowKit

theorem catch_panicking (p : Addr) (x k : Int) (older : List PanicEntry) (w : World) (hc : w.cell? p = some (.int .i64 x)) (hz : w.frozen? p = false) :
    CallsD Try.prog 60 #[.pointer (some p)] (.panicking ({ v := .iface 26 (.int .i64 k), recovered := false } :: older)) w fun e u' w' =>
      e = .returned (.tuple #[]) ∧ u' = .panicking ({ v := .iface 26 (.int .i64 k), recovered := true } :: older) ∧ w' = w.setCell p (.int .i64 k) := by
  have hta : ∀ w : World, (Instr.typeAssert (.iface 26 (.int .i64 k)) 20 26 false).run Try.prog w = .ok (.int .i64 k) w := fun w => by simp [Instr.typeAssert]
  refine callsD_of_wpS Try.func60 rfl fun c₀ cs hu => ?_
  apply wpS_seq
  apply wpS_region
  simp [wpOpsS, go_sem, recoverD, hu, Try.ntmps60, Exit.thenS]
  refine wpS_of_wp ?_
  go_wp2
  cases c₀
  simp_all [bodyPostS, results, Try.results60]

theorem catch_idle (p : Addr) (w : World) :
    CallsD Try.prog 60 #[.pointer (some p)] .returning w fun e u' w' => e = .returned (.tuple #[]) ∧ u' = .returning ∧ w' = w := by
  refine callsD_of_wpS Try.func60 rfl fun c₀ cs hu => ?_
  apply wpS_seq
  apply wpS_region
  simp [wpOpsS, go_sem, recoverD, hu, Try.ntmps60, Exit.thenS]
  refine wpS_of_wp ?_
  go_wp2
  cases c₀
  simp_all [bodyPostS, results, Try.results60]

theorem caught_any (k : Nat) (caps : Array Value) (w : World) (R : Int → World → Prop) (hcf : ∀ w : World, (callFunc k caps).run Try.prog w = .ok (.enter k caps) w)
    (h : Calls Try.prog k caps (w.alloc (.cells #[.int .i64 0] 26)) fun e w' => ∃ er : Int, ((er = 0 ∧ e = .returned (.tuple #[])) ∨ (er ≠ 0 ∧ e = pan er)) ∧ w'.heap[w.heap.size]? = some (.cells #[.int .i64 0] 26 (0, 0)) ∧ R er w') :
    Calls Try.prog 54 #[.func (.func k) #[] caps] w fun e w' => ∃ er w1, R er w1 ∧ e = .returned (.int .i64 er) ∧ w' = w1.setCell ⟨w.heap.size, 0, none⟩ (.int .i64 er) := by
  have hmf : ∀ (fn : Fn) (first cap : Array Value) (w : World), (Instr.makeFunc fn first cap).run Try.prog w = .ok (.func fn first cap) w := fun _ _ _ _ => rfl
  go_enter_defers Try.func54, Try.ntmps54
  go_wp2_with fail
  refine h.mono ?_
  rintro e w1 ⟨er, he, hb, hR⟩
  have hlt := lt_of_block hb
  have hc0 : w1.cell? ⟨w.heap.size, 0, none⟩ = some (.int .i64 0) := by simp [World.cell?, hb]
  have hf0 : w1.frozen? ⟨w.heap.size, 0, none⟩ = false := by simp [World.frozen?, hb]
  rcases he with ⟨h0, rfl⟩ | ⟨h0, rfl⟩
  · have H0 := hide h0
    clear h0
    go_wp2
    refine leaves_cons (f := 60) (args := #[.pointer (some ⟨w.heap.size, 0, none⟩)]) (by simp) (by simp [go_sem]) ?_
    refine (catch_idle ⟨w.heap.size, 0, none⟩ _).mono ?_
    rintro e u' w2 ⟨rfl, rfl, rfl⟩
    simp [Leaves, settle, results, Try.results54, go_sem, hc0]
    exact ⟨er, w1, hR, by rw [H0.out], by rw [H0.out]⟩
  · unfold pan
    go_wp2
    refine leaves_cons (f := 60) (args := #[.pointer (some ⟨w.heap.size, 0, none⟩)]) (by simp) (by simp [go_sem]) ?_
    refine (catch_panicking ⟨w.heap.size, 0, none⟩ 0 er [] _ hc0 hf0).mono ?_
    rintro e u' w2 ⟨rfl, rfl, rfl⟩
    simp [Leaves, settle, results, Try.results54, go_sem, hc0]
    exact ⟨er, w1, hR, rfl, rfl⟩

theorem cell_of_heap {w : World} {p : Nat} {a : Value} {t : TypeId} (h : w.heap[p]? = some (.cells #[a] t (0, 0))) : w.cell? ⟨p, 0, none⟩ = some a ∧ w.frozen? ⟨p, 0, none⟩ = false := by
  constructor <;> simp [World.cell?, World.frozen?, h]

/-- A function value that is called: a function that has a body is entered. -/
theorem enter_fn {f : FuncId} {fn : Func} {c : Code} (hf : Try.prog.funcs[f]? = some fn) (hn : fn.name ≠ "runtime.NumGoroutine") (hb : fn.body = some c) (args : Array Value) (w : World) :
    (callFunc f args).run Try.prog w = .ok (.enter f args) w := by simp [callFunc, hf, hn, hb]
theorem heap_alloc_keep {w : World} {k : Nat} {o : Obj} (x : Obj) (h : w.heap[k]? = some o) : (w.alloc x).heap[k]? = some o := by rw [Below.heap_alloc _ _ _ (lt_of_block h)]; exact h

end Go.Proofs.Ytahpbenobhodnaa

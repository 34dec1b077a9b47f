/- The contract of leb's caught: whatever work does; then of Get. -/
import Derived.Test.YtmobcabkaodjoaaE3
import Derived.Defers
import Derived.Recover
import Derived.Laws.Pointers
namespace Go.Proofs.Ytmobcabkaodjoaa
set_option linter.unusedVariables false
open Go.RowKit

theorem catch_panicking (p : Addr) (x k : Int) (older : List PanicEntry) (w : World) (hc : w.cell? p = some (.int .i64 x)) (hz : w.frozen? p = false) :
    CallsD Try.prog 32 #[.pointer (some p)] (.panicking ({ v := .iface 31 (.int .i64 k), recovered := false } :: older)) w fun e u' w' =>
      e = .returned (.tuple #[]) ∧ u' = .panicking ({ v := .iface 31 (.int .i64 k), recovered := true } :: older) ∧ w' = w.setCell p (.int .i64 k) := by
  have hta : ∀ w : World, (Instr.typeAssert (.iface 31 (.int .i64 k)) 20 31 false).run Try.prog w = .ok (.int .i64 k) w := fun w => by simp [Instr.typeAssert]
  refine callsD_of_wpS Try.func32 rfl fun c₀ cs hu => ?_
  apply wpS_seq
  apply wpS_region
  simp [wpOpsS, go_sem, recoverD, hu, Try.ntmps32, Exit.thenS]
  refine wpS_of_wp ?_
  go_wp2
  cases c₀
  simp_all [bodyPostS, results, Try.results32]

theorem catch_idle (p : Addr) (w : World) :
    CallsD Try.prog 32 #[.pointer (some p)] .returning w fun e u' w' => e = .returned (.tuple #[]) ∧ u' = .returning ∧ w' = w := by
  refine callsD_of_wpS Try.func32 rfl fun c₀ cs hu => ?_
  apply wpS_seq
  apply wpS_region
  simp [wpOpsS, go_sem, recoverD, hu, Try.ntmps32, Exit.thenS]
  refine wpS_of_wp ?_
  go_wp2
  cases c₀
  simp_all [bodyPostS, results, Try.results32]

theorem caught_any (k : Nat) (caps : Array Value) (w : World) (R : Int → World → Prop) (hcf : ∀ w : World, (callFunc k caps).run Try.prog w = .ok (.enter k caps) w)
    (h : Calls Try.prog k caps (w.alloc (.cells #[.int .i64 0] 31)) fun e w' => ∃ er : Int, ((er = 0 ∧ e = .returned (.tuple #[])) ∨ (er ≠ 0 ∧ e = pan er)) ∧ w'.heap[w.heap.size]? = some (.cells #[.int .i64 0] 31 (0, 0)) ∧ R er w') :
    Calls Try.prog 28 #[.func (.func k) #[] caps] w fun e w' => ∃ er w1, R er w1 ∧ e = .returned (.int .i64 er) ∧ w' = w1.setCell ⟨w.heap.size, 0, none⟩ (.int .i64 er) := by
  have hmf : ∀ (fn : Fn) (first cap : Array Value) (w : World), (Instr.makeFunc fn first cap).run Try.prog w = .ok (.func fn first cap) w := fun _ _ _ _ => rfl
  go_enter_defers Try.func28, Try.ntmps28
  go_wp2_with fail
  refine h.mono ?_
  rintro e w1 ⟨er, he, hb, hR⟩
  have hlt := lt_of_block hb
  have hc0 : w1.cell? ⟨w.heap.size, 0, none⟩ = some (.int .i64 0) := by simp [World.cell?, hb]
  have hf0 : w1.frozen? ⟨w.heap.size, 0, none⟩ = false := by simp [World.frozen?, hb]
  rcases he with ⟨h0, rfl⟩ | ⟨h0, rfl⟩
  · have H0 := hide h0
    clear h0
    go_wp2
    refine leaves_cons (f := 32) (args := #[.pointer (some ⟨w.heap.size, 0, none⟩)]) (by simp) (by simp [go_sem]) ?_
    refine (catch_idle ⟨w.heap.size, 0, none⟩ _).mono ?_
    rintro e u' w2 ⟨rfl, rfl, rfl⟩
    simp [Leaves, settle, results, Try.results28, go_sem, hc0]
    exact ⟨er, w1, hR, by rw [H0.out], by rw [H0.out]⟩
  · unfold pan
    go_wp2
    refine leaves_cons (f := 32) (args := #[.pointer (some ⟨w.heap.size, 0, none⟩)]) (by simp) (by simp [go_sem]) ?_
    refine (catch_panicking ⟨w.heap.size, 0, none⟩ 0 er [] _ hc0 hf0).mono ?_
    rintro e u' w2 ⟨rfl, rfl, rfl⟩
    simp [Leaves, settle, results, Try.results28, go_sem, hc0]
    exact ⟨er, w1, hR, rfl, rfl⟩

theorem cell_of_heap {w : World} {p : Nat} {a : Value} {t : TypeId} (h : w.heap[p]? = some (.cells #[a] t (0, 0))) : w.cell? ⟨p, 0, none⟩ = some a ∧ w.frozen? ⟨p, 0, none⟩ = false := by
  constructor <;> simp [World.cell?, World.frozen?, h]

theorem getc_any (B1 B2 B3 : Nat) (ao : Option Addr) (len cap : Nat) (l : List Nat) (w : World) (h1 : w.heap[B1]? = some (.cells #[.slice ao len cap] 22 (0, 0))) (h2 : w.heap[B2]? = some (.cells #[.int .u64 0] 47 (0, 0))) (h3 : w.heap[B3]? = some (.cells #[.int .i64 0] 3 (0, 0))) (hne : B2 ≠ B3)
    (h : Sl w .u8 ao len cap (ints l)) (h256 : ∀ x ∈ l, x < 256) (hm : len ≤ 140737488355328) :
    Calls Try.prog 29 #[.pointer (some ⟨B1, 0, none⟩), .pointer (some ⟨B2, 0, none⟩), .pointer (some ⟨B3, 0, none⟩)] w fun e w' =>
      ((E.gE l = 0 ∧ e = .returned (.tuple #[])) ∨ (E.gE l ≠ 0 ∧ e = pan ((E.gE l : Nat) : Int))) ∧ w'.heap[B2]? = some (.cells #[.int .u64 ((E.gN l : Nat) : Int)] 47 (0, 0)) ∧ w'.heap[B3]? = some (.cells #[.int .i64 ((E.gK l : Nat) : Int)] 3 (0, 0)) ∧ Kept (fun k => k = B2 ∨ k = B3) w w' := by
  obtain ⟨c1, f1⟩ := cell_of_heap h1
  obtain ⟨c2, f2⟩ := cell_of_heap h2
  obtain ⟨c3, f3⟩ := cell_of_heap h3
  have c3' : ∀ u, (w.setCell ⟨B2, 0, none⟩ u).cell? ⟨B3, 0, none⟩ = some (.int .i64 0) := fun u => by
    rw [World.cell?_setCell_other _ _ _ _ (by intro e; injection e with e; exact hne e)]; exact c3
  have H2 := hide h2
  have H3 := hide h3
  have HN := hide hne
  have HZ := hide (E.g_zero (l := l))
  clear h1 h2 h3
  go_enter Try.func29, Try.ntmps29
  go_wp2_with fail
  refine (get_in _ _ _ l _ h h256 hm).mono ?_
  rintro e w1 ⟨⟨hg, rfl⟩ | ⟨hg, rfl⟩, rfl⟩
  · have HG := hide hg
    clear hg
    obtain ⟨n, hn⟩ : ∃ n : Int, ((E.gN l : Nat) : Int) = n := ⟨_, rfl⟩
    obtain ⟨k, hk⟩ : ∃ n : Int, ((E.gK l : Nat) : Int) = n := ⟨_, rfl⟩
    rw [hn, hk]
    have HNn := hide hn
    have HKk := hide hk
    clear hn hk
    go_wp2
    go_end0
    rw [← HNn.out, ← HKk.out]
    refine ⟨.inl ⟨HG.out, rfl⟩, ?_, ?_, Kept.setCell (Kept.setCell (Kept.refl _ _) (.inl (.inl rfl)) _) (.inl (.inr rfl)) _⟩
    · rw [Below.heap_setCell _ _ _ _ (show B2 ≠ B3 from HN.out)]; exact heap_setCell_one H2.out _
    · exact heap_setCell_one (by rw [Below.heap_setCell _ _ _ _ (show B3 ≠ B2 from fun e => HN.out e.symm)]; exact H3.out) _
  · have HG := hide hg
    clear hg
    unfold pan
    go_wp2
    obtain ⟨z1, z2⟩ := HZ.out HG.out
    rw [z1, z2]
    exact ⟨rfl, .inr ⟨HG.out, rfl⟩, H2.out, H3.out, Kept.refl _ _⟩

/-- A function value that is called: a function that has a body is entered. -/
theorem enter_fn {f : FuncId} {fn : Func} {c : Code} (hf : Try.prog.funcs[f]? = some fn) (hn : fn.name ≠ "runtime.NumGoroutine") (hb : fn.body = some c) (args : Array Value) (w : World) :
    (callFunc f args).run Try.prog w = .ok (.enter f args) w := by simp [callFunc, hf, hn, hb]
theorem Try.enterGetC (args : Array Value) (w : World) : (callFunc 29 args).run Try.prog w = .ok (.enter 29 args) w :=
  enter_fn Try.func29 (by decide +kernel) rfl args w

theorem heap_alloc_keep {w : World} {k : Nat} {o : Obj} (x : Obj) (h : w.heap[k]? = some o) : (w.alloc x).heap[k]? = some o := by rw [Below.heap_alloc _ _ _ (lt_of_block h)]; exact h

set_option maxHeartbeats 400000 in
/-- Get. -/
theorem get_any (ao : Option Addr) (len cap : Nat) (l : List Nat) (w : World) (h : Sl w .u8 ao len cap (ints l)) (h256 : ∀ x ∈ l, x < 256) (hm : len ≤ 140737488355328) :
    Calls Try.prog 22 #[.slice ao len cap] w fun e w' => e = .returned (.tuple #[.int .u64 ((E.gN l : Nat) : Int), .int .i64 ((E.gK l : Nat) : Int), .int .i64 ((E.gE l : Nat) : Int)]) ∧ Below w.heap.size w w' := by
  have hmf : ∀ (fn : Fn) (first cap : Array Value) (w : World), (Instr.makeFunc fn first cap).run Try.prog w = .ok (.func fn first cap) w := fun _ _ _ _ => rfl
  go_enter Try.func22, Try.ntmps22
  go_wp2_with fail
  refine (caught_any 29 _ _ (fun er w1 => er = ((E.gE l : Nat) : Int) ∧ w1.heap[w.heap.size + 1]? = some (.cells #[.int .u64 ((E.gN l : Nat) : Int)] 47 (0, 0)) ∧ w1.heap[w.heap.size + 1 + 1]? = some (.cells #[.int .i64 ((E.gK l : Nat) : Int)] 3 (0, 0)) ∧ Below w.heap.size w w1) (Try.enterGetC _) ?h).mono ?_
  case h =>
    have b1 := heap_alloc_new w (.cells #[.slice ao len cap] 22)
    have b2 := heap_alloc_new (w.alloc (.cells #[.slice ao len cap] 22)) (.cells #[.int .u64 0] 47)
    have b3 := heap_alloc_new ((w.alloc (.cells #[.slice ao len cap] 22)).alloc (.cells #[.int .u64 0] 47)) (.cells #[.int .i64 0] 3)
    have b4 := heap_alloc_new (((w.alloc (.cells #[.slice ao len cap] 22)).alloc (.cells #[.int .u64 0] 47)).alloc (.cells #[.int .i64 0] 3)) (.cells #[.int .i64 0] 31)
    have hbel : Below w.heap.size w ((((w.alloc (.cells #[.slice ao len cap] 22)).alloc (.cells #[.int .u64 0] 47)).alloc (.cells #[.int .i64 0] 3)).alloc (.cells #[.int .i64 0] 31)) :=
      ((((Below.refl _ _).alloc (Nat.le_refl _) _).alloc (by simp) _).alloc (by simp; omega) _).alloc (by simp; omega) _
    simp only [World.size_alloc] at b2 b3 b4
    refine (getc_any _ _ _ ao len cap l _ (heap_alloc_keep _ (heap_alloc_keep _ (heap_alloc_keep _ b1))) (heap_alloc_keep _ (heap_alloc_keep _ b2)) (heap_alloc_keep _ b3) (by omega) (h.below hbel) h256 hm).mono ?_
    rintro e w1 ⟨he, e2, e3, hk⟩
    refine ⟨((E.gE l : Nat) : Int), ?_, ?_, rfl, e2, e3, hbel.trans (hk.below (by simp; omega) (by rintro k (rfl | rfl) <;> omega))⟩
    · rcases he with ⟨h0, he⟩ | ⟨h0, he⟩
      · exact .inl ⟨by rw [h0]; rfl, he⟩
      · exact .inr ⟨by omega, he⟩
    · simp only [World.size_alloc]
      rw [hk.block _ (by simp) (by omega)]
      exact b4
  rintro e w2 ⟨er, w1, ⟨her, hb2, hb3, hbel⟩, rfl, rfl⟩
  simp only [World.size_alloc]
  have s2 : (w1.setCell ⟨w.heap.size + 1 + 1 + 1, 0, none⟩ (.int .i64 er)).heap[w.heap.size + 1]? = some (.cells #[.int .u64 ((E.gN l : Nat) : Int)] 47 (0, 0)) := by rw [Below.heap_setCell _ _ _ _ (by show _ ≠ w.heap.size + 1 + 1 + 1; omega)]; exact hb2
  have s3 : (w1.setCell ⟨w.heap.size + 1 + 1 + 1, 0, none⟩ (.int .i64 er)).heap[w.heap.size + 1 + 1]? = some (.cells #[.int .i64 ((E.gK l : Nat) : Int)] 3 (0, 0)) := by rw [Below.heap_setCell _ _ _ _ (by show _ ≠ w.heap.size + 1 + 1 + 1; omega)]; exact hb3
  have hbel2 := hbel.setCell (p := ⟨w.heap.size + 1 + 1 + 1, 0, none⟩) (by show w.heap.size ≤ w.heap.size + 1 + 1 + 1; omega) (.int .i64 er)
  have HB := hide hbel2
  have HE := hide her
  obtain ⟨w3, hw3⟩ : ∃ w3, w1.setCell ⟨w.heap.size + 1 + 1 + 1, 0, none⟩ (.int .i64 er) = w3 := ⟨_, rfl⟩
  rw [hw3] at s2 s3 HB ⊢
  obtain ⟨N, hN⟩ : ∃ N : Int, ((E.gN l : Nat) : Int) = N := ⟨_, rfl⟩
  obtain ⟨K, hK⟩ : ∃ N : Int, ((E.gK l : Nat) : Int) = N := ⟨_, rfl⟩
  rw [hN] at s2
  rw [hK] at s3
  have HNN := hide hN
  have HKK := hide hK
  obtain ⟨c2, f2⟩ := cell_of_heap s2
  obtain ⟨c3, f3⟩ := cell_of_heap s3
  have c3' : ∀ u, (w3.setCell ⟨w.heap.size + 1, 0, none⟩ u).cell? ⟨w.heap.size + 1 + 1, 0, none⟩ = some (.int .i64 K) := fun u => by
    rw [World.cell?_setCell_other _ _ _ _ (by intro e; injection e with e; omega)]; exact c3
  clear hbel2 hbel hb2 hb3 her hw3 hN hK s2 s3 h h256
  go_wp2
  go_region
  go_wp2
  have c2' : ((w3.setCell ⟨w.heap.size + 1, 0, none⟩ (.int .u64 N)).setCell ⟨w.heap.size + 1 + 1, 0, none⟩ (.int .i64 K)).cell? ⟨w.heap.size + 1, 0, none⟩ = some (.int .u64 N) := by
    rw [World.cell?_setCell_other _ _ _ _ (by intro e; injection e with e; omega)]; simp [World.cell?_setCell_same, c2]
  have c4' : ((w3.setCell ⟨w.heap.size + 1, 0, none⟩ (.int .u64 N)).setCell ⟨w.heap.size + 1 + 1, 0, none⟩ (.int .i64 K)).cell? ⟨w.heap.size + 1 + 1, 0, none⟩ = some (.int .i64 K) := by
    simp [World.cell?_setCell_same, c3']
  refine bodyPost_ret (v := .tuple #[.int .u64 N, .int .i64 K, .int .i64 er]) (by simp [results, Try.results22, go_sem, c2', c4']) rfl ⟨by rw [HNN.out, HKK.out, HE.out], ?_⟩
  exact (((HB.out.setCell (p := ⟨w.heap.size + 1, 0, none⟩) (by show w.heap.size ≤ w.heap.size + 1; omega) _).setCell (p := ⟨w.heap.size + 1 + 1, 0, none⟩) (by show w.heap.size ≤ w.heap.size + 1 + 1; omega) _)).drew
end Go.Proofs.Ytmobcabkaodjoaa

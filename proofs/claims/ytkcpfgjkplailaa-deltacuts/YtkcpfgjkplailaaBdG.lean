/- The contract of leb's get. -/
import Derived.Test.YtkcpfgjkplailaaBdD
import Derived.Defers
import Derived.Recover
import Derived.Laws.Pointers
import Derived.Deep.RegionWith
import Derived.Lib.SlBytesConst
import Derived.Test.YtkcpfgjkplailaaBdF
namespace Go.Proofs.Ytkcpfgjkplailaa
set_option linter.unusedVariables false
open Go.RowKit

theorem or_at (a b J : Nat) (ha : a < 2 ^ J) (hb : b * 2 ^ J < 18446744073709551616) (hJ : J < 64) :
    bits .or .u64 (a : Int) (IntKind.u64.wrap ((b : Int) * 2 ^ J)) = ((a + 2 ^ J * b : Nat) : Int) := by
  rw [u64_wrap, ← pow_int, ← Int.natCast_mul]
  have hp : 2 ^ J ≤ 2 ^ 63 := Nat.pow_le_pow_right (by omega) (by omega)
  rw [show ((b * 2 ^ J : Nat) : Int) % 18446744073709551616 = ((b * 2 ^ J : Nat) : Int) by omega]
  rw [u64_or_nat a (b * 2 ^ J) (by omega) (by omega), Nat.or_comm, nat_join J (b * 2 ^ J) a (by simp) ha, Nat.mul_comm b, Nat.add_comm]

theorem take_snocN (l : List Nat) (k : Nat) (h : k < l.length) : l.take (k + 1) = l.take k ++ [l.getD k 0] := by
  rw [List.take_succ_eq_append_getElem h]; simp [List.getD, h]

/-- A byte more of a number. -/
theorem get_step (l : List Nat) (j : Nat) (N c : Int) (hj : j < l.length) (hj9 : j ≤ 9) (hN : ((E.val (l.take j) : Nat) : Int) = N) (hc : ((l.getD j 0 : Nat) : Int) = c) (h9 : j = 9 → c ≤ 1) :
    bits .or .u64 N (IntKind.u64.wrap (c % 128 * 2 ^ (j * 7))) = ((E.val (l.take (j + 1)) : Nat) : Int) := by
  have hl : (l.take j).length = j := by simp; omega
  have hv := E.val_lt (l.take j)
  rw [take_snocN l j hj, E.val_append, hl, ← hN, ← hc]
  rw [hl] at hv
  generalize l.getD j 0 = x at *
  generalize E.val (l.take j) = a at *
  have hp : 128 ^ j = 2 ^ (j * 7) := by rw [Nat.mul_comm, Nat.pow_mul]
  have hb : x % 128 * 2 ^ (j * 7) < 18446744073709551616 := by
    rcases Nat.lt_or_ge j 9 with h | h
    · have h1 : 2 ^ (j * 7) ≤ 2 ^ 56 := Nat.pow_le_pow_right (by omega) (by omega)
      have h2 : x % 128 * 2 ^ (j * 7) ≤ 127 * 2 ^ 56 := Nat.mul_le_mul (by omega) h1
      omega
    · obtain rfl : j = 9 := by omega
      have h1 := h9 rfl
      have h2 : x % 128 * 2 ^ (9 * 7) ≤ 1 * 2 ^ (9 * 7) := Nat.mul_le_mul_right _ (by omega)
      omega
  have h := or_at a (x % 128) (j * 7) (by rw [← hp]; exact hv) hb (by omega)
  rw [show (x : Int) % 128 = ((x % 128 : Nat) : Int) by omega, h, hp]
  simp only [E.val, Nat.mul_zero, Nat.add_zero]

/-- A panic with an error's number. -/
def pan (k : Int) : Ending := .panicked [{ v := .iface 26 (.int .i64 k), recovered := false }]

set_option maxHeartbeats 400000 in
theorem get_zero (ao : Option Addr) (cap : Nat) (w : World) :
    Calls Try.prog 58 #[.slice ao 0 cap] w fun e w' => e = pan 3 ∧ w' = w := by
  go_enter Try.func58, Try.ntmps58
  go_wp2_with fail
  go_loop [4, 9] (fun n i => n = .int .u64 0 ∧ i = .int .i64 0) (fun _ _ => 0)
  case atStart => exact ⟨rfl, rfl⟩
  case round =>
    obtain ⟨rfl, rfl⟩ := hrel
    go_wp2
    exact ⟨rfl, rfl, rfl⟩

set_option maxHeartbeats 1000000 in
theorem get_some (b off len cap : Nat) (l : List Nat) (w : World) (hl : l.length = len) (hm : len ≤ 140737488355328) (hc : ∀ i, i < len → w.cell? ⟨b, off + i, none⟩ = some (.int .u8 ((l.getD i 0 : Nat) : Int))) (h256 : ∀ x ∈ l, x < 256) :
    Calls Try.prog 58 #[.slice (some ⟨b, off, none⟩) len cap] w fun e w' => ((E.gE l = 0 ∧ e = .returned (.tuple #[.int .u64 ((E.gN l : Nat) : Int), .int .i64 ((E.gK l : Nat) : Int)])) ∨ (E.gE l ≠ 0 ∧ e = pan ((E.gE l : Nat) : Int))) ∧ w' = w := by
  have H2 := hide h256
  have HL := hide hl
  clear h256 hl
  go_enter Try.func58, Try.ntmps58
  go_wp2_with fail
  go_loop [4, 9] (fun n i => ∃ j : Nat, j ≤ 9 ∧ j ≤ len ∧ i = .int .i64 j ∧ (∀ t, t < j → 128 ≤ l.getD t 0) ∧ n = .int .u64 ((E.val (l.take j) : Nat) : Int)) (fun _ i => len - (intOf i).toNat)
  case atStart => exact ⟨0, by omega, Nat.zero_le _, rfl, fun t ht => by omega, rfl⟩
  case round =>
    obtain ⟨j, hj9, hjl, rfl, hlead, rfl⟩ := hrel
    have HLe := hide hlead
    clear hlead
    by_cases hlt : j < len
    · have hck := hc j hlt
      have hcl := E.getD_lt H2.out j
      obtain ⟨c, hce⟩ : ∃ c : Int, ((l.getD j 0 : Nat) : Int) = c := ⟨_, rfl⟩
      have hc0 : 0 ≤ c := by omega
      have hc1 : c < 256 := by omega
      rw [hce] at hck
      have HC := hide hce
      obtain ⟨N, hN⟩ : ∃ N : Int, ((E.val (l.take j) : Nat) : Int) = N := ⟨_, rfl⟩
      have hN0 : 0 ≤ N := by omega
      rw [hN]
      have HN := hide hN
      have HJL : Hid (j < l.length) := by have := HL.out; show _ < _; omega
      have HI : Hid (c < 128 ∨ j = 9 → E.IsLead 9 l j) := fun h => ⟨hj9, Nat.le_of_lt HJL.out, HLe.out, h.elim (fun h => .inr (.inr (by omega))) .inl⟩
      clear hc hce hcl hN
      by_cases h9 : j = 9
      · have b9 : ((j : Int) == 9) = true := by simp; omega
        have HJ := hide h9
        clear h9
        by_cases h1 : 1 < c
        · go_wp2
          have hg := E.gE_form (HI.out (.inr HJ.out)) HJL.out (.inl ⟨HJ.out, by have := HC.out; omega⟩)
          exact ⟨rfl, .inr ⟨by rw [hg]; decide, by rw [hg]; rfl⟩, rfl⟩
        · have hlt128 : c < 128 := by omega
          have hj0 : 0 < j := by have := HJ.out; omega
          by_cases hz : c = 0
          · have bz : (c == 0) = true := by simpa using hz
            have HZ := hide hz
            clear hz
            go_wp2
            have hg := E.gE_form (HI.out (.inr HJ.out)) HJL.out (.inr ⟨by omega, by have := HC.out; have := HZ.out; omega⟩)
            exact ⟨rfl, .inr ⟨by rw [hg]; decide, by rw [hg]; rfl⟩, rfl⟩
          · have bz : (c == 0) = false := by simpa using hz
            have HZ := hide hz
            clear hz
            have HS := hide (get_step l j N c HJL.out hj9 HN.out HC.out (fun _ => by omega))
            go_wp2
            go_ret2
            obtain ⟨e1, e2, e3⟩ := E.gE_ok (HI.out (.inr HJ.out)) HJL.out (fun _ => by have := HC.out; omega) (fun _ => by have := HC.out; have := HZ.out; omega)
            exact ⟨.inl ⟨e1, by rw [e2, e3, ← HS.out]; rfl⟩, rfl⟩
      · have b9 : ((j : Int) == 9) = false := by simp; omega
        have HS := hide (get_step l j N c HJL.out hj9 HN.out HC.out (fun h => absurd h h9))
        by_cases h128 : 128 ≤ c
        · go_wp2
          go_round
          case rel =>
            refine ⟨j + 1, by omega, by omega, by go_num, fun t ht => ?_, by rw [HS.out]⟩
            rcases Nat.lt_or_ge t j with h | h
            · exact HLe.out t h
            · obtain rfl : t = j := by omega
              have := HC.out; omega
          case measure => simp [intOf]; omega
        · have hlt128 : c < 128 := by omega
          by_cases hz : 0 < j ∧ c = 0
          · obtain ⟨hz0, hz1⟩ := hz
            have bz : (c == 0) = true := by simp; omega
            have HZ := hide hz1
            clear hz1
            go_wp2
            have hg := E.gE_form (HI.out (.inl hlt128)) HJL.out (.inr ⟨hz0, by have := HC.out; have := HZ.out; omega⟩)
            exact ⟨rfl, .inr ⟨by rw [hg]; decide, by rw [hg]; rfl⟩, rfl⟩
          · have bz : 0 < j → (c == 0) = false := fun h => by simp; omega
            have HZ : Hid (0 < j → c ≠ 0) := fun h e => hz ⟨h, e⟩
            clear hz
            by_cases hj0 : 0 < j
            all_goals
              first | (replace bz := bz hj0) | clear bz
              go_wp2
              go_ret2
              obtain ⟨e1, e2, e3⟩ := E.gE_ok (HI.out (.inl hlt128)) HJL.out (fun h => absurd h h9) (fun h => by have := HC.out; have := HZ.out h; omega)
              exact ⟨.inl ⟨e1, by rw [e2, e3, ← HS.out]; rfl⟩, rfl⟩
    · have HI : Hid (E.IsLead 9 l j) := ⟨hj9, by have := HL.out; omega, HLe.out, .inr (.inl (by have := HL.out; omega))⟩
      clear hc
      go_wp2
      have hg := E.gE_short HI.out (by have := HL.out; omega)
      exact ⟨rfl, .inr ⟨by rw [hg]; decide, by rw [hg]; rfl⟩, rfl⟩

/-- leb's get: the number and how many bytes it has, or a panic with the error. -/
theorem get_in (ao : Option Addr) (len cap : Nat) (l : List Nat) (w : World) (h : Sl w .u8 ao len cap (ints l)) (h256 : ∀ x ∈ l, x < 256) (hm : len ≤ 140737488355328) :
    Calls Try.prog 58 #[.slice ao len cap] w fun e w' => ((E.gE l = 0 ∧ e = .returned (.tuple #[.int .u64 ((E.gN l : Nat) : Int), .int .i64 ((E.gK l : Nat) : Int)])) ∨ (E.gE l ≠ 0 ∧ e = pan ((E.gE l : Nat) : Int))) ∧ w' = w := by
  obtain ⟨h1, h2, h3, h4, h5⟩ := h
  rw [ints_length] at h1
  by_cases h0 : len = 0
  · subst h0
    obtain rfl : l = [] := List.eq_nil_of_length_eq_zero h1
    refine (get_zero ao cap w).mono ?_
    rintro e w' ⟨rfl, rfl⟩
    exact ⟨.inr ⟨by decide, rfl⟩, rfl⟩
  · rcases h5 with h5 | ⟨b, off, rfl, hlt, h5⟩
    · omega
    · exact get_some b off len cap l w h1 hm (fun i hi => by rw [h5 i hi, ints_getD]) h256
end Go.Proofs.Ytkcpfgjkplailaa
/- The contract of leb's caught: whatever work does; then of Get. -/
namespace Go.Proofs.Ytkcpfgjkplailaa
set_option linter.unusedVariables false
open Go.RowKit

theorem catch_panicking (p : Addr) (x k : Int) (older : List PanicEntry) (w : World) (hc : w.cell? p = some (.int .i64 x)) (hz : w.frozen? p = false) :
    CallsD Try.prog 71 #[.pointer (some p)] (.panicking ({ v := .iface 26 (.int .i64 k), recovered := false } :: older)) w fun e u' w' =>
      e = .returned (.tuple #[]) ∧ u' = .panicking ({ v := .iface 26 (.int .i64 k), recovered := true } :: older) ∧ w' = w.setCell p (.int .i64 k) := by
  have hta : ∀ w : World, (Instr.typeAssert (.iface 26 (.int .i64 k)) 20 26 false).run Try.prog w = .ok (.int .i64 k) w := fun w => by simp [Instr.typeAssert]
  refine callsD_of_wpS Try.func71 rfl fun c₀ cs hu => ?_
  apply wpS_seq
  apply wpS_region
  simp [wpOpsS, go_sem, recoverD, hu, Try.ntmps71, Exit.thenS]
  refine wpS_of_wp ?_
  go_wp2
  cases c₀
  simp_all [bodyPostS, results, Try.results71]

theorem catch_idle (p : Addr) (w : World) :
    CallsD Try.prog 71 #[.pointer (some p)] .returning w fun e u' w' => e = .returned (.tuple #[]) ∧ u' = .returning ∧ w' = w := by
  refine callsD_of_wpS Try.func71 rfl fun c₀ cs hu => ?_
  apply wpS_seq
  apply wpS_region
  simp [wpOpsS, go_sem, recoverD, hu, Try.ntmps71, Exit.thenS]
  refine wpS_of_wp ?_
  go_wp2
  cases c₀
  simp_all [bodyPostS, results, Try.results71]

theorem caught_any (k : Nat) (caps : Array Value) (w : World) (R : Int → World → Prop) (hcf : ∀ w : World, (callFunc k caps).run Try.prog w = .ok (.enter k caps) w)
    (h : Calls Try.prog k caps (w.alloc (.cells #[.int .i64 0] 26)) fun e w' => ∃ er : Int, ((er = 0 ∧ e = .returned (.tuple #[])) ∨ (er ≠ 0 ∧ e = pan er)) ∧ w'.heap[w.heap.size]? = some (.cells #[.int .i64 0] 26 (0, 0)) ∧ R er w') :
    Calls Try.prog 56 #[.func (.func k) #[] caps] w fun e w' => ∃ er w1, R er w1 ∧ e = .returned (.int .i64 er) ∧ w' = w1.setCell ⟨w.heap.size, 0, none⟩ (.int .i64 er) := by
  have hmf : ∀ (fn : Fn) (first cap : Array Value) (w : World), (Instr.makeFunc fn first cap).run Try.prog w = .ok (.func fn first cap) w := fun _ _ _ _ => rfl
  go_enter_defers Try.func56, Try.ntmps56
  go_wp2_with fail
  refine h.mono ?_
  rintro e w1 ⟨er, he, hb, hR⟩
  have hlt := lt_of_block hb
  have hc0 : w1.cell? ⟨w.heap.size, 0, none⟩ = some (.int .i64 0) := by simp [World.cell?, hb]
  have hf0 : w1.frozen? ⟨w.heap.size, 0, none⟩ = false := by simp [World.frozen?, hb]
  rcases he with ⟨h0, rfl⟩ | ⟨h0, rfl⟩
  · have H0 := hide h0
    clear h0
    go_wp2
    refine leaves_cons (f := 71) (args := #[.pointer (some ⟨w.heap.size, 0, none⟩)]) (by simp) (by simp [go_sem]) ?_
    refine (catch_idle ⟨w.heap.size, 0, none⟩ _).mono ?_
    rintro e u' w2 ⟨rfl, rfl, rfl⟩
    simp [Leaves, settle, results, Try.results56, go_sem, hc0]
    exact ⟨er, w1, hR, by rw [H0.out], by rw [H0.out]⟩
  · unfold pan
    go_wp2
    refine leaves_cons (f := 71) (args := #[.pointer (some ⟨w.heap.size, 0, none⟩)]) (by simp) (by simp [go_sem]) ?_
    refine (catch_panicking ⟨w.heap.size, 0, none⟩ 0 er [] _ hc0 hf0).mono ?_
    rintro e u' w2 ⟨rfl, rfl, rfl⟩
    simp [Leaves, settle, results, Try.results56, go_sem, hc0]
    exact ⟨er, w1, hR, rfl, rfl⟩

theorem cell_of_heap {w : World} {p : Nat} {a : Value} {t : TypeId} (h : w.heap[p]? = some (.cells #[a] t (0, 0))) : w.cell? ⟨p, 0, none⟩ = some a ∧ w.frozen? ⟨p, 0, none⟩ = false := by
  constructor <;> simp [World.cell?, World.frozen?, h]

theorem getc_any (B1 B2 B3 : Nat) (ao : Option Addr) (len cap : Nat) (l : List Nat) (w : World) (h1 : w.heap[B1]? = some (.cells #[.slice ao len cap] 23 (0, 0))) (h2 : w.heap[B2]? = some (.cells #[.int .u64 0] 48 (0, 0))) (h3 : w.heap[B3]? = some (.cells #[.int .i64 0] 3 (0, 0))) (hne : B2 ≠ B3)
    (h : Sl w .u8 ao len cap (ints l)) (h256 : ∀ x ∈ l, x < 256) (hm : len ≤ 140737488355328) :
    Calls Try.prog 57 #[.pointer (some ⟨B1, 0, none⟩), .pointer (some ⟨B2, 0, none⟩), .pointer (some ⟨B3, 0, none⟩)] w fun e w' =>
      ((E.gE l = 0 ∧ e = .returned (.tuple #[])) ∨ (E.gE l ≠ 0 ∧ e = pan ((E.gE l : Nat) : Int))) ∧ w'.heap[B2]? = some (.cells #[.int .u64 ((E.gN l : Nat) : Int)] 48 (0, 0)) ∧ w'.heap[B3]? = some (.cells #[.int .i64 ((E.gK l : Nat) : Int)] 3 (0, 0)) ∧ Kept (fun k => k = B2 ∨ k = B3) w w' := by
  obtain ⟨c1, f1⟩ := cell_of_heap h1
  obtain ⟨c2, f2⟩ := cell_of_heap h2
  obtain ⟨c3, f3⟩ := cell_of_heap h3
  have c3' : ∀ u, (w.setCell ⟨B2, 0, none⟩ u).cell? ⟨B3, 0, none⟩ = some (.int .i64 0) := fun u => by
    rw [World.cell?_setCell_other _ _ _ _ (by intro e; injection e with e; exact hne e)]; exact c3
  have H2 := hide h2
  have H3 := hide h3
  have HN := hide hne
  have HZ := hide (E.g_zero (l := l))
  clear h1 h2 h3
  go_enter Try.func57, Try.ntmps57
  go_wp2_with fail
  refine (get_in _ _ _ l _ h h256 hm).mono ?_
  rintro e w1 ⟨⟨hg, rfl⟩ | ⟨hg, rfl⟩, rfl⟩
  · have HG := hide hg
    clear hg
    obtain ⟨n, hn⟩ : ∃ n : Int, ((E.gN l : Nat) : Int) = n := ⟨_, rfl⟩
    obtain ⟨k, hk⟩ : ∃ n : Int, ((E.gK l : Nat) : Int) = n := ⟨_, rfl⟩
    rw [hn, hk]
    have HNn := hide hn
    have HKk := hide hk
    clear hn hk
    go_wp2
    go_end0
    rw [← HNn.out, ← HKk.out]
    refine ⟨.inl ⟨HG.out, rfl⟩, ?_, ?_, Kept.setCell (Kept.setCell (Kept.refl _ _) (.inl (.inl rfl)) _) (.inl (.inr rfl)) _⟩
    · rw [Below.heap_setCell _ _ _ _ (show B2 ≠ B3 from HN.out)]; exact heap_setCell_one H2.out _
    · exact heap_setCell_one (by rw [Below.heap_setCell _ _ _ _ (show B3 ≠ B2 from fun e => HN.out e.symm)]; exact H3.out) _
  · have HG := hide hg
    clear hg
    unfold pan
    go_wp2
    obtain ⟨z1, z2⟩ := HZ.out HG.out
    rw [z1, z2]
    exact ⟨rfl, .inr ⟨HG.out, rfl⟩, H2.out, H3.out, Kept.refl _ _⟩

/-- A function value that is called: a function that has a body is entered. -/
theorem enter_fn {f : FuncId} {fn : Func} {c : Code} (hf : Try.prog.funcs[f]? = some fn) (hn : fn.name ≠ "runtime.NumGoroutine") (hb : fn.body = some c) (args : Array Value) (w : World) :
    (callFunc f args).run Try.prog w = .ok (.enter f args) w := by simp [callFunc, hf, hn, hb]
theorem Try.enterGetC (args : Array Value) (w : World) : (callFunc 57 args).run Try.prog w = .ok (.enter 57 args) w :=
  enter_fn Try.func57 (by decide +kernel) rfl args w

theorem heap_alloc_keep {w : World} {k : Nat} {o : Obj} (x : Obj) (h : w.heap[k]? = some o) : (w.alloc x).heap[k]? = some o := by rw [Below.heap_alloc _ _ _ (lt_of_block h)]; exact h

set_option maxHeartbeats 400000 in
/-- Get. -/
theorem get_any (ao : Option Addr) (len cap : Nat) (l : List Nat) (w : World) (h : Sl w .u8 ao len cap (ints l)) (h256 : ∀ x ∈ l, x < 256) (hm : len ≤ 140737488355328) :
    Calls Try.prog 32 #[.slice ao len cap] w fun e w' => e = .returned (.tuple #[.int .u64 ((E.gN l : Nat) : Int), .int .i64 ((E.gK l : Nat) : Int), .int .i64 ((E.gE l : Nat) : Int)]) ∧ Below w.heap.size w w' := by
  have hmf : ∀ (fn : Fn) (first cap : Array Value) (w : World), (Instr.makeFunc fn first cap).run Try.prog w = .ok (.func fn first cap) w := fun _ _ _ _ => rfl
  go_enter Try.func32, Try.ntmps32
  go_wp2_with fail
  refine (caught_any 57 _ _ (fun er w1 => er = ((E.gE l : Nat) : Int) ∧ w1.heap[w.heap.size + 1]? = some (.cells #[.int .u64 ((E.gN l : Nat) : Int)] 48 (0, 0)) ∧ w1.heap[w.heap.size + 1 + 1]? = some (.cells #[.int .i64 ((E.gK l : Nat) : Int)] 3 (0, 0)) ∧ Below w.heap.size w w1) (Try.enterGetC _) ?h).mono ?_
  case h =>
    have b1 := heap_alloc_new w (.cells #[.slice ao len cap] 23)
    have b2 := heap_alloc_new (w.alloc (.cells #[.slice ao len cap] 23)) (.cells #[.int .u64 0] 48)
    have b3 := heap_alloc_new ((w.alloc (.cells #[.slice ao len cap] 23)).alloc (.cells #[.int .u64 0] 48)) (.cells #[.int .i64 0] 3)
    have b4 := heap_alloc_new (((w.alloc (.cells #[.slice ao len cap] 23)).alloc (.cells #[.int .u64 0] 48)).alloc (.cells #[.int .i64 0] 3)) (.cells #[.int .i64 0] 26)
    have hbel : Below w.heap.size w ((((w.alloc (.cells #[.slice ao len cap] 23)).alloc (.cells #[.int .u64 0] 48)).alloc (.cells #[.int .i64 0] 3)).alloc (.cells #[.int .i64 0] 26)) :=
      ((((Below.refl _ _).alloc (Nat.le_refl _) _).alloc (by simp) _).alloc (by simp; omega) _).alloc (by simp; omega) _
    simp only [World.size_alloc] at b2 b3 b4
    refine (getc_any _ _ _ ao len cap l _ (heap_alloc_keep _ (heap_alloc_keep _ (heap_alloc_keep _ b1))) (heap_alloc_keep _ (heap_alloc_keep _ b2)) (heap_alloc_keep _ b3) (by omega) (h.below hbel) h256 hm).mono ?_
    rintro e w1 ⟨he, e2, e3, hk⟩
    refine ⟨((E.gE l : Nat) : Int), ?_, ?_, rfl, e2, e3, hbel.trans (hk.below (by simp; omega) (by rintro k (rfl | rfl) <;> omega))⟩
    · rcases he with ⟨h0, he⟩ | ⟨h0, he⟩
      · exact .inl ⟨by rw [h0]; rfl, he⟩
      · exact .inr ⟨by omega, he⟩
    · simp only [World.size_alloc]
      rw [hk.block _ (by simp) (by omega)]
      exact b4
  rintro e w2 ⟨er, w1, ⟨her, hb2, hb3, hbel⟩, rfl, rfl⟩
  simp only [World.size_alloc]
  have s2 : (w1.setCell ⟨w.heap.size + 1 + 1 + 1, 0, none⟩ (.int .i64 er)).heap[w.heap.size + 1]? = some (.cells #[.int .u64 ((E.gN l : Nat) : Int)] 48 (0, 0)) := by rw [Below.heap_setCell _ _ _ _ (by show _ ≠ w.heap.size + 1 + 1 + 1; omega)]; exact hb2
  have s3 : (w1.setCell ⟨w.heap.size + 1 + 1 + 1, 0, none⟩ (.int .i64 er)).heap[w.heap.size + 1 + 1]? = some (.cells #[.int .i64 ((E.gK l : Nat) : Int)] 3 (0, 0)) := by rw [Below.heap_setCell _ _ _ _ (by show _ ≠ w.heap.size + 1 + 1 + 1; omega)]; exact hb3
  have hbel2 := hbel.setCell (p := ⟨w.heap.size + 1 + 1 + 1, 0, none⟩) (by show w.heap.size ≤ w.heap.size + 1 + 1 + 1; omega) (.int .i64 er)
  have HB := hide hbel2
  have HE := hide her
  obtain ⟨w3, hw3⟩ : ∃ w3, w1.setCell ⟨w.heap.size + 1 + 1 + 1, 0, none⟩ (.int .i64 er) = w3 := ⟨_, rfl⟩
  rw [hw3] at s2 s3 HB ⊢
  obtain ⟨N, hN⟩ : ∃ N : Int, ((E.gN l : Nat) : Int) = N := ⟨_, rfl⟩
  obtain ⟨K, hK⟩ : ∃ N : Int, ((E.gK l : Nat) : Int) = N := ⟨_, rfl⟩
  rw [hN] at s2
  rw [hK] at s3
  have HNN := hide hN
  have HKK := hide hK
  obtain ⟨c2, f2⟩ := cell_of_heap s2
  obtain ⟨c3, f3⟩ := cell_of_heap s3
  have c3' : ∀ u, (w3.setCell ⟨w.heap.size + 1, 0, none⟩ u).cell? ⟨w.heap.size + 1 + 1, 0, none⟩ = some (.int .i64 K) := fun u => by
    rw [World.cell?_setCell_other _ _ _ _ (by intro e; injection e with e; omega)]; exact c3
  clear hbel2 hbel hb2 hb3 her hw3 hN hK s2 s3 h h256
  go_wp2
  go_region
  go_wp2
  have c2' : ((w3.setCell ⟨w.heap.size + 1, 0, none⟩ (.int .u64 N)).setCell ⟨w.heap.size + 1 + 1, 0, none⟩ (.int .i64 K)).cell? ⟨w.heap.size + 1, 0, none⟩ = some (.int .u64 N) := by
    rw [World.cell?_setCell_other _ _ _ _ (by intro e; injection e with e; omega)]; simp [World.cell?_setCell_same, c2]
  have c4' : ((w3.setCell ⟨w.heap.size + 1, 0, none⟩ (.int .u64 N)).setCell ⟨w.heap.size + 1 + 1, 0, none⟩ (.int .i64 K)).cell? ⟨w.heap.size + 1 + 1, 0, none⟩ = some (.int .i64 K) := by
    simp [World.cell?_setCell_same, c3']
  refine bodyPost_ret (v := .tuple #[.int .u64 N, .int .i64 K, .int .i64 er]) (by simp [results, Try.results32, go_sem, c2', c4']) rfl ⟨by rw [HNN.out, HKK.out, HE.out], ?_⟩
  exact (((HB.out.setCell (p := ⟨w.heap.size + 1, 0, none⟩) (by show w.heap.size ≤ w.heap.size + 1; omega) _).setCell (p := ⟨w.heap.size + 1 + 1, 0, none⟩) (by show w.heap.size ≤ w.heap.size + 1 + 1; omega) _)).drew
end Go.Proofs.Ytkcpfgjkplailaa
/- The contracts of leb's cut, own. -/
namespace Go.Proofs.Ytkcpfgjkplailaa
set_option linter.unusedVariables false
open Go.RowKit

theorem add_block (x : Addr) (i : Nat) : (x.add i).block = x.block := by unfold Addr.add; split <;> rfl
theorem ints_take (l : List Nat) (i : Nat) : ints (l.take i) = (ints l).take i := by simp [ints]
theorem ints_drop (l : List Nat) (i : Nat) : ints (l.drop i) = (ints l).drop i := by simp [ints]

/-- A slice's head, and what lies behind it. -/
theorem Sl.head {w : World} {k : IntKind} {ao : Option Addr} {len cap : Nat} {l : List Int} (h : Sl w k ao len cap l) (i c : Nat) (hi : i ≤ len) (hc : i ≤ c) (hcc : c ≤ cap) : Sl w k ao i c (l.take i) := by
  obtain ⟨h1, h2, h3, h4, h5⟩ := h
  refine ⟨by simp; omega, hc, by omega, fun e => by have := h4 e; omega, ?_⟩
  rcases h5 with h5 | ⟨b, off, rfl, hlt, h5⟩
  · exact .inl (by omega)
  · refine .inr ⟨b, off, rfl, hlt, fun j hj => ?_⟩
    rw [h5 j (by omega)]
    simp [List.getD, hj]
theorem Sl.tail {w : World} {k : IntKind} {x : Addr} {len cap : Nat} {l : List Int} (h : Sl w k (some x) len cap l) (i c : Nat) (hi : i ≤ len) (hc : len - i ≤ c) (hcc : c ≤ cap) (y : Addr) (hy : i < len → y = x.add i) : Sl w k (some y) (len - i) c (l.drop i) := by
  obtain ⟨h1, h2, h3, h4, h5⟩ := h
  refine ⟨by rw [List.length_drop, h1], hc, Nat.le_trans hcc h3, by simp, ?_⟩
  by_cases hlt : i < len
  · rcases h5 with h5 | ⟨b, off, hx, hb, h5⟩
    · omega
    · obtain rfl := Option.some.inj hx
      rw [hy hlt]
      refine .inr ⟨b, off + i, by simp [Addr.add], hb, fun j hj => ?_⟩
      rw [Nat.add_assoc, h5 (i + j) (by omega)]
      simp [List.getD]
  · exact .inl (by omega)

theorem run_append_nothing (w : World) (ty : TypeId) (ao bo : Option Addr) (n cap c : Nat) (h : n ≤ cap) :
    (Builtin.append_ #[23, 23] ty #[.slice ao n cap, .slice bo 0 c]).run Try.prog w = .ok (.slice ao n cap) w := by
  obtain ⟨i0, hi, hz0, hz1, hz2⟩ := info_parts Try.infoU8
  cases ao <;> cases bo <;> simp [Builtin.append_, run_underlying Try.underlying23, sizeOf, typeInfo, hi, Builtin.lenOf, h, Builtin.firstCells, run_load_none, storeCells]

theorem wpList_append_nothing {w : World} {ops : Array Oper} {rest : List Oper} {o : Oper} {a : Act} {Q : Exit → Act → World → Prop} (hgd : o.guard = none) (s x : Operand)
    (ho : o.op = .call { callee := .builtin .append, args := #[s, x], argTypes := #[23, 23] })
    (ao bo : Option Addr) (n cap c : Nat) (hs : a.eval s = .slice ao n cap) (hx : a.eval x = .slice bo 0 c) (hn : n ≤ cap)
    (h : wpList Try.prog ops Q rest (a.put o.dst (.slice ao n cap)) w) : wpList Try.prog ops Q (o :: rest) a w := by
  refine wpList_plain hgd fun K hK => ?_
  have hrun := run_append_nothing w o.type ao bo n cap c hn
  unfold Oper.wp
  simp [execOp, ho, resolve, invoke, builtin, hs, hx, hrun, Result.andThen]
  exact hK _ _ h

end Go.Proofs.Ytkcpfgjkplailaa
/- The contract of leb's toText. -/
namespace Go.Proofs.Ytkcpfgjkplailaa
set_option linter.unusedVariables false
open Go.RowKit

end Go.Proofs.Ytkcpfgjkplailaa
/- The contract of leb's toInts. -/
namespace Go.Proofs.Ytkcpfgjkplailaa
set_option linter.unusedVariables false
open Go.RowKit

theorem Try.infoI64 : (Try.prog.info? 2).map (fun i => (i.zero, i.size, i.bytes)) = some (some (.int .i64 0), 1, 8) := by kernel_rfl

end Go.Proofs.Ytkcpfgjkplailaa
/- What ToText and ToInts tell. -/
namespace Go.Proofs.Ytkcpfgjkplailaa
set_option linter.unusedVariables false
open Go.RowKit

/-- ToText's text, and the bytes behind it. -/
def TextAns (n : Int) (l : List Nat) (B0 : Nat) (w : World) (v1 v2 : Value) : Prop :=
  v1 = .string (strOfNums (ints (E.yS n l))) ∧ ∃ a2 c2, v2 = .slice a2 (E.yR n l).length c2 ∧ Sl w .u8 a2 (E.yR n l).length c2 (ints (E.yR n l))
theorem TextAns.good {n : Int} {l : List Nat} {B0 : Nat} {w : World} {a2 : Option Addr} {c2 : Nat} (h : E.xE n l = 0) (hs : Sl w .u8 a2 (E.xR l).length c2 (ints (E.xR l))) : TextAns n l B0 w (.string (strOfNums (ints (E.xS l)))) (.slice a2 (E.xR l).length c2) := by
  unfold TextAns E.yS E.yR; rw [if_pos h, if_pos h]; exact ⟨rfl, a2, c2, rfl, hs⟩
theorem Sl.nil (w : World) (k : IntKind) : Sl w k none 0 0 [] := ⟨rfl, Nat.le_refl _, by decide, fun _ => rfl, .inl rfl⟩
theorem TextAns.bad {n : Int} {l : List Nat} {B0 : Nat} {w : World} (h : E.xE n l ≠ 0) : TextAns n l B0 w (.string ⟨#[]⟩) (.slice none 0 0) := by
  unfold TextAns E.yS E.yR; rw [if_neg h, if_neg h]; exact ⟨rfl, none, 0, rfl, Sl.nil _ _⟩
theorem TextAns.keptE {n : Int} {l : List Nat} {B0 : Nat} {w : World} {v1 v2 : Value} {B : Nat} (h : TextAns n l B0 w v1 v2) (hb : w.heap[B]? = some (.cells #[.int .i64 0] 26 (0, 0))) (hB : B < B0) (u : Value) : TextAns n l B0 (w.setCell ⟨B, 0, none⟩ u) v1 v2 := by
  obtain ⟨h1, a2, c2, h2, h3⟩ := h
  exact ⟨h1, a2, c2, h2, h3.set hb (by simp) u⟩
theorem TextAns.shape {n : Int} {l : List Nat} {B0 : Nat} {w : World} {v1 v2 : Value} (h : TextAns n l B0 w v1 v2) : ∃ x1 a2 l2 c2, v1 = .string x1 ∧ v2 = .slice a2 l2 c2 := by
  obtain ⟨h1, a2, c2, h2, _⟩ := h
  exact ⟨_, a2, _, c2, h1, h2⟩
theorem TextAns.keptS {n : Int} {l : List Nat} {B0 : Nat} {w : World} {x1 : ByteArray} {a2 : Option Addr} {l2 c2 B3 B4 : Nat} (h : TextAns n l B0 w (.string x1) (.slice a2 l2 c2)) (h3 : w.heap[B3]? = some (.cells #[.string x1] 9 (0, 0))) (h4 : w.heap[B4]? = some (.cells #[.slice a2 l2 c2] 23 (0, 0))) (hne : B3 ≠ B4) {u v : Value} :
    TextAns n l B0 ((w.setCell ⟨B3, 0, none⟩ u).setCell ⟨B4, 0, none⟩ v).drew (.string x1) (.slice a2 l2 c2) := by
  obtain ⟨h1, a2', c2', h2, h5⟩ := h
  refine ⟨h1, a2', c2', h2, ((h5.set h3 (by simp) u).set (B := B4) (v := .slice a2 l2 c2) (t := 23) ?_ (by simp) v).kept ((Kept.refl (fun _ => False) _).drew) (by simp)⟩
  rw [Below.heap_setCell _ _ _ _ (show B4 ≠ B3 from fun e => hne e.symm)]; exact h4

/-- ToInts' numbers, and the bytes behind them. -/
def IntsAns (n : Int) (l : List Nat) (B0 : Nat) (w : World) (v1 v2 : Value) : Prop :=
  (∃ a1 c1, v1 = .slice a1 (E.iL n l).length c1 ∧ Sl w .i64 a1 (E.iL n l).length c1 (E.iL n l) ∧ ∀ x, a1 = some x → B0 ≤ x.block) ∧ ∃ a2 c2, v2 = .slice a2 (E.iR n l).length c2 ∧ Sl w .u8 a2 (E.iR n l).length c2 (ints (E.iR n l))
theorem IntsAns.good {n : Int} {l : List Nat} {B0 : Nat} {w : World} {a1 a2 : Option Addr} {c1 c2 : Nat} (h : E.iE n l = 0) (hs1 : Sl w .i64 a1 (E.tL n.toNat l).length c1 (E.tL n.toNat l)) (hx : ∀ x, a1 = some x → B0 ≤ x.block) (hs : Sl w .u8 a2 (E.tR n.toNat l).length c2 (ints (E.tR n.toNat l))) : IntsAns n l B0 w (.slice a1 (E.tL n.toNat l).length c1) (.slice a2 (E.tR n.toNat l).length c2) := by
  unfold IntsAns E.iL E.iR; rw [if_pos h, if_pos h]; exact ⟨⟨a1, c1, rfl, hs1, hx⟩, a2, c2, rfl, hs⟩
theorem IntsAns.bad {n : Int} {l : List Nat} {B0 : Nat} {w : World} (h : E.iE n l ≠ 0) : IntsAns n l B0 w (.slice none 0 0) (.slice none 0 0) := by
  unfold IntsAns E.iL E.iR; rw [if_neg h, if_neg h]; exact ⟨⟨none, 0, rfl, Sl.nil _ _, by simp⟩, none, 0, rfl, Sl.nil _ _⟩
/-- A row of numbers does not lie in a block of one cell of an unlike type. -/
theorem IntsAns.keptE {n : Int} {l : List Nat} {B0 : Nat} {w : World} {v1 v2 : Value} {B : Nat} (h : IntsAns n l B0 w v1 v2) (hb : w.heap[B]? = some (.cells #[.int .i64 0] 26 (0, 0))) (hB : B < B0) (u : Value) : IntsAns n l B0 (w.setCell ⟨B, 0, none⟩ u) v1 v2 := by
  obtain ⟨⟨a1, c1, h1, h3, hx⟩, a2, c2, h2, h4⟩ := h
  exact ⟨⟨a1, c1, h1, h3.kept (Kept.setCell (F := fun k => k = B) (Kept.refl _ _) (.inl rfl) u) (fun x e h => by have := hx x e; omega), hx⟩, a2, c2, h2, h4.set hb (by simp) u⟩
theorem IntsAns.shape {n : Int} {l : List Nat} {B0 : Nat} {w : World} {v1 v2 : Value} (h : IntsAns n l B0 w v1 v2) : ∃ a1 l1 c1 a2 l2 c2, v1 = .slice a1 l1 c1 ∧ v2 = .slice a2 l2 c2 := by
  obtain ⟨⟨a1, c1, h1, _, _⟩, a2, c2, h2, _⟩ := h
  exact ⟨a1, _, c1, a2, _, c2, h1, h2⟩
theorem IntsAns.keptS {n : Int} {l : List Nat} {B0 : Nat} {w : World} {a1 a2 : Option Addr} {l1 c1 l2 c2 B3 B4 : Nat} (h : IntsAns n l B0 w (.slice a1 l1 c1) (.slice a2 l2 c2)) (h3 : w.heap[B3]? = some (.cells #[.slice a1 l1 c1] 40 (0, 0))) (h4 : w.heap[B4]? = some (.cells #[.slice a2 l2 c2] 23 (0, 0))) (hne : B3 ≠ B4) {u v : Value} :
    IntsAns n l B0 ((w.setCell ⟨B3, 0, none⟩ u).setCell ⟨B4, 0, none⟩ v).drew (.slice a1 l1 c1) (.slice a2 l2 c2) := by
  obtain ⟨⟨a1', c1', h1, h6, hx⟩, a2', c2', h2, h5⟩ := h
  have h4' : ∀ u, (w.setCell ⟨B3, 0, none⟩ u).heap[B4]? = some (.cells #[.slice a2 l2 c2] 23 (0, 0)) := fun u => by
    rw [Below.heap_setCell _ _ _ _ (show B4 ≠ B3 from fun e => hne e.symm)]; exact h4
  exact ⟨⟨a1', c1', h1, ((h6.set h3 (by simp) u).set (h4' u) (by simp) v).kept ((Kept.refl (fun _ => False) _).drew) (by simp), hx⟩,
    a2', c2', h2, ((h5.set h3 (by simp) u).set (h4' u) (by simp) v).kept ((Kept.refl (fun _ => False) _).drew) (by simp)⟩
theorem TextAns.base {n : Int} {l : List Nat} {B0 B1 : Nat} {w : World} {v1 v2 : Value} (h : TextAns n l B0 w v1 v2) (hB : B1 ≤ B0) : TextAns n l B1 w v1 v2 := h
theorem IntsAns.base {n : Int} {l : List Nat} {B0 B1 : Nat} {w : World} {v1 v2 : Value} (h : IntsAns n l B0 w v1 v2) (hB : B1 ≤ B0) : IntsAns n l B1 w v1 v2 := by
  obtain ⟨⟨a1, c1, h1, h3, hx⟩, h2⟩ := h
  exact ⟨⟨a1, c1, h1, h3, fun x e => Nat.le_trans hB (hx x e)⟩, h2⟩
end Go.Proofs.Ytkcpfgjkplailaa
/- The contract of leb's ToText. -/
namespace Go.Proofs.Ytkcpfgjkplailaa
set_option linter.unusedVariables false
open Go.RowKit

end Go.Proofs.Ytkcpfgjkplailaa
/- The contract of leb's ToInts. -/
namespace Go.Proofs.Ytkcpfgjkplailaa
set_option linter.unusedVariables false
open Go.RowKit

end Go.Proofs.Ytkcpfgjkplailaa
/- The contracts of Ints, Text; the reference's Same; the statements' own head: 'shown'. -/
namespace Go.Proofs.Ytkcpfgjkplailaa
set_option linter.unusedVariables false
open Go.RowKit

theorem take_snocI (l : List Int) (k : Nat) (h : k < l.length) : l.take (k + 1) = l.take k ++ [l.getD k 0] := by
  rw [List.take_succ_eq_append_getElem h]; simp [List.getD, h]
theorem In_getD {l : List Int} (h : E.In l) (j : Nat) : -9223372036854775808 ≤ l.getD j 0 ∧ l.getD j 0 < 9223372036854775808 := by
  by_cases hj : j < l.length
  · have : l.getD j 0 = l[j] := by simp [List.getD, hj]
    rw [this]; exact h _ (List.getElem_mem hj)
  · simp [List.getD, hj]
theorem In_take {l : List Int} (h : E.In l) (j : Nat) : E.In (l.take j) := fun x hx => h x (List.mem_of_mem_take hx)
theorem lebs_take_le (l : List Int) (h : E.In l) (j : Nat) : (E.lebs (l.take j)).length ≤ 10 * l.length := by
  have h1 := E.lebs_le (l.take j) (In_take h j)
  have h2 : (l.take j).length ≤ l.length := by simp; omega
  omega

/-- A text's bytes. -/
def sb (s : ByteArray) : List Nat := s.data.toList.map UInt8.toNat
theorem sb_length (s : ByteArray) : (sb s).length = s.size := by simp [sb]
theorem sb_lt (s : ByteArray) : ∀ x ∈ sb s, x < 256 := by
  intro x hx
  obtain ⟨y, _, rfl⟩ := List.mem_map.1 hx
  exact y.toNat_lt
theorem strCells_sb (s : ByteArray) : Lib.strCells s = B8 (sb s) := by
  simp [Lib.strCells, B8, sb]

theorem Sl.four (w : World) (t : TypeId) (fr : Nat × Nat) (a b c d : Int) : Sl (w.alloc (.cells #[.int .u8 a, .int .u8 b, .int .u8 c, .int .u8 d] t fr)) .u8 (some ⟨w.heap.size, 0, none⟩) 4 4 [a, b, c, d] := by
  have hb := heap_alloc_new w (.cells #[.int .u8 a, .int .u8 b, .int .u8 c, .int .u8 d] t fr)
  refine ⟨rfl, Nat.le_refl _, by decide, by simp, .inr ⟨_, _, rfl, by simp, ?_⟩⟩
  intro i hi
  generalize w.alloc (.cells #[.int .u8 a, .int .u8 b, .int .u8 c, .int .u8 d] t fr) = w' at hb
  match i, hi with
  | 0, _ => simp [World.cell?, hb]
  | 1, _ => simp [World.cell?, hb]
  | 2, _ => simp [World.cell?, hb]
  | 3, _ => simp [World.cell?, hb]
theorem leb_300 : E.leb 300 = [172, 2] := by rw [E.leb_big _ (by omega), E.leb_small _ (by omega)]
theorem str_300 : strOfNums (ints [172, 2]) = ⟨#[172, 2]⟩ := by decide
theorem xE_abc : E.xE 9 [2, 97, 98, 99] = 0 := by decide
theorem yS_abc : strOfNums (ints (E.yS 9 [2, 97, 98, 99])) = ⟨#[97, 98]⟩ := by decide
theorem yR_abc : E.yR 9 [2, 97, 98, 99] = [99] := by decide
theorem str_99 : strOfNums (ints [99]) = ⟨#[99]⟩ := by decide
theorem zig_1 : E.zig (-1) = 1 := by decide

end Go.Proofs.Ytkcpfgjkplailaa

/- The contract of val's May; the statements' own head: 'shown'. -/
import Derived.Test.YtahpbenobhodnaaZ4
namespace Go.Proofs.Ytahpbenobhodnaa
set_option linter.unusedVariables false
open Go.RowKit

theorem empty_of (s : ByteArray) : s.toList.isEmpty = decide (s = ⟨#[]⟩) := by
  rw [ByteArray.toList_eq]
  obtain ⟨⟨x⟩⟩ := s
  cases x <;> simp
theorem may_float {i : Int} {s : ByteArray} : Z.may ⟨2, i, s⟩ = (Z.same (Z.cl ⟨2, i, s⟩) ⟨2, i, s⟩ && s.toList.isEmpty) := by
  rw [empty_of]; unfold Z.may Z.cl Z.same; simp; rfl
theorem may_int {i : Int} {s : ByteArray} : Z.may ⟨1, i, s⟩ = s.toList.isEmpty := by
  rw [empty_of]; unfold Z.may; simp
theorem may_text {i : Int} {s : ByteArray} : Z.may ⟨3, i, s⟩ = ((i == 0) && decide ((s.size : Int) ≤ 1024)) := by
  unfold Z.may; simp; cases h : decide (i = 0) <;> simp_all; omega
theorem may_null {i : Int} {s : ByteArray} : Z.may ⟨0, i, s⟩ = Z.same ⟨0, i, s⟩ ⟨0, 0, ⟨#[]⟩⟩ := by
  unfold Z.may Z.same
  rw [← empty_of, ByteArray.toList_eq]
  obtain ⟨⟨x⟩⟩ := s
  cases x <;> simp [ByteArray.toList_eq] <;> rfl
theorem may_else {k i : Int} {s : ByteArray} (h0 : k ≠ 0) (h1 : k ≠ 1) (h2 : k ≠ 2) (h3 : k ≠ 3) : Z.may ⟨k, i, s⟩ = false := by
  unfold Z.may; rw [if_neg h2, if_neg h1, if_neg h3, if_neg h0]
theorem below_one (w : World) (a : Obj) : Below w.heap.size w (w.alloc a) := (Below.refl _ _).alloc (Nat.le_refl _) _
/-- One call behind the other. -/
theorem bthen {a b c : World} (h : Below a.heap.size a b) (k : Below b.heap.size b c) : Below a.heap.size a c := h.trans (k.mono h.size)
/-- A value in memory stays, if its block does. -/
theorem val_kept {w w1 : World} {b : Nat} {x y z : Value} {t : TypeId} {fr : Nat × Nat} (h : w.heap[b]? = some (.cells #[x, y, z] t fr)) (hb : Below w.heap.size w w1) :
    w1.cell? ⟨b, 0, none⟩ = some x ∧ w1.cell? ⟨b, 1, none⟩ = some y ∧ w1.cell? ⟨b, 2, none⟩ = some z := by
  have h1 : w1.heap[b]? = some (.cells #[x, y, z] t fr) := by rw [hb.block b (lt_of_block h)]; exact h
  simp [World.cell?, h1]
/-- A value in a block. -/
def At (w : World) (b : Nat) (k i : Int) (s : ByteArray) : Prop := w.heap[b]? = some (.cells #[.int .i64 k, .int .i64 i, .string s] 23 (0, 0))
theorem At.below {w w' : World} {b : Nat} {k i : Int} {s : ByteArray} (h : At w b k i s) (hb : Below w.heap.size w w') : At w' b k i s := by
  unfold At at *; rw [hb.block b (lt_of_block h)]; exact h
theorem At.cells {w : World} {b : Nat} {k i : Int} {s : ByteArray} (h : At w b k i s) : w.cell? ⟨b, 0, none⟩ = some (.int .i64 k) ∧ w.cell? ⟨b, 1, none⟩ = some (.int .i64 i) ∧ w.cell? ⟨b, 2, none⟩ = some (.string s) := by
  unfold At at h; simp [World.cell?, h]
theorem At.thawed {w : World} {b : Nat} {k i : Int} {s : ByteArray} (h : At w b k i s) : w.frozen? ⟨b, 0, none⟩ = false ∧ w.frozen? ⟨b, 1, none⟩ = false ∧ w.frozen? ⟨b, 2, none⟩ = false := by
  unfold At at h; simp [World.frozen?, h]
theorem At.new (w : World) (k i : Int) (s : ByteArray) : At (w.alloc (.cells #[.int .i64 k, .int .i64 i, .string s] 23)) w.heap.size k i s := heap_alloc_new w _
theorem At.alloc {w : World} {b : Nat} {k i : Int} {s : ByteArray} (h : At w b k i s) (o : Obj) : At (w.alloc o) b k i s := by
  unfold At at *; rw [Below.heap_alloc _ _ _ (lt_of_block h)]; exact h
set_option maxHeartbeats 800000 in
theorem may_f (i : Int) (s : ByteArray) (w : World) (hi : Z.I64 i) : Calls Try.prog 14 #[.agg #[.int .i64 2, .int .i64 i, .string s]] w fun e w' => e = .returned (.bool (Z.may ⟨2, i, s⟩)) ∧ Below w.heap.size w w' := by
  have HM : Hid (Z.may ⟨2, i, s⟩ = (Z.same (Z.cl ⟨2, i, s⟩) ⟨2, i, s⟩ && s.toList.isEmpty)) := may_float
  have HC : Hid (∀ w, Calls Try.prog 16 #[.agg #[.int .i64 2, .int .i64 i, .string s]] w fun e w' => e = .returned (Z.cl ⟨2, i, s⟩).v ∧ Below w.heap.size w w') := fun w => vclean_any 2 i s w hi
  obtain ⟨c, hc⟩ : ∃ c, Z.cl ⟨2, i, s⟩ = ⟨2, c, s⟩ := ⟨_, rfl⟩
  rw [hc] at HM HC
  clear hc
  have hq := vne_run 2 c s 2 i s
  obtain ⟨b, hb⟩ : ∃ b, Z.same ⟨2, c, s⟩ ⟨2, i, s⟩ = b := ⟨_, rfl⟩
  rw [hb] at HM
  simp only [hb] at hq
  clear hb
  have hal := heap_alloc_new w (.cells #[.int .i64 2, .int .i64 i, .string s] 23)
  go_enter Try.func14, Try.ntmps14
  go_wp2_with fail
  cases b with
  | true =>
    simp only [Bool.not_true] at hq
    go_region_with (go_at_call 16; refine (HC.out _).mono ?_; rintro e w1 ⟨rfl, hb1⟩; obtain ⟨c0, c1, c2⟩ := val_kept (by exact hal) hb1; replace hb1 := hide hb1; simp only [Z.V.v])
    all_goals go_wp2
    all_goals go_ret
    all_goals exact ⟨by rw [HM.out]; rfl, bthen (below_one w _).drew hb1.out⟩
  | false =>
    simp only [Bool.not_false] at hq
    go_region_with (go_at_call 16; refine (HC.out _).mono ?_; rintro e w1 ⟨rfl, hb1⟩; obtain ⟨c0, c1, c2⟩ := val_kept (by exact hal) hb1; replace hb1 := hide hb1; simp only [Z.V.v])
    all_goals go_wp2
    all_goals go_ret
    all_goals exact ⟨by rw [HM.out]; rfl, bthen (below_one w _).drew hb1.out⟩
theorem may_any (k i : Int) (s : ByteArray) (w : World) (hi : Z.I64 i) : Calls Try.prog 14 #[.agg #[.int .i64 k, .int .i64 i, .string s]] w fun e w' => e = .returned (.bool (Z.may ⟨k, i, s⟩)) ∧ Below w.heap.size w w' := by
  by_cases k2 : k = 2
  · subst k2
    exact may_f i s w hi
  · by_cases k1 : k = 1
    · subst k1
      have HM : Hid (Z.may ⟨1, i, s⟩ = s.toList.isEmpty) := may_int
      go_enter Try.func14, Try.ntmps14
      go_wp2
      go_ret
      exact ⟨by rw [HM.out]; rfl, below_one _ _⟩
    · by_cases k3 : k = 3
      · subst k3
        have HM : Hid (Z.may ⟨3, i, s⟩ = ((i == 0) && decide ((s.size : Int) ≤ 1024))) := may_text
        cases hi0 : (i == 0) with
        | true =>
          rw [hi0] at HM
          go_enter Try.func14, Try.ntmps14
          go_wp2
          go_ret
          exact ⟨by rw [HM.out]; rfl, below_one _ _⟩
        | false =>
          rw [hi0] at HM
          go_enter Try.func14, Try.ntmps14
          go_wp2
          go_ret
          exact ⟨by rw [HM.out]; rfl, below_one _ _⟩
      · by_cases k0 : k = 0
        · subst k0
          have HM : Hid (Z.may ⟨0, i, s⟩ = Z.same ⟨0, i, s⟩ ⟨0, 0, ⟨#[]⟩⟩) := may_null
          have hq := veq_run 0 i s 0 0 ⟨#[]⟩
          obtain ⟨b, hb⟩ : ∃ b, Z.same ⟨0, i, s⟩ ⟨0, 0, ⟨#[]⟩⟩ = b := ⟨_, rfl⟩
          rw [hb] at HM
          simp only [hb] at hq
          clear hb
          go_enter Try.func14, Try.ntmps14
          go_wp2
          go_ret
          exact ⟨by rw [HM.out]; rfl, below_one _ _⟩
        · have HM : Hid (Z.may ⟨k, i, s⟩ = false) := may_else k0 k1 k2 k3
          go_enter Try.func14, Try.ntmps14
          go_wp2
          go_ret
          exact ⟨by rw [HM.out]; rfl, below_one _ _⟩
theorem pshown_any (w : World) : Calls Try.prog 9 #[] w fun e w' => e = .returned (.bool true) ∧ Below w.heap.size w w' := by
  have h1 : Z.cv ⟨0, 0, ⟨#[]⟩⟩ ⟨1, -5, ⟨#[]⟩⟩ = -1 := by decide
  have h2 : Z.may ⟨0, 0, ⟨#[]⟩⟩ = true := by decide
  go_enter Try.func9, Try.ntmps9
  go_wp2_with fail
  refine (vadd_out _ _ w (by unfold Z.I64; omega) (by unfold Z.I64; omega) (by omega)).mono ?_
  rintro e w1 ⟨rfl, rfl⟩
  go_wp2_with fail
  refine (vcompare_any _ _ _ _ _ _ _).mono ?_
  rintro e w1 ⟨rfl, hb1⟩
  rw [h1]
  replace hb1 := hide hb1
  go_wp2_with fail
  refine (may_any _ _ _ _ (by unfold Z.I64; omega)).mono ?_
  rintro e w2 ⟨rfl, hb2⟩
  rw [h2]
  replace hb2 := hide hb2
  go_wp2
  go_ret
  exact ⟨rfl, bthen hb1.out hb2.out⟩
end Go.Proofs.Ytahpbenobhodnaa

/- The contract of the reference's May. -/
import Derived.Test.YtahpbenobhodnaaZ7
import Derived.Test.YtahpbenobhodnaaV12
import Derived.Test.YtahpbenobhodnaaN2
namespace Go.Proofs.Ytahpbenobhodnaa
set_option linter.unusedVariables false
open Go.RowKit

theorem may_float2 {i : Int} {s : ByteArray} (hi : Z.I64 i) : Z.may ⟨2, i, s⟩ = (s.toList.isEmpty && (D.cl (Z.u i) == Z.u i)) := by
  rw [may_float, Bool.and_comm]
  congr 1
  unfold Z.same Z.cl
  simp
  rw [Bool.eq_iff_iff, beq_iff_eq, beq_iff_eq]
  constructor
  · intro h; rw [← Z.u_sg (D.cl_in (Z.u_in i)), h]
  · intro h; rw [h, Z.sg_u hi]
theorem may_null2 {i : Int} {s : ByteArray} : Z.may ⟨0, i, s⟩ = ((i == 0) && s.toList.isEmpty) := by
  rw [empty_of]; unfold Z.may; simp; rfl

def mayYesTbl (B : Nat) (i U C : Int) (s : ByteArray) (b : Bool) : List (Nat × V.Ent) :=
   [(1, V.Ent.is (.pointer (some ⟨B, 0, none⟩))),
    (22, V.Ent.is (.pointer (some ⟨B, 2, none⟩))),
    (23, V.Ent.is (.string s)),
    (24, V.Ent.is (.bool true)),
    (25, V.Ent.is (.bool true)),
    (26, V.Ent.is (.pointer (some ⟨B, 1, none⟩))),
    (27, V.Ent.is (.int .i64 i)),
    (28, V.Ent.is (.int .u64 U)),
    (29, V.Ent.is (.int .u64 C)),
    (30, V.Ent.is (.pointer (some ⟨B, 1, none⟩))),
    (31, V.Ent.is (.int .i64 i)),
    (32, V.Ent.is (.int .u64 U)),
    (33, V.Ent.is (.bool b)),
    (34, V.Ent.is (.bool b)),
    (2, V.Ent.is (.bool b))]

def mayNoTbl (B : Nat) (i U C : Int) (s : ByteArray) (b : Bool) : List (Nat × V.Ent) :=
   [(1, V.Ent.is (.pointer (some ⟨B, 0, none⟩))),
    (22, V.Ent.is (.pointer (some ⟨B, 2, none⟩))),
    (23, V.Ent.is (.string s)),
    (24, V.Ent.is (.bool false)),
    (25, V.Ent.is (.bool false)),
    (26, V.Ent.is (undef)),
    (27, V.Ent.is (undef)),
    (28, V.Ent.is (undef)),
    (29, V.Ent.is (undef)),
    (30, V.Ent.is (undef)),
    (31, V.Ent.is (undef)),
    (32, V.Ent.is (undef)),
    (33, V.Ent.is (undef)),
    (34, V.Ent.is (.bool false)),
    (2, V.Ent.is (.bool false))]

set_option maxHeartbeats 1000000 in
theorem umay_f (i : Int) (s : ByteArray) (w : World) (hi : Z.I64 i) : Calls Try.prog 24 #[.agg #[.int .i64 2, .int .i64 i, .string s]] w fun e w' => e = .returned (.bool (Z.may ⟨2, i, s⟩)) ∧ Below w.heap.size w w' := by
  have HM := hide (may_float2 (s := s) hi)
  have hU : IntKind.u64.wrap i = Z.u i := u64_wrap i
  have HI := Z.u_in i
  obtain ⟨b, hb⟩ : ∃ b, (D.cl (Z.u i) == Z.u i) = b := ⟨_, rfl⟩
  rw [hb] at HM
  have HC := hide fun w => rclean_any _ w HI.1 HI.2
  obtain ⟨U, hU2⟩ : ∃ U, Z.u i = U := ⟨_, rfl⟩
  rw [hU2] at hU hb HI HC
  obtain ⟨C, hC⟩ : ∃ C, D.cl U = C := ⟨_, rfl⟩
  rw [hC] at hb HC
  clear hU2 hC
  have hA := At.new w 2 i s
  cases hs : s.toList.isEmpty with
  | false =>
    rw [hs] at HM
    go_enter Try.func24, Try.ntmps24
    go_wp2_with fail
    refine V.wp_region2 (w0 := w.alloc (.cells #[.int .i64 2, .int .i64 i, .string s] 23)) [22, 23, 24, 25, 26, 27, 28, 29, 30, 31, 32, 33, 34, 2] [1] (mayNoTbl w.heap.size i U C s b) rfl (by kernel_rfl) (by kernel_rfl) (Below.refl _ _) ?hb ?hs ?hd
    case hb =>
      intro d hd
      simp only [List.mem_cons, List.not_mem_nil, or_false] at hd
      rcases hd with rfl <;> rfl
    case hs =>
      refine ⟨?_, ?_, ?_, ?_, ?_, ?_, ?_, ?_, ?_, ?_, ?_, ?_, ?_, ?_, trivial⟩
      · exact V.Step.field (.inl rfl) rfl rfl (by omega) (fun _ h => by cases h; rfl)
      · exact V.Step.loadS (.inl rfl) rfl rfl Try.underlying9 (V.At.lt hA) hA.cells.2.2 (fun _ h => by cases h; rfl)
      · exact V.Step.bin (v1 := .string s) (v2 := .string { data := #[] }) (v := .bool false) (.inl rfl) rfl (.inl ⟨_, rfl⟩) (.inr ⟨_, rfl⟩) rfl rfl (fun w => ⟨rfl, by simp [go_sem]; simpa using hs⟩) (fun _ h => by cases h; rfl)
      · exact V.Step.move (.inl rfl) (.inl rfl) (.inl ⟨_, rfl⟩) (fun _ h => by cases h; rfl)
      · exact V.Step.skip (.inl ⟨_, _, rfl, rfl, .inl rfl⟩) (fun _ h => by cases h; rfl)
      · exact V.Step.skip (.inl ⟨_, _, rfl, rfl, .inl rfl⟩) (fun _ h => by cases h; rfl)
      · exact V.Step.skip (.inl ⟨_, _, rfl, rfl, .inl rfl⟩) (fun _ h => by cases h; rfl)
      · exact V.Step.skip (.inl ⟨_, _, rfl, rfl, .inl rfl⟩) (fun _ h => by cases h; rfl)
      · exact V.Step.skip (.inl ⟨_, _, rfl, rfl, .inl rfl⟩) (fun _ h => by cases h; rfl)
      · exact V.Step.skip (.inl ⟨_, _, rfl, rfl, .inl rfl⟩) (fun _ h => by cases h; rfl)
      · exact V.Step.skip (.inl ⟨_, _, rfl, rfl, .inl rfl⟩) (fun _ h => by cases h; rfl)
      · exact V.Step.skip (.inl ⟨_, _, rfl, rfl, .inl rfl⟩) (fun _ h => by cases h; rfl)
      · exact V.Step.pick (b := false) (.inl rfl) rfl ⟨_, rfl, rfl⟩ (.inr ⟨_, rfl⟩) (fun _ h => by cases h; rfl)
      · exact V.Step.move (.inl rfl) (.inr rfl) (.inl ⟨_, rfl⟩) (fun _ h => by cases h; rfl)
    case hd =>
      intro vs w1 hw1 hk
      have h2 : vs 2 = .bool false := hk 13 _ 2 rfl rfl
      simp only [V.puts, List.foldl_cons, List.foldl_nil, h2, Act.put, List.setIfInBounds_toArray, List.set_cons_zero, List.set_cons_succ]
      go_wp2
      go_ret
      exact ⟨by rw [HM.out]; rfl, bthen (below_one w _) hw1⟩
  | true =>
    rw [hs] at HM
    go_enter Try.func24, Try.ntmps24
    go_wp2_with fail
    refine V.wp_region2 (w0 := w.alloc (.cells #[.int .i64 2, .int .i64 i, .string s] 23)) [22, 23, 24, 25, 26, 27, 28, 29, 30, 31, 32, 33, 34, 2] [1] (mayYesTbl w.heap.size i U C s b) rfl (by kernel_rfl) (by kernel_rfl) (Below.refl _ _) ?hb ?hs ?hd
    case hb =>
      intro d hd
      simp only [List.mem_cons, List.not_mem_nil, or_false] at hd
      rcases hd with rfl <;> rfl
    case hs =>
      refine ⟨?_, ?_, ?_, ?_, ?_, ?_, ?_, ?_, ?_, ?_, ?_, ?_, ?_, ?_, trivial⟩
      · exact V.Step.field (.inl rfl) rfl rfl (by omega) (fun _ h => by cases h; rfl)
      · exact V.Step.loadS (.inl rfl) rfl rfl Try.underlying9 (V.At.lt hA) hA.cells.2.2 (fun _ h => by cases h; rfl)
      · exact V.Step.bin (v1 := .string s) (v2 := .string { data := #[] }) (v := .bool true) (.inl rfl) rfl (.inl ⟨_, rfl⟩) (.inr ⟨_, rfl⟩) rfl rfl (fun w => ⟨rfl, by simp [go_sem]; simpa using hs⟩) (fun _ h => by cases h; rfl)
      · exact V.Step.move (.inl rfl) (.inl rfl) (.inl ⟨_, rfl⟩) (fun _ h => by cases h; rfl)
      · exact V.Step.field (.inr ⟨_, _, _, rfl, rfl, rfl⟩) rfl rfl (by omega) (fun _ h => by cases h; rfl)
      · exact V.Step.loadI (.inr ⟨_, _, _, rfl, rfl, rfl⟩) rfl rfl Try.underlying2 (V.At.lt hA) hA.cells.2.1 (fun _ h => by cases h; rfl)
      · exact V.Step.conv (v := .int .u64 U) (.inr ⟨_, _, _, rfl, rfl, rfl⟩) rfl rfl (fun w => by simp [go_sem, hU]) (fun _ h => by cases h; rfl)
      · exact V.Step.call1 (.inr ⟨_, _, _, rfl, rfl, rfl⟩) rfl rfl Try.func44 (by decide +kernel) rfl (fun w1 hw1 => (HC.out w1).mono (by rintro e w9 ⟨rfl, rfl⟩; exact ⟨_, rfl, Below.refl _ _, fun d h => by cases h; rfl⟩))
      · exact V.Step.field (.inr ⟨_, _, _, rfl, rfl, rfl⟩) rfl rfl (by omega) (fun _ h => by cases h; rfl)
      · exact V.Step.loadI (.inr ⟨_, _, _, rfl, rfl, rfl⟩) rfl rfl Try.underlying2 (V.At.lt hA) hA.cells.2.1 (fun _ h => by cases h; rfl)
      · exact V.Step.conv (v := .int .u64 U) (.inr ⟨_, _, _, rfl, rfl, rfl⟩) rfl rfl (fun w => by simp [go_sem, hU]) (fun _ h => by cases h; rfl)
      · exact V.Step.bin (v1 := .int .u64 C) (v2 := .int .u64 U) (v := .bool b) (.inr ⟨_, _, _, rfl, rfl, rfl⟩) rfl (.inl ⟨_, rfl⟩) (.inl ⟨_, rfl⟩) rfl rfl (fun w => ⟨rfl, by rw [V.eql_int _ .u64 _ _ Try.underlying48, hb]⟩) (fun _ h => by cases h; rfl)
      · exact V.Step.pick (b := true) (.inl rfl) rfl ⟨_, rfl, rfl⟩ (.inl ⟨_, rfl⟩) (fun _ h => by cases h; rfl)
      · exact V.Step.move (.inl rfl) (.inr rfl) (.inl ⟨_, rfl⟩) (fun _ h => by cases h; rfl)
    case hd =>
      intro vs w1 hw1 hk
      have h2 : vs 2 = .bool b := hk 13 _ 2 rfl rfl
      simp only [V.puts, List.foldl_cons, List.foldl_nil, h2, Act.put, List.setIfInBounds_toArray, List.set_cons_zero, List.set_cons_succ]
      go_wp2
      go_ret
      exact ⟨by rw [HM.out]; rfl, bthen (below_one w _) hw1⟩
theorem umay_any (k i : Int) (s : ByteArray) (w : World) (hi : Z.I64 i) : Calls Try.prog 24 #[.agg #[.int .i64 k, .int .i64 i, .string s]] w fun e w' => e = .returned (.bool (Z.may ⟨k, i, s⟩)) ∧ Below w.heap.size w w' := by
  by_cases k2 : k = 2
  · subst k2
    exact umay_f i s w hi
  · by_cases k1 : k = 1
    · subst k1
      have HM : Hid (Z.may ⟨1, i, s⟩ = s.toList.isEmpty) := may_int
      go_enter Try.func24, Try.ntmps24
      go_wp2
      go_ret
      exact ⟨by rw [HM.out]; rfl, below_one _ _⟩
    · by_cases k3 : k = 3
      · subst k3
        have HM : Hid (Z.may ⟨3, i, s⟩ = ((i == 0) && decide ((s.size : Int) ≤ 1024))) := may_text
        cases hi0 : (i == 0) with
        | true =>
          rw [hi0] at HM
          go_enter Try.func24, Try.ntmps24
          go_wp2
          go_ret
          exact ⟨by rw [HM.out]; rfl, below_one _ _⟩
        | false =>
          rw [hi0] at HM
          go_enter Try.func24, Try.ntmps24
          go_wp2
          go_ret
          exact ⟨by rw [HM.out]; rfl, below_one _ _⟩
      · by_cases k0 : k = 0
        · subst k0
          have HM : Hid (Z.may ⟨0, i, s⟩ = ((i == 0) && s.toList.isEmpty)) := may_null2
          cases hi0 : (i == 0) with
          | true =>
            rw [hi0] at HM
            go_enter Try.func24, Try.ntmps24
            go_wp2
            go_ret
            exact ⟨by rw [HM.out]; rfl, below_one _ _⟩
          | false =>
            rw [hi0] at HM
            go_enter Try.func24, Try.ntmps24
            go_wp2
            go_ret
            exact ⟨by rw [HM.out]; rfl, below_one _ _⟩
        · have HM : Hid (Z.may ⟨k, i, s⟩ = false) := may_else k0 k1 k2 k3
          go_enter Try.func24, Try.ntmps24
          go_wp2
          go_ret
          exact ⟨by rw [HM.out]; rfl, below_one _ _⟩
end Go.Proofs.Ytahpbenobhodnaa

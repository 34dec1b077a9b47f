/- The contract of the reference's May. -/
import Derived.Test.YtkcpfgjkplailaaBdH
import Derived.Test.YtkcpfgjkplailaaBdM
import Derived.Test.YtkcpfgjkplailaaBdP
import Derived.Test.YtkcpfgjkplailaaBdB
import Derived.Test.YtkcpfgjkplailaaBdC
import Derived.Laws.BytesArg
namespace Go.Proofs.Ytkcpfgjkplailaa
set_option linter.unusedVariables false
open Go.RowKit

theorem may_float2 {i : Int} {s : ByteArray} (hi : Z.I64 i) : Z.may ⟨2, i, s⟩ = (s.toList.isEmpty && (D.cl (Z.u i) == Z.u i)) := by
  rw [may_float, Bool.and_comm]
  congr 1
  unfold Z.same Z.cl
  simp
  rw [Bool.eq_iff_iff, beq_iff_eq, beq_iff_eq]
  constructor
  · intro h; rw [← Z.u_sg (D.cl_in (Z.u_in i)), h]
  · intro h; rw [h, Z.sg_u hi]
theorem may_null2 {i : Int} {s : ByteArray} : Z.may ⟨0, i, s⟩ = ((i == 0) && s.toList.isEmpty) := by
  rw [empty_of]; unfold Z.may; simp; rfl

def mayYesTbl (B : Nat) (i U C : Int) (s : ByteArray) (b : Bool) : List (Nat × V.Ent) :=
   [(1, V.Ent.is (.pointer (some ⟨B, 0, none⟩))),
    (22, V.Ent.is (.pointer (some ⟨B, 2, none⟩))),
    (23, V.Ent.is (.string s)),
    (24, V.Ent.is (.bool true)),
    (25, V.Ent.is (.bool true)),
    (26, V.Ent.is (.pointer (some ⟨B, 1, none⟩))),
    (27, V.Ent.is (.int .i64 i)),
    (28, V.Ent.is (.int .u64 U)),
    (29, V.Ent.is (.int .u64 C)),
    (30, V.Ent.is (.pointer (some ⟨B, 1, none⟩))),
    (31, V.Ent.is (.int .i64 i)),
    (32, V.Ent.is (.int .u64 U)),
    (33, V.Ent.is (.bool b)),
    (34, V.Ent.is (.bool b)),
    (2, V.Ent.is (.bool b))]

def mayNoTbl (B : Nat) (i U C : Int) (s : ByteArray) (b : Bool) : List (Nat × V.Ent) :=
   [(1, V.Ent.is (.pointer (some ⟨B, 0, none⟩))),
    (22, V.Ent.is (.pointer (some ⟨B, 2, none⟩))),
    (23, V.Ent.is (.string s)),
    (24, V.Ent.is (.bool false)),
    (25, V.Ent.is (.bool false)),
    (26, V.Ent.is (undef)),
    (27, V.Ent.is (undef)),
    (28, V.Ent.is (undef)),
    (29, V.Ent.is (undef)),
    (30, V.Ent.is (undef)),
    (31, V.Ent.is (undef)),
    (32, V.Ent.is (undef)),
    (33, V.Ent.is (undef)),
    (34, V.Ent.is (.bool false)),
    (2, V.Ent.is (.bool false))]

set_option maxHeartbeats 1000000 in
theorem umay_f (i : Int) (s : ByteArray) (w : World) (hi : Z.I64 i) : Calls Try.prog 53 #[.agg #[.int .i64 2, .int .i64 i, .string s]] w fun e w' => e = .returned (.bool (Z.may ⟨2, i, s⟩)) ∧ Below w.heap.size w w' := by
  have HM := hide (may_float2 (s := s) hi)
  have hU : IntKind.u64.wrap i = Z.u i := u64_wrap i
  have HI := Z.u_in i
  obtain ⟨b, hb⟩ : ∃ b, (D.cl (Z.u i) == Z.u i) = b := ⟨_, rfl⟩
  rw [hb] at HM
  have HC := hide fun w => rclean_any _ w HI.1 HI.2
  obtain ⟨U, hU2⟩ : ∃ U, Z.u i = U := ⟨_, rfl⟩
  rw [hU2] at hU hb HI HC
  obtain ⟨C, hC⟩ : ∃ C, D.cl U = C := ⟨_, rfl⟩
  rw [hC] at hb HC
  clear hU2 hC
  have hA := At.new w 2 i s
  cases hs : s.toList.isEmpty with
  | false =>
    rw [hs] at HM
    go_enter Try.func53, Try.ntmps53
    go_wp2_with fail
    refine V.wp_region2 (w0 := w.alloc (.cells #[.int .i64 2, .int .i64 i, .string s] 42)) [22, 23, 24, 25, 26, 27, 28, 29, 30, 31, 32, 33, 34, 2] [1] (mayNoTbl w.heap.size i U C s b) rfl (by kernel_rfl) (by kernel_rfl) (Below.refl _ _) ?hb ?hs ?hd
    case hb =>
      intro d hd
      simp only [List.mem_cons, List.not_mem_nil, or_false] at hd
      rcases hd with rfl <;> rfl
    case hs =>
      refine ⟨?_, ?_, ?_, ?_, ?_, ?_, ?_, ?_, ?_, ?_, ?_, ?_, ?_, ?_, trivial⟩
      · exact V.Step.field (.inl rfl) rfl rfl (by omega) (fun _ h => by cases h; rfl)
      · exact V.Step.loadS (.inl rfl) rfl rfl Try.underlying9 (V.At.lt hA) hA.cells.2.2 (fun _ h => by cases h; rfl)
      · exact V.Step.bin (v1 := .string s) (v2 := .string { data := #[] }) (v := .bool false) (.inl rfl) rfl (.inl ⟨_, rfl⟩) (.inr ⟨_, rfl⟩) rfl rfl (fun w => ⟨rfl, by simp [go_sem]; simpa using hs⟩) (fun _ h => by cases h; rfl)
      · exact V.Step.move (.inl rfl) (.inl rfl) (.inl ⟨_, rfl⟩) (fun _ h => by cases h; rfl)
      · exact V.Step.skip (.inl ⟨_, _, rfl, rfl, .inl rfl⟩) (fun _ h => by cases h; rfl)
      · exact V.Step.skip (.inl ⟨_, _, rfl, rfl, .inl rfl⟩) (fun _ h => by cases h; rfl)
      · exact V.Step.skip (.inl ⟨_, _, rfl, rfl, .inl rfl⟩) (fun _ h => by cases h; rfl)
      · exact V.Step.skip (.inl ⟨_, _, rfl, rfl, .inl rfl⟩) (fun _ h => by cases h; rfl)
      · exact V.Step.skip (.inl ⟨_, _, rfl, rfl, .inl rfl⟩) (fun _ h => by cases h; rfl)
      · exact V.Step.skip (.inl ⟨_, _, rfl, rfl, .inl rfl⟩) (fun _ h => by cases h; rfl)
      · exact V.Step.skip (.inl ⟨_, _, rfl, rfl, .inl rfl⟩) (fun _ h => by cases h; rfl)
      · exact V.Step.skip (.inl ⟨_, _, rfl, rfl, .inl rfl⟩) (fun _ h => by cases h; rfl)
      · exact V.Step.pick (b := false) (.inl rfl) rfl ⟨_, rfl, rfl⟩ (.inr ⟨_, rfl⟩) (fun _ h => by cases h; rfl)
      · exact V.Step.move (.inl rfl) (.inr rfl) (.inl ⟨_, rfl⟩) (fun _ h => by cases h; rfl)
    case hd =>
      intro vs w1 hw1 hk
      have h2 : vs 2 = .bool false := hk 13 _ 2 rfl rfl
      simp only [V.puts, List.foldl_cons, List.foldl_nil, h2, Act.put, List.setIfInBounds_toArray, List.set_cons_zero, List.set_cons_succ]
      go_wp2
      go_ret
      exact ⟨by rw [HM.out]; rfl, bthen (below_one w _) hw1⟩
  | true =>
    rw [hs] at HM
    go_enter Try.func53, Try.ntmps53
    go_wp2_with fail
    refine V.wp_region2 (w0 := w.alloc (.cells #[.int .i64 2, .int .i64 i, .string s] 42)) [22, 23, 24, 25, 26, 27, 28, 29, 30, 31, 32, 33, 34, 2] [1] (mayYesTbl w.heap.size i U C s b) rfl (by kernel_rfl) (by kernel_rfl) (Below.refl _ _) ?hb ?hs ?hd
    case hb =>
      intro d hd
      simp only [List.mem_cons, List.not_mem_nil, or_false] at hd
      rcases hd with rfl <;> rfl
    case hs =>
      refine ⟨?_, ?_, ?_, ?_, ?_, ?_, ?_, ?_, ?_, ?_, ?_, ?_, ?_, ?_, trivial⟩
      · exact V.Step.field (.inl rfl) rfl rfl (by omega) (fun _ h => by cases h; rfl)
      · exact V.Step.loadS (.inl rfl) rfl rfl Try.underlying9 (V.At.lt hA) hA.cells.2.2 (fun _ h => by cases h; rfl)
      · exact V.Step.bin (v1 := .string s) (v2 := .string { data := #[] }) (v := .bool true) (.inl rfl) rfl (.inl ⟨_, rfl⟩) (.inr ⟨_, rfl⟩) rfl rfl (fun w => ⟨rfl, by simp [go_sem]; simpa using hs⟩) (fun _ h => by cases h; rfl)
      · exact V.Step.move (.inl rfl) (.inl rfl) (.inl ⟨_, rfl⟩) (fun _ h => by cases h; rfl)
      · exact V.Step.field (.inr ⟨_, _, _, rfl, rfl, rfl⟩) rfl rfl (by omega) (fun _ h => by cases h; rfl)
      · exact V.Step.loadI (.inr ⟨_, _, _, rfl, rfl, rfl⟩) rfl rfl Try.underlying2 (V.At.lt hA) hA.cells.2.1 (fun _ h => by cases h; rfl)
      · exact V.Step.conv (v := .int .u64 U) (.inr ⟨_, _, _, rfl, rfl, rfl⟩) rfl rfl (fun w => by simp [go_sem, hU]) (fun _ h => by cases h; rfl)
      · exact V.Step.call1 (.inr ⟨_, _, _, rfl, rfl, rfl⟩) rfl rfl Try.func70 (by decide +kernel) rfl (fun w1 hw1 => (HC.out w1).mono (by rintro e w9 ⟨rfl, rfl⟩; exact ⟨_, rfl, Below.refl _ _, fun d h => by cases h; rfl⟩))
      · exact V.Step.field (.inr ⟨_, _, _, rfl, rfl, rfl⟩) rfl rfl (by omega) (fun _ h => by cases h; rfl)
      · exact V.Step.loadI (.inr ⟨_, _, _, rfl, rfl, rfl⟩) rfl rfl Try.underlying2 (V.At.lt hA) hA.cells.2.1 (fun _ h => by cases h; rfl)
      · exact V.Step.conv (v := .int .u64 U) (.inr ⟨_, _, _, rfl, rfl, rfl⟩) rfl rfl (fun w => by simp [go_sem, hU]) (fun _ h => by cases h; rfl)
      · exact V.Step.bin (v1 := .int .u64 C) (v2 := .int .u64 U) (v := .bool b) (.inr ⟨_, _, _, rfl, rfl, rfl⟩) rfl (.inl ⟨_, rfl⟩) (.inl ⟨_, rfl⟩) rfl rfl (fun w => ⟨rfl, by rw [V.eql_int _ .u64 _ _ Try.underlying48, hb]⟩) (fun _ h => by cases h; rfl)
      · exact V.Step.pick (b := true) (.inl rfl) rfl ⟨_, rfl, rfl⟩ (.inl ⟨_, rfl⟩) (fun _ h => by cases h; rfl)
      · exact V.Step.move (.inl rfl) (.inr rfl) (.inl ⟨_, rfl⟩) (fun _ h => by cases h; rfl)
    case hd =>
      intro vs w1 hw1 hk
      have h2 : vs 2 = .bool b := hk 13 _ 2 rfl rfl
      simp only [V.puts, List.foldl_cons, List.foldl_nil, h2, Act.put, List.setIfInBounds_toArray, List.set_cons_zero, List.set_cons_succ]
      go_wp2
      go_ret
      exact ⟨by rw [HM.out]; rfl, bthen (below_one w _) hw1⟩
theorem umay_any (k i : Int) (s : ByteArray) (w : World) (hi : Z.I64 i) : Calls Try.prog 53 #[.agg #[.int .i64 k, .int .i64 i, .string s]] w fun e w' => e = .returned (.bool (Z.may ⟨k, i, s⟩)) ∧ Below w.heap.size w w' := by
  by_cases k2 : k = 2
  · subst k2
    exact umay_f i s w hi
  · by_cases k1 : k = 1
    · subst k1
      have HM : Hid (Z.may ⟨1, i, s⟩ = s.toList.isEmpty) := may_int
      go_enter Try.func53, Try.ntmps53
      go_wp2
      go_ret
      exact ⟨by rw [HM.out]; rfl, below_one _ _⟩
    · by_cases k3 : k = 3
      · subst k3
        have HM : Hid (Z.may ⟨3, i, s⟩ = ((i == 0) && decide ((s.size : Int) ≤ 1024))) := may_text
        cases hi0 : (i == 0) with
        | true =>
          rw [hi0] at HM
          go_enter Try.func53, Try.ntmps53
          go_wp2
          go_ret
          exact ⟨by rw [HM.out]; rfl, below_one _ _⟩
        | false =>
          rw [hi0] at HM
          go_enter Try.func53, Try.ntmps53
          go_wp2
          go_ret
          exact ⟨by rw [HM.out]; rfl, below_one _ _⟩
      · by_cases k0 : k = 0
        · subst k0
          have HM : Hid (Z.may ⟨0, i, s⟩ = ((i == 0) && s.toList.isEmpty)) := may_null2
          cases hi0 : (i == 0) with
          | true =>
            rw [hi0] at HM
            go_enter Try.func53, Try.ntmps53
            go_wp2
            go_ret
            exact ⟨by rw [HM.out]; rfl, below_one _ _⟩
          | false =>
            rw [hi0] at HM
            go_enter Try.func53, Try.ntmps53
            go_wp2
            go_ret
            exact ⟨by rw [HM.out]; rfl, below_one _ _⟩
        · have HM : Hid (Z.may ⟨k, i, s⟩ = false) := may_else k0 k1 k2 k3
          go_enter Try.func53, Try.ntmps53
          go_wp2
          go_ret
          exact ⟨by rw [HM.out]; rfl, below_one _ _⟩
end Go.Proofs.Ytkcpfgjkplailaa
/- Check: may values be a column's? The program's answer, and the document's. -/
namespace Go.Proofs.Ytkcpfgjkplailaa
set_option linter.unusedVariables false
open Go.RowKit

theorem iscol_any (kind : Int) (w : World) : Calls Try.prog 44 #[.int .i64 kind] w fun e w' => e = .returned (.bool (Z.kindOk kind)) ∧ w' = w := by
  by_cases k1 : kind = 1
  · subst k1
    go_enter Try.func44, Try.ntmps44
    go_wp2
    go_ret
    exact ⟨rfl, rfl⟩
  · by_cases k2 : kind = 2
    · subst k2
      go_enter Try.func44, Try.ntmps44
      go_wp2
      go_ret
      exact ⟨rfl, rfl⟩
    · by_cases k3 : kind = 3
      · subst k3
        go_enter Try.func44, Try.ntmps44
        go_wp2
        go_ret
        exact ⟨rfl, rfl⟩
      · have HK : Hid (Z.kindOk kind = false) := by show _ = _; unfold Z.kindOk; simp [k1, k2, k3]
        have e1 : (kind == 1) = false := by simpa using k1
        have e2 : (kind == 2) = false := by simpa using k2
        have e3 : (kind == 3) = false := by simpa using k3
        go_enter Try.func44, Try.ntmps44
        go_wp2
        go_ret
        exact ⟨by rw [HK.out]; rfl, rfl⟩
theorem kinds_any (kind : Int) (w : World) : Calls Try.prog 52 #[.int .i64 kind] w fun e w' => e = .returned (.bool (Z.kindOk kind)) ∧ w' = w := by
  by_cases k1 : kind = 1
  · subst k1
    go_enter Try.func52, Try.ntmps52
    go_wp2
    go_ret
    exact ⟨rfl, rfl⟩
  · by_cases k2 : kind = 2
    · subst k2
      go_enter Try.func52, Try.ntmps52
      go_wp2
      go_ret
      exact ⟨rfl, rfl⟩
    · by_cases k3 : kind = 3
      · subst k3
        go_enter Try.func52, Try.ntmps52
        go_wp2
        go_ret
        exact ⟨rfl, rfl⟩
      · have HK : Hid (Z.kindOk kind = false) := by show _ = _; unfold Z.kindOk; simp [k1, k2, k3]
        have e1 : (kind == 1) = false := by simpa using k1
        have e2 : (kind == 2) = false := by simpa using k2
        have e3 : (kind == 3) = false := by simpa using k3
        go_enter Try.func52, Try.ntmps52
        go_wp2
        go_ret
        exact ⟨by rw [HK.out]; rfl, rfl⟩
theorem chk_kind {l : List Z.V} {kind : Int} (h : Z.kindOk kind = false) : Z.chk l kind = 1 := by unfold Z.chk; rw [if_pos h]
theorem chk_many {l : List Z.V} {kind : Int} (h : Z.kindOk kind = true) (h1 : 4096 < l.length) : Z.chk l kind = 2 := by unfold Z.chk; rw [h, if_neg (by decide), if_pos h1]
theorem chk_other {l : List Z.V} {kind : Int} (h : Z.kindOk kind = true) (h1 : l.length ≤ 4096) (h2 : l.any (Z.isOther kind) = true) : Z.chk l kind = 7 := by
  unfold Z.chk; rw [h, if_neg (by decide), if_neg (by omega)]
  exact if_pos h2
theorem chk_mayNot {l : List Z.V} {kind : Int} (h : Z.kindOk kind = true) (h1 : l.length ≤ 4096) (h2 : l.any (Z.isOther kind) = false) (h3 : l.any Z.mayNot = true) : Z.chk l kind = 1 := by
  unfold Z.chk; rw [h, if_neg (by decide), if_neg (by omega)]
  exact (if_neg (by show ¬ l.any (Z.isOther kind) = true; rw [h2]; decide)).trans (if_pos h3)
theorem chk_yes {l : List Z.V} {kind : Int} (h : Z.kindOk kind = true) (h1 : l.length ≤ 4096) (h2 : l.any (Z.isOther kind) = false) (h3 : l.any Z.mayNot = false) : Z.chk l kind = 0 := by
  unfold Z.chk; rw [h, if_neg (by decide), if_neg (by omega)]
  exact (if_neg (by show ¬ l.any (Z.isOther kind) = true; rw [h2]; decide)).trans (if_neg (by show ¬ l.any Z.mayNot = true; rw [h3]; decide))

set_option maxHeartbeats 1000000 in
theorem check_any (ao : Option Addr) (len cap : Nat) (l : List Z.V) (kind : Int) (w : World) (h : SlV w ao len cap l) (hI : ∀ x ∈ l, Z.I64 x.i) :
    Calls Try.prog 20 #[.slice ao len cap, .int .i64 kind] w fun e w' => e = .returned (.int .i64 (Z.chk l kind)) ∧ Below w.heap.size w w' := by
  have hmf : ∀ (fn : Fn) (first cap : Array Value) (w : World), (Instr.makeFunc fn first cap).run Try.prog w = .ok (.func fn first cap) w := fun _ _ _ _ => rfl
  have hb := heap_alloc_new w (.cells #[.int .i64 kind] 3)
  have b0 := hide (below_one w (.cells #[.int .i64 kind] 3))
  have HS := hide (h.below b0.out)
  have HI := hide hI
  have HL := hide h.1
  obtain ⟨c1, _⟩ := cell_of_heap hb
  have HB := hide hb
  clear h hI hb
  obtain ⟨q, hq⟩ : ∃ q, Z.kindOk kind = q := ⟨_, rfl⟩
  have HQ := hide hq
  clear hq
  go_enter Try.func20, Try.ntmps20
  go_wp2_with fail
  refine (iscol_any _ _).mono ?_
  rintro e w1 ⟨rfl, rfl⟩
  rw [HQ.out]
  cases q with
  | false =>
    go_wp2
    go_ret
    exact ⟨by rw [chk_kind HQ.out]; rfl, b0.out⟩
  | true =>
    by_cases hm : 4096 < len
    · go_wp2
      go_ret
      exact ⟨by rw [chk_many HQ.out (by rw [HL.out]; exact hm)]; rfl, b0.out⟩
    · go_wp2_with fail
      refine (contains_other _ _ _ l w.heap.size kind _ HS.out (by omega) HB.out).mono ?_
      rintro e w1 ⟨rfl, hb1⟩
      replace b0 := hide (bthen b0.out hb1)
      replace HS := hide (HS.out.below hb1)
      obtain ⟨q2, hq2⟩ : ∃ q, l.any (Z.isOther kind) = q := ⟨_, rfl⟩
      have HQ2 := hide hq2
      rw [hq2]
      clear hq2 hb1
      cases q2 with
      | true =>
        go_wp2
        go_ret
        exact ⟨by rw [chk_other HQ.out (by rw [HL.out]; omega) HQ2.out]; rfl, b0.out⟩
      | false =>
        go_wp2_with fail
        refine (contains_mayNot _ _ _ l _ HS.out (by omega) HI.out).mono ?_
        rintro e w2 ⟨rfl, hb2⟩
        replace b0 := hide (bthen b0.out hb2)
        obtain ⟨q3, hq3⟩ : ∃ q, l.any Z.mayNot = q := ⟨_, rfl⟩
        have HQ3 := hide hq3
        rw [hq3]
        clear hq3 hb2
        cases q3 with
        | true =>
          go_wp2
          go_ret
          exact ⟨by rw [chk_mayNot HQ.out (by rw [HL.out]; omega) HQ2.out HQ3.out]; rfl, b0.out⟩
        | false =>
          go_wp2
          go_ret
          exact ⟨by rw [chk_yes HQ.out (by rw [HL.out]; omega) HQ2.out HQ3.out]; rfl, b0.out⟩
end Go.Proofs.Ytkcpfgjkplailaa
/- The document's Check. -/
namespace Go.Proofs.Ytkcpfgjkplailaa
set_option linter.unusedVariables false
open Go.RowKit

set_option maxHeartbeats 1000000 in
theorem rcheck_some (b off len cap : Nat) (l : List Z.V) (kind : Int) (w : World) (hl : l.length = len) (hm : len ≤ 4096) (hlt : b < w.heap.size) (hk : Z.kindOk kind = true) (hI : ∀ x ∈ l, Z.I64 x.i)
    (hc : ∀ j x, l[j]? = some x → w.cell? ⟨b, off + j * 3, none⟩ = some (.int .i64 x.k) ∧ w.cell? ⟨b, off + j * 3 + 1, none⟩ = some (.int .i64 x.i) ∧ w.cell? ⟨b, off + j * 3 + 2, none⟩ = some (.string x.s)) :
    Calls Try.prog 26 #[.slice (some ⟨b, off, none⟩) len cap, .int .i64 kind] w fun e w' => e = .returned (.int .i64 (Z.chk l kind)) ∧ Below w.heap.size w w' := by
  have HC := hide hc
  have HL := hide hl
  have HI := hide hI
  have HK := hide hk
  clear hc hl hI hk
  go_enter Try.func26, Try.ntmps26
  go_wp2_with fail
  refine (kinds_any _ _).mono ?_
  rintro e w1 ⟨rfl, rfl⟩
  rw [HK.out]
  go_wp2_with fail
  go_loopw [5] (fun i wr => ∃ j : Nat, j ≤ len ∧ i = .int .i64 j ∧ Hid ((l.take j).any (Z.isOther kind) = false) ∧ Hid (Below w1.heap.size w1 wr)) (fun i _ => len - (intOf i).toNat)
  case atStart => exact ⟨0, Nat.zero_le _, rfl, hide rfl, hide (Below.refl _ _)⟩
  case round =>
    obtain ⟨j, hj, rfl, han, hbw⟩ := hrel
    by_cases hjl : j < len
    · obtain ⟨⟨xk, xi, xs⟩, hx⟩ : ∃ x, l[j]? = some x := ⟨l[j]'(by rw [HL.out]; exact hjl), List.getElem?_eq_getElem _⟩
      obtain ⟨c1, c2, c3⟩ := HC.out j _ hx
      have d1 : wr.cell? ⟨b, off + j * 3, none⟩ = some (.int .i64 xk) := by rw [hbw.out.cell (p := ⟨b, off + j * 3, none⟩) hlt]; exact c1
      obtain ⟨q, hq⟩ : ∃ q, (xk != kind) = q := ⟨_, rfl⟩
      have HQ : Hid (Z.isOther kind ⟨xk, xi, xs⟩ = q) := hq
      have HX := hide hx
      clear c1 c2 c3 hx
      cases q with
      | true =>
        go_wp2
        go_ret
        exact ⟨by rw [chk_other HK.out (by rw [HL.out]; exact hm) (any_get HX.out HQ.out)]; rfl, hbw.out⟩
      | false =>
        go_wp2
        go_roundw
        case rel => exact ⟨j + 1, hjl, by go_num, hide (any_take HX.out HQ.out han.out), hbw⟩
        case measure => simp [intOf]; omega
    · obtain rfl : j = len := by omega
      have HE : Hid (l.any (Z.isOther kind) = false) := by
        have := han.out
        rwa [← HL.out, List.take_length] at this
      have HB0 := hide hbw.out.size
      clear han
      go_wp2_with fail
      go_loopw [6] (fun i wq => ∃ k : Nat, k ≤ j ∧ i = .int .i64 k ∧ Hid ((l.take k).any Z.mayNot = false) ∧ Hid (Below w1.heap.size w1 wq)) (fun i _ => j - (intOf i).toNat)
      case atStart => exact ⟨0, Nat.zero_le _, rfl, hide rfl, hbw⟩
      case round =>
        obtain ⟨k, hkj, rfl, han, hbq⟩ := hrel
        by_cases hjl : k < j
        · obtain ⟨⟨xk, xi, xs⟩, hx⟩ : ∃ x, l[k]? = some x := ⟨l[k]'(by rw [HL.out]; exact hjl), List.getElem?_eq_getElem _⟩
          obtain ⟨c1, c2, c3⟩ := HC.out k _ hx
          have d1 : wr.cell? ⟨b, off + k * 3, none⟩ = some (.int .i64 xk) := by rw [hbq.out.cell (p := ⟨b, off + k * 3, none⟩) hlt]; exact c1
          have d2 : wr.cell? ⟨b, off + k * 3 + 1, none⟩ = some (.int .i64 xi) := by rw [hbq.out.cell (p := ⟨b, off + k * 3 + 1, none⟩) hlt]; exact c2
          have d3 : wr.cell? ⟨b, off + k * 3 + 2, none⟩ = some (.string xs) := by rw [hbq.out.cell (p := ⟨b, off + k * 3 + 2, none⟩) hlt]; exact c3
          have HX := hide hx
          have HXI := hide (HI.out _ (List.mem_of_getElem? hx))
          clear c1 c2 c3 hx
          go_wp2_with fail
          refine (umay_any _ _ _ _ HXI.out).mono ?_
          rintro e w2 ⟨rfl, hw2⟩
          have HBN := hide (bthen hbq.out hw2)
          obtain ⟨q, hq⟩ : ∃ q, Z.may ⟨xk, xi, xs⟩ = q := ⟨_, rfl⟩
          have HQ := hide hq
          rw [hq]
          clear hw2 hq d1 d2 d3
          cases q with
          | false =>
            go_wp2
            go_ret
            exact ⟨by rw [chk_mayNot HK.out (by rw [HL.out]; exact hm) HE.out (any_get HX.out (show Z.mayNot _ = true by unfold Z.mayNot; rw [HQ.out]; rfl))]; rfl, HBN.out⟩
          | true =>
            go_wp2
            go_roundw
            case rel => exact ⟨k + 1, hjl, by go_num, hide (any_take HX.out (show Z.mayNot _ = false by unfold Z.mayNot; rw [HQ.out]; rfl) han.out), HBN⟩
            case measure => simp [intOf]; omega
        · obtain rfl : k = j := by omega
          have HE2 : Hid (l.any Z.mayNot = false) := by
            have := han.out
            rwa [← HL.out, List.take_length] at this
          go_wp2
          go_ret
          exact ⟨by rw [chk_yes HK.out (by rw [HL.out]; exact hm) HE.out HE2.out]; rfl, hbq.out⟩
theorem rcheck_none (ao : Option Addr) (cap : Nat) (kind : Int) (w : World) (hk : Z.kindOk kind = true) :
    Calls Try.prog 26 #[.slice ao 0 cap, .int .i64 kind] w fun e w' => e = .returned (.int .i64 (Z.chk [] kind)) ∧ Below w.heap.size w w' := by
  have HK := hide hk
  clear hk
  go_enter Try.func26, Try.ntmps26
  go_wp2_with fail
  refine (kinds_any _ _).mono ?_
  rintro e w1 ⟨rfl, rfl⟩
  rw [HK.out]
  go_wp2_with fail
  go_rounds 1
  go_wp2_with fail
  go_rounds 1
  go_ret
  exact ⟨by rw [chk_yes HK.out (by simp) rfl rfl]; rfl, Below.refl _ _⟩
theorem rcheck_any (ao : Option Addr) (len cap : Nat) (l : List Z.V) (kind : Int) (w : World) (h : SlV w ao len cap l) (hI : ∀ x ∈ l, Z.I64 x.i) :
    Calls Try.prog 26 #[.slice ao len cap, .int .i64 kind] w fun e w' => e = .returned (.int .i64 (Z.chk l kind)) ∧ Below w.heap.size w w' := by
  cases hk : Z.kindOk kind with
  | false =>
    have HK := hide hk
    clear hk
    go_enter Try.func26, Try.ntmps26
    go_wp2_with fail
    refine (kinds_any _ _).mono ?_
    rintro e w1 ⟨rfl, rfl⟩
    rw [HK.out]
    go_wp2
    go_ret
    exact ⟨by rw [chk_kind HK.out]; rfl, Below.refl _ _⟩
  | true =>
    have HK := hide hk
    by_cases hm : 4096 < len
    · have HL := hide h.1
      clear hk h
      go_enter Try.func26, Try.ntmps26
      go_wp2_with fail
      refine (kinds_any _ _).mono ?_
      rintro e w1 ⟨rfl, rfl⟩
      rw [HK.out]
      go_wp2
      go_ret
      exact ⟨by rw [chk_many HK.out (by rw [HL.out]; exact hm)]; rfl, Below.refl _ _⟩
    · rcases h.2.2.2.2 with h5 | ⟨b, off, rfl, hlt, h5⟩
      · subst h5
        obtain rfl : l = [] := List.eq_nil_of_length_eq_zero h.1
        exact rcheck_none ao cap kind w hk
      · exact rcheck_some b off len cap l kind w h.1 (by omega) hlt hk hI h5
end Go.Proofs.Ytkcpfgjkplailaa
/- The contract of Pack. -/
namespace Go.Proofs.Ytkcpfgjkplailaa
set_option linter.unusedVariables false
open Go.RowKit

/-- A new Writer. -/
theorem Wr.fresh (w : World) : Wr (w.alloc (.cells #[.slice none 0 0, .int .i64 0] 76)) w.heap.size (.slice none 0 0) [] :=
  ⟨heap_alloc_new w _, World.ownsRow_nil _ _ _ _⟩

theorem WS.below {w w' : World} {v' : Value} (o : Obj) (h : WS w.heap.size (w.alloc o) (.slice none 0 0) w' v') : Below w.heap.size w w' := by
  have h1 := ((Kept.refl (fun k => w.heap.size ≤ k) w).alloc o).trans' h.1 (by
    rintro x (rfl | hx)
    · exact .inl (Nat.le_refl _)
    · simp [Value.ownBlock] at hx)
  exact h1.below (Nat.le_refl _) (fun k hk => hk)

set_option maxHeartbeats 400000 in
theorem pack_arg (ao : Option Addr) (len cap : Nat) (k : Int) (w : World) (h : k < 0 ∨ 64 < k) :
    Calls Try.prog 22 #[.slice ao len cap, .int .i64 k] w fun e w' => e = .returned (.tuple #[.slice none 0 0, .int .i64 1]) ∧ w' = w := by
  go_enter Try.func22, Try.ntmps22
  go_wp2_with (go_at_call 47; refine (may_no _ _ h).mono ?_; rintro e w' ⟨rfl, rfl⟩)
  go_ret2
  exact ⟨rfl, rfl⟩

set_option maxHeartbeats 400000 in
theorem pack_some (b off len cap : Nat) (l : List Int) (k : Nat) (w : World) (hl : l.length = len) (hm : len * 64 + 64 < 1099511627776) (hb : b < w.heap.size) (hc : ∀ i, i < len → w.cell? ⟨b, off + i, none⟩ = some (.int .u64 (l.getD i 0))) (hin : In64 l) (hk : k ≤ 64) :
    Calls Try.prog 22 #[.slice (some ⟨b, off, none⟩) len cap, .int .i64 k] w fun e w' =>
      (Fit l k ∧ ∃ v', e = .returned (.tuple #[v', .int .i64 0]) ∧ w'.ownsRow w.heap.size 5 1 v' (A.bytesOf (bitsAll l k)).length (B8 (A.bytesOf (bitsAll l k))) ∧ Below w.heap.size w w') ∨
      (¬ Fit l k ∧ e = .returned (.tuple #[.slice none 0 0, .int .i64 1]) ∧ Below w.heap.size w w') := by
  have HI := hide hin
  clear hin
  go_enter Try.func22, Try.ntmps22
  go_wp2_with (go_at_call 47; refine (may_yes _ _ (by omega) (by omega)).mono ?_; rintro e w' ⟨rfl, rfl⟩)
  go_loopw [17] (fun i wr => ∃ j : Nat, j ≤ len ∧ i = .int .i64 j ∧ Fit (l.take j) k ∧ ∃ v1, Wr wr w'.heap.size v1 (bitsAll (l.take j) k) ∧ WS w'.heap.size (w'.alloc (.cells #[.slice none 0 0, .int .i64 0] 76)) (.slice none 0 0) wr v1) (fun i _ => len - (intOf i).toNat)
  case atStart => exact ⟨0, Nat.zero_le _, rfl, by intro x hx; simp at hx, _, Wr.fresh w', WS.refl _ _ _⟩
  case round =>
    obtain ⟨j, hj, rfl, hfit, v1, hw1, hs1⟩ := hrel
    have hbel := WS.below _ hs1
    have hbl := bitsAll_le l k j hk
    by_cases hlt : j < len
    · have hck : wr.cell? ⟨b, off + j, none⟩ = some (.int .u64 (l.getD j 0)) := by rw [hbel.cell (p := ⟨b, off + j, none⟩) hb]; exact hc j hlt
      obtain ⟨h0, h1⟩ := HI.out.getD j
      have HT := hide (take_snocD l j (by omega))
      have HF : Hid (l.getD j 0 < (2 : Int) ^ k → Fit (l.take (j + 1)) k) := fun hx => hfit.snoc (by omega) hx
      have HM : Hid (l.getD j 0 ∈ l) := by have : l.getD j 0 = l[j] := by simp [List.getD, show j < l.length by omega]
                                           show l.getD j 0 ∈ l
                                           rw [this]; exact List.getElem_mem _
      have HS := hide hs1
      have HB := hide hbel
      obtain ⟨x, hxe⟩ : ∃ x, l.getD j 0 = x := ⟨_, rfl⟩
      rw [hxe] at hck h0 h1 HT HF HM
      clear hc hfit hs1 hbel hxe
      by_cases hx : x < (2 : Int) ^ k
      · have HX := hide hx
        clear hx
        go_wp2_with fail
        refine (put_yes _ v1 _ x k wr hw1 (by omega) h0 HX.out h1 hk).mono ?_
        rintro e w2 ⟨rfl, v2, hw2, hs2⟩
        go_wp2
        go_roundw
        case rel => exact ⟨j + 1, by omega, by go_num, HF.out HX.out, v2, by rw [HT.out, bitsAll_snoc]; exact hw2, HS.out.trans hs2⟩
        case measure => simp [intOf]; omega
      · have HX := hide (Int.not_lt.1 hx)
        clear hx
        go_wp2_with fail
        refine (put_no _ x k wr h0 h1 (.inr (.inr (by rw [Int.toNat_natCast]; exact HX.out)))).mono ?_
        rintro e w2 ⟨rfl, rfl⟩
        go_wp2
        go_ret2
        exact .inr ⟨fun hf => Int.not_lt.2 HX.out (hf x HM.out), rfl, HB.out⟩
    · have hjl : j = len := by omega
      subst hjl
      rw [List.take_of_length_le (by omega)] at hw1 hfit
      rw [List.take_of_length_le (by omega)] at hbl
      have HF := hide hfit
      have HB := hide hbel
      clear hfit hbel hs1 hc
      go_wp2_with fail
      refine (bytes_any _ v1 _ wr hw1 (by omega)).mono ?_
      rintro e w2 ⟨v2, rfl, ho2, hb2⟩
      go_wp2
      go_ret2
      have hs := HB.out.size
      exact .inl ⟨HF.out, v2, rfl, owns_base ho2 fun g hg => by have := (owns_lt ho2 hg).1; omega, HB.out.trans (hb2.mono hs)⟩

set_option maxHeartbeats 400000 in
theorem pack_none (ao : Option Addr) (cap : Nat) (k : Nat) (w : World) (hk : k ≤ 64) :
    Calls Try.prog 22 #[.slice ao 0 cap, .int .i64 k] w fun e w' =>
      ∃ v', e = .returned (.tuple #[v', .int .i64 0]) ∧ w'.ownsRow w.heap.size 5 1 v' 0 [] ∧ Below w.heap.size w w' := by
  go_enter Try.func22, Try.ntmps22
  go_wp2_with (go_at_call 47; refine (may_yes _ _ (by omega) (by omega)).mono ?_; rintro e w' ⟨rfl, rfl⟩)
  go_loopw [17] (fun i wr => i = .int .i64 0 ∧ wr = w'.alloc (.cells #[.slice none 0 0, .int .i64 0] 76)) (fun _ _ => 0)
  case atStart => exact ⟨rfl, rfl⟩
  case round =>
    obtain ⟨rfl, rfl⟩ := hrel
    go_wp2_with fail
    refine (bytes_any _ _ _ _ (Wr.fresh w') (by simp)).mono ?_
    rintro e w2 ⟨v2, rfl, ho2, hb2⟩
    go_wp2
    go_ret2
    exact ⟨v2, rfl, owns_base ho2 fun g hg => by have := (owns_lt ho2 hg).1; simp at this; omega, ((Below.refl _ _).alloc (Nat.le_refl _) _).trans (hb2.mono (by simp))⟩

/-- Pack: of whatever numbers, with a width that may be. -/
theorem pack_any (ao : Option Addr) (len cap : Nat) (l : List Int) (k : Nat) (w : World) (h : Sl w .u64 ao len cap l) (hm : len * 64 + 64 < 1099511627776) (hin : In64 l) (hk : k ≤ 64) :
    Calls Try.prog 22 #[.slice ao len cap, .int .i64 k] w fun e w' =>
      (Fit l k ∧ ∃ v', e = .returned (.tuple #[v', .int .i64 0]) ∧ w'.ownsRow w.heap.size 5 1 v' (A.bytesOf (bitsAll l k)).length (B8 (A.bytesOf (bitsAll l k))) ∧ Below w.heap.size w w') ∨
      (¬ Fit l k ∧ e = .returned (.tuple #[.slice none 0 0, .int .i64 1]) ∧ Below w.heap.size w w') := by
  obtain ⟨h1, h2, h3, h4, h5⟩ := h
  by_cases h0 : len = 0
  · subst h0
    obtain rfl : l = [] := List.eq_nil_of_length_eq_zero h1
    refine (pack_none ao cap k w hk).mono ?_
    rintro e w' ⟨v', he, ho, hb⟩
    exact .inl ⟨(by intro x hx; simp at hx), v', he, by simpa [bitsAll, A.bytesOf, B8] using ho, hb⟩
  · rcases h5 with h5 | ⟨b, off, rfl, hlt, h5⟩
    · omega
    · exact pack_some b off len cap l k w h1 hm hlt h5 hin hk
end Go.Proofs.Ytkcpfgjkplailaa
/- The text of bytes; the statements' own head: 'shown'. -/
namespace Go.Proofs.Ytkcpfgjkplailaa
set_option linter.unusedVariables false
open Go.RowKit

theorem Sl.three (w : World) (t : TypeId) (a b c : Int) : Sl (w.alloc (.cells #[.int .u64 a, .int .u64 b, .int .u64 c] t)) .u64 (some ⟨w.heap.size, 0, none⟩) 3 3 [a, b, c] := by
  refine ⟨rfl, Nat.le_refl _, by decide, by simp, .inr ⟨_, _, rfl, by simp, ?_⟩⟩
  intro i hi
  match i, hi with
  | 0, _ => simp
  | 1, _ => simp
  | 2, _ => simp

theorem bytes_517 : A.bytesOf (bitsAll [5, 1, 7] 3) = [205, 1] := by decide
theorem width_517 : bitLen (orAll [5, 1, 7]) = 3 := by decide
theorem str_517 : strOfNums (ints [205, 1]) = ⟨#[205, 1]⟩ := by decide
theorem fit_517 : Fit [5, 1, 7] 3 := by
  intro x hx
  simp at hx
  rcases hx with rfl | rfl | rfl <;> decide
theorem in_517 : In64 [5, 1, 7] := by
  intro x hx
  simp at hx
  rcases hx with rfl | rfl | rfl <;> decide

end Go.Proofs.Ytkcpfgjkplailaa

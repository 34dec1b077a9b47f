/- The walk of the statement: of any three values there is one order; of two that may be, and of which neither is ahead, both are the same. -/
import Derived.Test.YtahpbenobhodnaaZ5
import Derived.Test.YtahpbenobhodnaaRV
namespace Go.Proofs.Ytahpbenobhodnaa
set_option linter.unusedVariables false
open Go.RowKit

theorem may_same (a b : Z.V) (ha : a.In) (hb : b.In) : (Z.may a && (Z.may b && ((Z.cv a b == 0) != Z.same a b))) = false := by
  cases h1 : Z.may a with
  | false => rfl
  | true => cases h2 : Z.may b with
    | false => rfl
    | true =>
      show ((Z.cv a b == 0) != Z.same a b) = false
      cases h3 : Z.same a b with
      | true =>
        rw [(Z.same_iff a b).1 h3, Z.cv_refl]; rfl
      | false =>
        by_cases h4 : Z.cv a b = 0
        · have := (Z.same_iff a b).2 (Z.cv_may ha hb h1 h2 h4)
          rw [this] at h3; exact absurd h3 (by simp)
        · simp [h4]
set_option maxHeartbeats 8000000 in
theorem valOne_walk (w : World) (ak ai : Int) (az : ByteArray) (hak : Z.I64 ak) (hai : Z.I64 ai) (haz : az.size ≤ maxLen) (bk bi : Int) (bz : ByteArray) (hbk : Z.I64 bk) (hbi : Z.I64 bi) (hbz : bz.size ≤ maxLen) (ck ci : Int) (cz : ByteArray) (hck : Z.I64 ck) (hci : Z.I64 ci) (hcz : cz.size ≤ maxLen) :
    Calls Try.prog 5 #[.agg #[.int .i64 ak, .int .i64 ai, .string az], .agg #[.int .i64 bk, .int .i64 bi, .string bz], .agg #[.int .i64 ck, .int .i64 ci, .string cz]] w fun e w' => e = .returned (.bool true) ∧ Below w.heap.size w w' := by
  have hord := Z.cv_ord ⟨ak, ai, az⟩ ⟨bk, bi, bz⟩ ⟨ck, ci, cz⟩
  have hms := may_same ⟨ak, ai, az⟩ ⟨bk, bi, bz⟩ ⟨hak, hai⟩ ⟨hbk, hbi⟩
  have hrf := Z.cv_refl ⟨ak, ai, az⟩
  have hxr := Z.cv_range ⟨ak, ai, az⟩ ⟨bk, bi, bz⟩
  have CX := hide fun w => vcompare_any ak ai az bk bi bz w
  have CY := hide fun w => vcompare_any bk bi bz ck ci cz w
  have CZ := hide fun w => vcompare_any ak ai az ck ci cz w
  have CB := hide fun w => vcompare_any bk bi bz ak ai az w
  have CR := hide fun w => vcompare_any ak ai az ak ai az w
  have MA := hide fun w => may_any ak ai az w hai
  have MB := hide fun w => may_any bk bi bz w hbi
  have hq := veq_run ak ai az bk bi bz
  generalize Z.cv ⟨ak, ai, az⟩ ⟨bk, bi, bz⟩ = x at *
  generalize Z.cv ⟨bk, bi, bz⟩ ⟨ck, ci, cz⟩ = y at *
  generalize Z.cv ⟨ak, ai, az⟩ ⟨ck, ci, cz⟩ = z at *
  generalize Z.cv ⟨bk, bi, bz⟩ ⟨ak, ai, az⟩ = x2 at *
  generalize Z.cv ⟨ak, ai, az⟩ ⟨ak, ai, az⟩ = x3 at *
  generalize Z.may ⟨ak, ai, az⟩ = m1 at *
  generalize Z.may ⟨bk, bi, bz⟩ = m2 at *
  generalize Z.same ⟨ak, ai, az⟩ ⟨bk, bi, bz⟩ = sm at *
  obtain ⟨o1, o2, o3⟩ := hord
  subst o1
  subst hrf
  have hcase : m1 = false ∨ (m1 = true ∧ m2 = false) ∨ (m1 = true ∧ m2 = true ∧ x = 0 ∧ sm = true) ∨ (m1 = true ∧ m2 = true ∧ x ≠ 0 ∧ sm = false) := by
    cases m1 <;> cases m2 <;> cases sm <;> simp at hms ⊢
    · exact hms
    · exact hms
  have hpath : (0 < x) ∨ (¬ 0 < x ∧ 0 < y ∧ 0 ≤ x) ∨ (¬ 0 < x ∧ 0 < y ∧ ¬ 0 ≤ x ∧ 0 ≤ y) ∨ (¬ 0 < x ∧ ¬ 0 < y ∧ z ≤ 0 ∧ 0 ≤ x) ∨ (¬ 0 < x ∧ ¬ 0 < y ∧ z ≤ 0 ∧ ¬ 0 ≤ x ∧ 0 ≤ y) ∨ (¬ 0 < x ∧ ¬ 0 < y ∧ z ≤ 0 ∧ ¬ 0 ≤ x ∧ ¬ 0 ≤ y ∧ z < 0) := by omega
  have HP := hide hpath
  have HC := hide hcase
  clear hms hpath hcase o2 o3 hak hai haz hbk hbi hbz hck hci hcz
  have b0 : Below w.heap.size w (((w.alloc (.cells #[.int .i64 ak, .int .i64 ai, .string az] 23)).alloc (.cells #[.int .i64 bk, .int .i64 bi, .string bz] 23)).alloc (.cells #[.int .i64 ck, .int .i64 ci, .string cz] 23)) := (below_two w _ _).alloc (by simp; omega) _
  have hA := ((At.new w ak ai az).alloc (.cells #[.int .i64 bk, .int .i64 bi, .string bz] 23)).alloc (.cells #[.int .i64 ck, .int .i64 ci, .string cz] 23)
  have hB := (At.new (w.alloc (.cells #[.int .i64 ak, .int .i64 ai, .string az] 23)) bk bi bz).alloc (.cells #[.int .i64 ck, .int .i64 ci, .string cz] 23)
  have hC := At.new ((w.alloc (.cells #[.int .i64 ak, .int .i64 ai, .string az] 23)).alloc (.cells #[.int .i64 bk, .int .i64 bi, .string bz] 23)) ck ci cz
  simp only [World.size_alloc] at hB hC
  replace b0 := hide b0
  go_enter Try.func5, Try.ntmps5
  go_wp2_with fail
  refine (pshown_any _).mono ?_
  rintro e w1 ⟨rfl, hb⟩
  replace b0 := hide (bthen b0.out hb)
  replace hA := hA.below hb; replace hB := hB.below hb; replace hC := hC.below hb
  clear hb
  obtain ⟨a1, a2, a3⟩ := hA.cells; obtain ⟨b1, b2, b3⟩ := hB.cells; obtain ⟨c1, c2, c3⟩ := hC.cells
  replace hA := hide hA; replace hB := hide hB; replace hC := hide hC
  go_wp2_with fail
  refine (CX.out _).mono ?_
  rintro e w2 ⟨rfl, hb⟩
  replace b0 := hide (bthen b0.out hb)
  replace hA := hA.out.below hb; replace hB := hB.out.below hb; replace hC := hC.out.below hb
  clear hb a1 a2 a3 b1 b2 b3 c1 c2 c3
  obtain ⟨a1, a2, a3⟩ := hA.cells; obtain ⟨b1, b2, b3⟩ := hB.cells; obtain ⟨c1, c2, c3⟩ := hC.cells
  replace hA := hide hA; replace hB := hide hB; replace hC := hide hC
  go_wp2_with fail
  refine (CY.out _).mono ?_
  rintro e w3 ⟨rfl, hb⟩
  replace b0 := hide (bthen b0.out hb)
  replace hA := hA.out.below hb; replace hB := hB.out.below hb; replace hC := hC.out.below hb
  clear hb a1 a2 a3 b1 b2 b3 c1 c2 c3
  obtain ⟨a1, a2, a3⟩ := hA.cells; obtain ⟨b1, b2, b3⟩ := hB.cells; obtain ⟨c1, c2, c3⟩ := hC.cells
  replace hA := hide hA; replace hB := hide hB; clear hC
  go_wp2_with fail
  refine (CZ.out _).mono ?_
  rintro e w4 ⟨rfl, hb⟩
  replace b0 := hide (bthen b0.out hb)
  replace hA := hA.out.below hb; replace hB := hB.out.below hb
  clear hb a1 a2 a3 b1 b2 b3 c1 c2 c3
  obtain ⟨a1, a2, a3⟩ := hA.cells; obtain ⟨b1, b2, b3⟩ := hB.cells
  replace hA := hide hA; replace hB := hide hB
  go_wp2_with fail
  refine (CB.out _).mono ?_
  rintro e w5 ⟨rfl, hb⟩
  replace b0 := hide (bthen b0.out hb)
  replace hA := hA.out.below hb; replace hB := hB.out.below hb
  clear hb a1 a2 a3 b1 b2 b3
  obtain ⟨a1, a2, a3⟩ := hA.cells; obtain ⟨b1, b2, b3⟩ := hB.cells
  replace hA := hide hA; replace hB := hide hB
  go_wp2_with fail
  refine (MA.out _).mono ?_
  rintro e w6 ⟨rfl, hb⟩
  replace b0 := hide (bthen b0.out hb)
  replace hA := hA.out.below hb; replace hB := hB.out.below hb
  clear hb a1 a2 a3 b1 b2 b3
  obtain ⟨a1, a2, a3⟩ := hA.cells; obtain ⟨b1, b2, b3⟩ := hB.cells
  replace hA := hide hA; replace hB := hide hB
  rcases HC.out with rfl | ⟨rfl, rfl⟩ | ⟨rfl, rfl, rfl, rfl⟩ | ⟨rfl, rfl, hx0, rfl⟩
  · clear HC
    rcases HP.out with p1 | ⟨p1, p2, p3⟩ | ⟨p1, p2, p3, p4⟩ | ⟨p1, p2, p3, p4⟩ | ⟨p1, p2, p3, p4, p5⟩ | ⟨p1, p2, p3, p4, p5, p6⟩
    all_goals
      clear HP
      go_wp2_with fail
      refine (CR.out _).mono ?_
      rintro e w9 ⟨rfl, hb⟩
      replace b0 := hide (bthen b0.out hb)
      clear hb
      go_wp2
      go_ret
      exact ⟨rfl, b0.out⟩
  · clear HC
    go_wp2_with fail
    refine (MB.out _).mono ?_
    rintro e w7 ⟨rfl, hb⟩
    replace b0 := hide (bthen b0.out hb)
    replace hA := hA.out.below hb; replace hB := hB.out.below hb
    clear hb a1 a2 a3 b1 b2 b3
    obtain ⟨a1, a2, a3⟩ := hA.cells; obtain ⟨b1, b2, b3⟩ := hB.cells
    replace hA := hide hA; replace hB := hide hB
    rcases HP.out with p1 | ⟨p1, p2, p3⟩ | ⟨p1, p2, p3, p4⟩ | ⟨p1, p2, p3, p4⟩ | ⟨p1, p2, p3, p4, p5⟩ | ⟨p1, p2, p3, p4, p5, p6⟩
    all_goals
      clear HP
      go_wp2_with fail
      refine (CR.out _).mono ?_
      rintro e w9 ⟨rfl, hb⟩
      replace b0 := hide (bthen b0.out hb)
      clear hb
      go_wp2
      go_ret
      exact ⟨rfl, b0.out⟩
  · clear HC
    go_wp2_with fail
    refine (MB.out _).mono ?_
    rintro e w7 ⟨rfl, hb⟩
    replace b0 := hide (bthen b0.out hb)
    replace hA := hA.out.below hb; replace hB := hB.out.below hb
    clear hb a1 a2 a3 b1 b2 b3
    obtain ⟨a1, a2, a3⟩ := hA.cells; obtain ⟨b1, b2, b3⟩ := hB.cells
    replace hA := hide hA; replace hB := hide hB
    rcases HP.out with p1 | ⟨p1, p2, p3⟩ | ⟨p1, p2, p3, p4⟩ | ⟨p1, p2, p3, p4⟩ | ⟨p1, p2, p3, p4, p5⟩ | ⟨p1, p2, p3, p4, p5, p6⟩
    all_goals
      clear HP
      go_wp2_with fail
      refine (CR.out _).mono ?_
      rintro e w9 ⟨rfl, hb⟩
      replace b0 := hide (bthen b0.out hb)
      clear hb
      go_wp2
      go_ret
      exact ⟨rfl, b0.out⟩
  · clear HC
    go_wp2_with fail
    refine (MB.out _).mono ?_
    rintro e w7 ⟨rfl, hb⟩
    replace b0 := hide (bthen b0.out hb)
    replace hA := hA.out.below hb; replace hB := hB.out.below hb
    clear hb a1 a2 a3 b1 b2 b3
    obtain ⟨a1, a2, a3⟩ := hA.cells; obtain ⟨b1, b2, b3⟩ := hB.cells
    replace hA := hide hA; replace hB := hide hB
    rcases HP.out with p1 | ⟨p1, p2, p3⟩ | ⟨p1, p2, p3, p4⟩ | ⟨p1, p2, p3, p4⟩ | ⟨p1, p2, p3, p4, p5⟩ | ⟨p1, p2, p3, p4, p5, p6⟩
    all_goals try (exfalso; omega)
    all_goals
      clear HP
      go_wp2_with fail
      refine (CR.out _).mono ?_
      rintro e w9 ⟨rfl, hb⟩
      replace b0 := hide (bthen b0.out hb)
      clear hb
      go_wp2
      go_ret
      exact ⟨rfl, b0.out⟩
end Go.Proofs.Ytahpbenobhodnaa

/- The contracts of strings.Compare, and of val's Clean, Compare. -/
import Derived.Test.YtahpbenobhodnaaZ2
import Derived.Test.YtahpbenobhodnaaM5
namespace Go.Proofs.Ytahpbenobhodnaa
set_option linter.unusedVariables false
open Go.RowKit

theorem cmprun_run (s t : ByteArray) (w : World) : (callFunc 59 #[.string s, .string t]).run Try.prog w = .ok (.value (.int .i64 (Z.cs s t))) w := by
  rw [run_callFunc_extern (fn := Try.f59) (e := Extern.BytealgCompare.compare) Try.func59 (by kernel_rfl) (by kernel_rfl) (by kernel_rfl) (by kernel_rfl), Lib.run_compareString]
  rfl
theorem cmpstr_any (s t : ByteArray) (w : World) : Calls Try.prog 51 #[.string s, .string t] w fun e w' => e = .returned (.int .i64 (Z.cs s t)) ∧ w' = w := by
  have hf := cmprun_run s t w
  go_enter Try.func51, Try.ntmps51
  go_wp2
  go_ret
  exact ⟨rfl, rfl⟩
theorem strcmp_any (s t : ByteArray) (w : World) : Calls Try.prog 40 #[.string s, .string t] w fun e w' => e = .returned (.int .i64 (Z.cs s t)) ∧ w' = w := by
  go_enter Try.func40, Try.ntmps40
  go_wp2_with fail
  refine (cmpstr_any s t w).mono ?_
  rintro e w1 ⟨rfl, rfl⟩
  go_wp2
  go_ret
  exact ⟨rfl, rfl⟩
theorem i64_wrap (n : Int) : IntKind.i64.wrap n = if 9223372036854775808 ≤ n % 18446744073709551616 then n % 18446744073709551616 - 18446744073709551616 else n % 18446744073709551616 := by
  simp [IntKind.wrap, IntKind.bits, IntKind.signed]
theorem i64_sg {b : Int} (h : D.In64 b) : IntKind.i64.wrap b = Z.sg b := by
  unfold D.In64 at h; rw [i64_wrap]; unfold Z.sg; split <;> split <;> omega
theorem wrap64_sg {b : Int} (h : D.In64 b) : wrap64 b = Z.sg b := by
  unfold D.In64 at h; unfold wrap64 Z.sg; split <;> omega
theorem vclean_any (k i : Int) (s : ByteArray) (w : World) (hi : Z.I64 i) : Calls Try.prog 16 #[.agg #[.int .i64 k, .int .i64 i, .string s]] w fun e w' => e = .returned (Z.cl ⟨k, i, s⟩).v ∧ Below w.heap.size w w' := by
  by_cases h : k = 2
  · subst h
    have HU : Hid (IntKind.u64.wrap i = Z.u i) := u64_wrap i
    have HI := Z.u_in i
    go_enter Try.func16, Try.ntmps16
    go_wp2_with fail
    rw [HU.out]
    refine (clean_any _ _ HI.1 HI.2).mono ?_
    rintro e w1 ⟨rfl, rfl⟩
    go_wp2
    have HW : Hid (wrap64 (D.cl (Z.u i)) = Z.sg (D.cl (Z.u i))) := wrap64_sg (D.cl_in HI)
    refine bodyPost_ret (v := (Z.cl ⟨2, i, s⟩).v) (by simp [results, Try.results16, go_sem, HW.out, Z.cl, Z.V.v]) rfl ⟨rfl, ?_⟩
    exact ((Below.refl _ _).alloc (Nat.le_refl _) _).alloc (by simp) _
  · go_enter Try.func16, Try.ntmps16
    go_wp2
    refine bodyPost_ret (v := (Z.cl ⟨k, i, s⟩).v) (by simp [results, Try.results16, go_sem, Z.cl, Z.V.v, h]) rfl ⟨rfl, ?_⟩
    exact ((Below.refl _ _).alloc (Nat.le_refl _) _).alloc (by simp) _
theorem cv_kind {ak ai bk bi : Int} {az bz : ByteArray} (h : ak ≠ bk) : Z.cv ⟨ak, ai, az⟩ ⟨bk, bi, bz⟩ = Z.ci ak bk := by unfold Z.cv; rw [if_neg h]
theorem cv_int {ai bi : Int} {az bz : ByteArray} : Z.cv ⟨1, ai, az⟩ ⟨1, bi, bz⟩ = Z.ci ai bi := by unfold Z.cv; rw [if_pos rfl, if_pos rfl]
theorem cv_float {ai bi : Int} {az bz : ByteArray} : Z.cv ⟨2, ai, az⟩ ⟨2, bi, bz⟩ = D.cp (Z.u ai) (Z.u bi) := by unfold Z.cv; rw [if_pos rfl, if_neg (by simp), if_pos rfl]
theorem cv_text {ai bi : Int} {az bz : ByteArray} : Z.cv ⟨3, ai, az⟩ ⟨3, bi, bz⟩ = Z.cs az bz := by unfold Z.cv; rw [if_pos rfl, if_neg (by simp), if_neg (by simp), if_pos rfl]
theorem cv_else {k ai bi : Int} {az bz : ByteArray} (h1 : k ≠ 1) (h2 : k ≠ 2) (h3 : k ≠ 3) : Z.cv ⟨k, ai, az⟩ ⟨k, bi, bz⟩ = 0 := by unfold Z.cv; rw [if_pos rfl, if_neg h1, if_neg h2, if_neg h3]
theorem ci_self (k : Int) : Z.ci k k = 0 := by unfold Z.ci; simp
theorem ci_ne {a b : Int} (h : a ≠ b) : Z.ci a b ≠ 0 := by rcases Z.ci_cases a b with ⟨h1, g1⟩ | ⟨h1, g1⟩ | ⟨h1, g1⟩ <;> omega
/-- Two blocks more. -/
theorem below_two (w : World) (a b : Obj) : Below w.heap.size w ((w.alloc a).alloc b) := ((Below.refl _ _).alloc (Nat.le_refl _) _).alloc (by simp) _
theorem vcompare_any (ak ai : Int) (az : ByteArray) (bk bi : Int) (bz : ByteArray) (w : World) :
    Calls Try.prog 15 #[.agg #[.int .i64 ak, .int .i64 ai, .string az], .agg #[.int .i64 bk, .int .i64 bi, .string bz]] w fun e w' => e = .returned (.int .i64 (Z.cv ⟨ak, ai, az⟩ ⟨bk, bi, bz⟩)) ∧ Below w.heap.size w w' := by
  by_cases hk : ak = bk
  · subst hk
    have h0 := ci_self ak
    by_cases k1 : ak = 1
    · subst k1
      go_enter Try.func15, Try.ntmps15
      go_wp2_with fail
      refine (cmpi_any _ _ _).mono ?_
      rintro e w1 ⟨rfl, rfl⟩
      rw [h0]
      clear h0
      go_wp2_with fail
      refine (cmpl_any _ _ _).mono ?_
      rintro e w2 ⟨rfl, rfl⟩
      go_wp2
      go_ret
      exact ⟨by rw [cv_int]; rfl, below_two _ _ _⟩
    · by_cases k2 : ak = 2
      · subst k2
        have HA : Hid (IntKind.u64.wrap ai = Z.u ai) := u64_wrap ai
        have HB : Hid (IntKind.u64.wrap bi = Z.u bi) := u64_wrap bi
        have HI := Z.u_in ai
        have HJ := Z.u_in bi
        go_enter Try.func15, Try.ntmps15
        go_wp2_with fail
        refine (cmpi_any _ _ _).mono ?_
        rintro e w1 ⟨rfl, rfl⟩
        rw [h0]
        clear h0
        go_wp2_with fail
        rw [HA.out, HB.out]
        refine (compare_any _ _ _ HI.1 HI.2 HJ.1 HJ.2).mono ?_
        rintro e w2 ⟨rfl, rfl⟩
        go_wp2
        go_ret
        exact ⟨by rw [cv_float]; rfl, below_two _ _ _⟩
      · by_cases k3 : ak = 3
        · subst k3
          go_enter Try.func15, Try.ntmps15
          go_wp2_with fail
          refine (cmpi_any _ _ _).mono ?_
          rintro e w1 ⟨rfl, rfl⟩
          rw [h0]
          clear h0
          go_wp2_with fail
          refine (strcmp_any _ _ _).mono ?_
          rintro e w2 ⟨rfl, rfl⟩
          go_wp2
          go_ret
          exact ⟨by rw [cv_text]; rfl, below_two _ _ _⟩
        · go_enter Try.func15, Try.ntmps15
          go_wp2_with fail
          refine (cmpi_any _ _ _).mono ?_
          rintro e w1 ⟨rfl, rfl⟩
          rw [h0]
          clear h0
          go_wp2
          go_ret
          exact ⟨by rw [cv_else k1 k2 k3]; rfl, below_two _ _ _⟩
  · have h0 := ci_ne hk
    have HV : Hid (Z.cv ⟨ak, ai, az⟩ ⟨bk, bi, bz⟩ = Z.ci ak bk) := cv_kind hk
    go_enter Try.func15, Try.ntmps15
    go_wp2_with fail
    refine (cmpi_any _ _ _).mono ?_
    rintro e w1 ⟨rfl, rfl⟩
    obtain ⟨c, hc⟩ : ∃ c, Z.ci ak bk = c := ⟨_, rfl⟩
    rw [hc] at h0 HV ⊢
    clear hc
    go_wp2
    go_ret
    exact ⟨by rw [HV.out]; rfl, below_two _ _ _⟩
end Go.Proofs.Ytahpbenobhodnaa

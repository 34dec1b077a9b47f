/- The contracts of cmp.Compare, strings.Compare at the types that val asks them at; of val's Clean, Compare, May, Add. -/
import Derived.Test.YtmhfpipeoojacaaGreatBdA
import Derived.Test.YtmhfpipeoojacaaGreatBdJ
import Derived.Test.YtmhfpipeoojacaaGreatBdG
import Derived.Test.YtmhfpipeoojacaaGreatBdH
import Derived.Deep.RegionWith
namespace Go.Proofs.YtmhfpipeoojacaaGreat
set_option linter.unusedVariables false
open Go.RowKit

theorem nani_any (x : Int) (w : World) : Calls Tryz.prog 107 #[.int .i64 x] w fun e w' => e = .returned (.bool false) ∧ w' = w := by
  go_enter Tryz.func107, Tryz.ntmps107
  go_wp2
  go_ret
  exact ⟨by simp, rfl⟩
theorem nanl_any (x : Int) (w : World) : Calls Tryz.prog 108 #[.int .i64 x] w fun e w' => e = .returned (.bool false) ∧ w' = w := by
  go_enter Tryz.func108, Tryz.ntmps108
  go_wp2
  go_ret
  exact ⟨by simp, rfl⟩
theorem cmpi_any (x y : Int) (w : World) : Calls Tryz.prog 76 #[.int .i64 x, .int .i64 y] w fun e w' => e = .returned (.int .i64 (Z.ci x y)) ∧ w' = w := by
  have HC : Hid (Z.ci x y = if x < y then -1 else if y < x then 1 else 0) := by show _ = _; rfl
  go_enter Tryz.func76, Tryz.ntmps76
  go_wp2_with fail
  refine (nani_any x w).mono ?_
  rintro e w1 ⟨rfl, rfl⟩
  go_wp2_with fail
  refine (nani_any y w1).mono ?_
  rintro e w2 ⟨rfl, rfl⟩
  by_cases hl : x < y
  · go_wp2
    go_ret
    exact ⟨by rw [HC.out, if_pos hl]; rfl, rfl⟩
  · by_cases hg : y < x
    · go_wp2
      go_ret
      exact ⟨by rw [HC.out, if_neg (by omega), if_pos hg]; rfl, rfl⟩
    · go_wp2
      go_ret
      exact ⟨by rw [HC.out, if_neg (by omega), if_neg (by omega)]; rfl, rfl⟩
theorem cmpl_any (x y : Int) (w : World) : Calls Tryz.prog 77 #[.int .i64 x, .int .i64 y] w fun e w' => e = .returned (.int .i64 (Z.ci x y)) ∧ w' = w := by
  have HC : Hid (Z.ci x y = if x < y then -1 else if y < x then 1 else 0) := by show _ = _; rfl
  go_enter Tryz.func77, Tryz.ntmps77
  go_wp2_with fail
  refine (nanl_any x w).mono ?_
  rintro e w1 ⟨rfl, rfl⟩
  go_wp2_with fail
  refine (nanl_any y w1).mono ?_
  rintro e w2 ⟨rfl, rfl⟩
  by_cases hl : x < y
  · go_wp2
    go_ret
    exact ⟨by rw [HC.out, if_pos hl]; rfl, rfl⟩
  · by_cases hg : y < x
    · go_wp2
      go_ret
      exact ⟨by rw [HC.out, if_neg (by omega), if_pos hg]; rfl, rfl⟩
    · go_wp2
      go_ret
      exact ⟨by rw [HC.out, if_neg (by omega), if_neg (by omega)]; rfl, rfl⟩
end Go.Proofs.YtmhfpipeoojacaaGreat
/- The contracts of flt's isNaN, Clean, Key, Bits, Compare. -/
namespace Go.Proofs.YtmhfpipeoojacaaGreat
set_option linter.unusedVariables false
open Go.RowKit

def KeptClean : Prop := ∀ (b : Int) (w : World), 0 ≤ b → b < 18446744073709551616 → Calls Tryz.prog 111 #[.int .u64 b] w fun e w' => e = .returned (.int .u64 (D.cl b)) ∧ w' = w
def KeptKey : Prop := ∀ (b : Int) (w : World), 0 ≤ b → b < 18446744073709551616 → Calls Tryz.prog 89 #[.int .u64 b] w fun e w' => e = .returned (.int .u64 (D.ky b)) ∧ w' = w
def KeptBits : Prop := ∀ (b : Int) (w : World), 0 ≤ b → b < 18446744073709551616 → Calls Tryz.prog 123 #[.int .u64 b] w fun e w' => e = .returned (.int .u64 (D.bt b)) ∧ w' = w
def KeptCompare : Prop := ∀ (a b : Int) (w : World), 0 ≤ a → a < 18446744073709551616 → 0 ≤ b → b < 18446744073709551616 → Calls Tryz.prog 78 #[.int .u64 a, .int .u64 b] w fun e w' => e = .returned (.int .i64 (D.cp a b)) ∧ w' = w
theorem isnan_any (b : Int) (w : World) (h0 : 0 ≤ b) (h1 : b < 18446744073709551616) :
    Calls Tryz.prog 121 #[.int .u64 b] w fun e w' => e = .returned (.bool (D.isN b)) ∧ w' = w := by
  have ha := D.andNot_top ⟨h0, h1⟩
  have HN : Hid (decide (9218868437227405312 < b % 9223372036854775808) = D.isN b) := D.isN_over ⟨h0, h1⟩
  go_enter Tryz.func121, Tryz.ntmps121
  go_wp2
  go_ret
  exact ⟨by rw [← HN.out]; rfl, rfl⟩
theorem clean_any : KeptClean := by
  intro b w h0 h1
  go_enter Tryz.func111, Tryz.ntmps111
  go_wp2_with fail
  refine (isnan_any b w h0 h1).mono ?_
  rintro e w1 ⟨rfl, rfl⟩
  cases hb : D.isN b with
  | false =>
    have HC : Hid (D.cl b = b) := D.cl_num hb
    go_wp2
    go_ret
    exact ⟨by rw [HC.out]; rfl, rfl⟩
  | true =>
    have HC : Hid (D.cl b = 9221120237041090560) := D.cl_nan hb
    go_wp2
    go_ret
    exact ⟨by rw [HC.out]; rfl, rfl⟩
theorem key_any : KeptKey := by
  intro b w h0 h1
  have hc := D.cl_in (b := b) ⟨h0, h1⟩
  go_enter Tryz.func89, Tryz.ntmps89
  go_wp2_with fail
  refine (clean_any b w h0 h1).mono ?_
  rintro e w1 ⟨rfl, rfl⟩
  obtain ⟨c, hce⟩ : ∃ c, D.cl b = c := ⟨_, rfl⟩
  rw [hce] at hc ⊢
  have HK : Hid (D.ky b = if 9223372036854775808 ≤ c then 18446744073709551615 - c else c + 9223372036854775808) := by show _ = _; unfold D.ky; rw [hce]
  clear hce
  have ha := D.and_top hc
  have hx := D.turn_all hc
  by_cases hs : 9223372036854775808 ≤ c
  · rw [if_pos hs] at ha
    obtain ⟨hc0, hc1⟩ := hc
    go_wp2
    go_ret
    exact ⟨by rw [HK.out, if_pos hs]; rfl, rfl⟩
  · rw [if_neg hs] at ha
    have ho := D.or_top hc.1 (by omega : c < 9223372036854775808)
    obtain ⟨hc0, hc1⟩ := hc
    go_wp2
    go_ret
    exact ⟨by rw [HK.out, if_neg (by omega)]; rfl, rfl⟩
theorem bits_any : KeptBits := by
  intro k w h0 h1
  have hk : D.In64 k := ⟨h0, h1⟩
  have ha := D.and_top hk
  by_cases hs : 9223372036854775808 ≤ k
  · rw [if_pos hs] at ha
    have hn := D.andNot_top hk
    have HB : Hid (D.bt k = D.cl (k % 9223372036854775808)) := by show _ = _; unfold D.bt; rw [if_pos hs, show k - 9223372036854775808 = k % 9223372036854775808 by omega]
    obtain ⟨r, hr⟩ : ∃ r, k % 9223372036854775808 = r := ⟨_, rfl⟩
    have hr0 : 0 ≤ r := by omega
    have hr1 : r < 18446744073709551616 := by omega
    rw [hr] at hn HB
    clear hr
    go_enter Tryz.func123, Tryz.ntmps123
    go_wp2_with fail
    refine (clean_any r w hr0 hr1).mono ?_
    rintro e w1 ⟨rfl, rfl⟩
    go_wp2
    go_ret
    exact ⟨by rw [HB.out]; rfl, rfl⟩
  · rw [if_neg hs] at ha
    have hn := D.turn_all hk
    have HB : Hid (D.bt k = D.cl (18446744073709551615 - k)) := by show _ = _; unfold D.bt; rw [if_neg hs]
    obtain ⟨r, hr⟩ : ∃ r, 18446744073709551615 - k = r := ⟨_, rfl⟩
    have hr0 : 0 ≤ r := by omega
    have hr1 : r < 18446744073709551616 := by omega
    rw [hr] at hn HB
    clear hr
    go_enter Tryz.func123, Tryz.ntmps123
    go_wp2_with fail
    refine (clean_any r w hr0 hr1).mono ?_
    rintro e w1 ⟨rfl, rfl⟩
    go_wp2
    go_ret
    exact ⟨by rw [HB.out]; rfl, rfl⟩
theorem compare_any : KeptCompare := by
  intro a b w a0 a1 b0 b1
  have hx := D.ky_in (b := a) ⟨a0, a1⟩
  have hy := D.ky_in (b := b) ⟨b0, b1⟩
  have HC : Hid (D.cp a b = if D.ky a < D.ky b then -1 else if D.ky b < D.ky a then 1 else 0) := by show _ = _; rfl
  go_enter Tryz.func78, Tryz.ntmps78
  go_wp2_with fail
  refine (key_any a w a0 a1).mono ?_
  rintro e w1 ⟨rfl, rfl⟩
  go_wp2_with fail
  refine (key_any b w1 b0 b1).mono ?_
  rintro e w2 ⟨rfl, rfl⟩
  obtain ⟨x, hxe⟩ : ∃ x, D.ky a = x := ⟨_, rfl⟩
  obtain ⟨y, hye⟩ : ∃ y, D.ky b = y := ⟨_, rfl⟩
  rw [hxe] at hx HC ⊢
  rw [hye] at hy HC ⊢
  clear hxe hye
  obtain ⟨x0, x1⟩ := hx
  obtain ⟨y0, y1⟩ := hy
  by_cases hl : x < y
  · go_wp2
    go_ret
    exact ⟨by rw [HC.out, if_pos hl]; rfl, rfl⟩
  · by_cases hg : y < x
    · go_wp2
      go_ret
      exact ⟨by rw [HC.out, if_neg (by omega), if_pos hg]; rfl, rfl⟩
    · go_wp2
      go_ret
      exact ⟨by rw [HC.out, if_neg (by omega), if_neg (by omega)]; rfl, rfl⟩
end Go.Proofs.YtmhfpipeoojacaaGreat
/- The contracts of strings.Compare, and of val's Clean, Compare. -/
namespace Go.Proofs.YtmhfpipeoojacaaGreat
set_option linter.unusedVariables false
open Go.RowKit

theorem cmprun_run (s t : ByteArray) (w : World) : (callFunc 118 #[.string s, .string t]).run Tryz.prog w = .ok (.value (.int .i64 (Z.cs s t))) w := by
  rw [run_callFunc_extern (fn := Tryz.f118) (e := Extern.BytealgCompare.compare) Tryz.func118 (by kernel_rfl) (by kernel_rfl) (by kernel_rfl) (by kernel_rfl), Lib.run_compareString]
  rfl
theorem cmpstr_any (s t : ByteArray) (w : World) : Calls Tryz.prog 109 #[.string s, .string t] w fun e w' => e = .returned (.int .i64 (Z.cs s t)) ∧ w' = w := by
  have hf := cmprun_run s t w
  go_enter Tryz.func109, Tryz.ntmps109
  go_wp2
  go_ret
  exact ⟨rfl, rfl⟩
theorem strcmp_any (s t : ByteArray) (w : World) : Calls Tryz.prog 79 #[.string s, .string t] w fun e w' => e = .returned (.int .i64 (Z.cs s t)) ∧ w' = w := by
  go_enter Tryz.func79, Tryz.ntmps79
  go_wp2_with fail
  refine (cmpstr_any s t w).mono ?_
  rintro e w1 ⟨rfl, rfl⟩
  go_wp2
  go_ret
  exact ⟨rfl, rfl⟩
theorem i64_wrap (n : Int) : IntKind.i64.wrap n = if 9223372036854775808 ≤ n % 18446744073709551616 then n % 18446744073709551616 - 18446744073709551616 else n % 18446744073709551616 := by
  simp [IntKind.wrap, IntKind.bits, IntKind.signed]
theorem i64_sg {b : Int} (h : D.In64 b) : IntKind.i64.wrap b = Z.sg b := by
  unfold D.In64 at h; rw [i64_wrap]; unfold Z.sg; split <;> split <;> omega
theorem wrap64_sg {b : Int} (h : D.In64 b) : wrap64 b = Z.sg b := by
  unfold D.In64 at h; unfold wrap64 Z.sg; split <;> omega
theorem vclean_any (k i : Int) (s : ByteArray) (w : World) (hi : Z.I64 i) : Calls Tryz.prog 85 #[.agg #[.int .i64 k, .int .i64 i, .string s]] w fun e w' => e = .returned (Z.cl ⟨k, i, s⟩).v ∧ Below w.heap.size w w' := by
  by_cases h : k = 2
  · subst h
    have HU : Hid (IntKind.u64.wrap i = Z.u i) := u64_wrap i
    have HI := Z.u_in i
    go_enter Tryz.func85, Tryz.ntmps85
    go_wp2_with fail
    rw [HU.out]
    refine (clean_any _ _ HI.1 HI.2).mono ?_
    rintro e w1 ⟨rfl, rfl⟩
    go_wp2
    have HW : Hid (wrap64 (D.cl (Z.u i)) = Z.sg (D.cl (Z.u i))) := wrap64_sg (D.cl_in HI)
    refine bodyPost_ret (v := (Z.cl ⟨2, i, s⟩).v) (by simp [results, Tryz.results85, go_sem, HW.out, Z.cl, Z.V.v]) rfl ⟨rfl, ?_⟩
    exact ((Below.refl _ _).alloc (Nat.le_refl _) _).alloc (by simp) _
  · go_enter Tryz.func85, Tryz.ntmps85
    go_wp2
    refine bodyPost_ret (v := (Z.cl ⟨k, i, s⟩).v) (by simp [results, Tryz.results85, go_sem, Z.cl, Z.V.v, h]) rfl ⟨rfl, ?_⟩
    exact ((Below.refl _ _).alloc (Nat.le_refl _) _).alloc (by simp) _
theorem cv_kind {ak ai bk bi : Int} {az bz : ByteArray} (h : ak ≠ bk) : Z.cv ⟨ak, ai, az⟩ ⟨bk, bi, bz⟩ = Z.ci ak bk := by unfold Z.cv; rw [if_neg h]
theorem cv_int {ai bi : Int} {az bz : ByteArray} : Z.cv ⟨1, ai, az⟩ ⟨1, bi, bz⟩ = Z.ci ai bi := by unfold Z.cv; rw [if_pos rfl, if_pos rfl]
theorem cv_float {ai bi : Int} {az bz : ByteArray} : Z.cv ⟨2, ai, az⟩ ⟨2, bi, bz⟩ = D.cp (Z.u ai) (Z.u bi) := by unfold Z.cv; rw [if_pos rfl, if_neg (by simp), if_pos rfl]
theorem cv_text {ai bi : Int} {az bz : ByteArray} : Z.cv ⟨3, ai, az⟩ ⟨3, bi, bz⟩ = Z.cs az bz := by unfold Z.cv; rw [if_pos rfl, if_neg (by simp), if_neg (by simp), if_pos rfl]
theorem cv_else {k ai bi : Int} {az bz : ByteArray} (h1 : k ≠ 1) (h2 : k ≠ 2) (h3 : k ≠ 3) : Z.cv ⟨k, ai, az⟩ ⟨k, bi, bz⟩ = 0 := by unfold Z.cv; rw [if_pos rfl, if_neg h1, if_neg h2, if_neg h3]
theorem ci_self (k : Int) : Z.ci k k = 0 := by unfold Z.ci; simp
theorem ci_ne {a b : Int} (h : a ≠ b) : Z.ci a b ≠ 0 := by rcases Z.ci_cases a b with ⟨h1, g1⟩ | ⟨h1, g1⟩ | ⟨h1, g1⟩ <;> omega
/-- Two blocks more. -/
theorem below_two (w : World) (a b : Obj) : Below w.heap.size w ((w.alloc a).alloc b) := ((Below.refl _ _).alloc (Nat.le_refl _) _).alloc (by simp) _
theorem vcompare_any (ak ai : Int) (az : ByteArray) (bk bi : Int) (bz : ByteArray) (w : World) :
    Calls Tryz.prog 39 #[.agg #[.int .i64 ak, .int .i64 ai, .string az], .agg #[.int .i64 bk, .int .i64 bi, .string bz]] w fun e w' => e = .returned (.int .i64 (Z.cv ⟨ak, ai, az⟩ ⟨bk, bi, bz⟩)) ∧ Below w.heap.size w w' := by
  by_cases hk : ak = bk
  · subst hk
    have h0 := ci_self ak
    by_cases k1 : ak = 1
    · subst k1
      go_enter Tryz.func39, Tryz.ntmps39
      go_wp2_with fail
      refine (cmpi_any _ _ _).mono ?_
      rintro e w1 ⟨rfl, rfl⟩
      rw [h0]
      clear h0
      go_wp2_with fail
      refine (cmpl_any _ _ _).mono ?_
      rintro e w2 ⟨rfl, rfl⟩
      go_wp2
      go_ret
      exact ⟨by rw [cv_int]; rfl, below_two _ _ _⟩
    · by_cases k2 : ak = 2
      · subst k2
        have HA : Hid (IntKind.u64.wrap ai = Z.u ai) := u64_wrap ai
        have HB : Hid (IntKind.u64.wrap bi = Z.u bi) := u64_wrap bi
        have HI := Z.u_in ai
        have HJ := Z.u_in bi
        go_enter Tryz.func39, Tryz.ntmps39
        go_wp2_with fail
        refine (cmpi_any _ _ _).mono ?_
        rintro e w1 ⟨rfl, rfl⟩
        rw [h0]
        clear h0
        go_wp2_with fail
        rw [HA.out, HB.out]
        refine (compare_any _ _ _ HI.1 HI.2 HJ.1 HJ.2).mono ?_
        rintro e w2 ⟨rfl, rfl⟩
        go_wp2
        go_ret
        exact ⟨by rw [cv_float]; rfl, below_two _ _ _⟩
      · by_cases k3 : ak = 3
        · subst k3
          go_enter Tryz.func39, Tryz.ntmps39
          go_wp2_with fail
          refine (cmpi_any _ _ _).mono ?_
          rintro e w1 ⟨rfl, rfl⟩
          rw [h0]
          clear h0
          go_wp2_with fail
          refine (strcmp_any _ _ _).mono ?_
          rintro e w2 ⟨rfl, rfl⟩
          go_wp2
          go_ret
          exact ⟨by rw [cv_text]; rfl, below_two _ _ _⟩
        · go_enter Tryz.func39, Tryz.ntmps39
          go_wp2_with fail
          refine (cmpi_any _ _ _).mono ?_
          rintro e w1 ⟨rfl, rfl⟩
          rw [h0]
          clear h0
          go_wp2
          go_ret
          exact ⟨by rw [cv_else k1 k2 k3]; rfl, below_two _ _ _⟩
  · have h0 := ci_ne hk
    have HV : Hid (Z.cv ⟨ak, ai, az⟩ ⟨bk, bi, bz⟩ = Z.ci ak bk) := cv_kind hk
    go_enter Tryz.func39, Tryz.ntmps39
    go_wp2_with fail
    refine (cmpi_any _ _ _).mono ?_
    rintro e w1 ⟨rfl, rfl⟩
    obtain ⟨c, hc⟩ : ∃ c, Z.ci ak bk = c := ⟨_, rfl⟩
    rw [hc] at h0 HV ⊢
    clear hc
    go_wp2
    go_ret
    exact ⟨by rw [HV.out]; rfl, below_two _ _ _⟩
end Go.Proofs.YtmhfpipeoojacaaGreat
/- Two values held against each other; the contracts of val's May, Add. -/
namespace Go.Proofs.YtmhfpipeoojacaaGreat
set_option linter.unusedVariables false
open Go.RowKit

end Go.Proofs.YtmhfpipeoojacaaGreat
/- The contract of val's May; the statements' own head: 'shown'. -/
namespace Go.Proofs.YtmhfpipeoojacaaGreat
set_option linter.unusedVariables false
open Go.RowKit

theorem empty_of (s : ByteArray) : s.toList.isEmpty = decide (s = ⟨#[]⟩) := by
  rw [ByteArray.toList_eq]
  obtain ⟨⟨x⟩⟩ := s
  cases x <;> simp
theorem may_float {i : Int} {s : ByteArray} : Z.may ⟨2, i, s⟩ = (Z.same (Z.cl ⟨2, i, s⟩) ⟨2, i, s⟩ && s.toList.isEmpty) := by
  rw [empty_of]; unfold Z.may Z.cl Z.same; simp; rfl
theorem may_int {i : Int} {s : ByteArray} : Z.may ⟨1, i, s⟩ = s.toList.isEmpty := by
  rw [empty_of]; unfold Z.may; simp
theorem may_text {i : Int} {s : ByteArray} : Z.may ⟨3, i, s⟩ = ((i == 0) && decide ((s.size : Int) ≤ 1024)) := by
  unfold Z.may; simp; cases h : decide (i = 0) <;> simp_all; omega
theorem may_null {i : Int} {s : ByteArray} : Z.may ⟨0, i, s⟩ = Z.same ⟨0, i, s⟩ ⟨0, 0, ⟨#[]⟩⟩ := by
  unfold Z.may Z.same
  rw [← empty_of, ByteArray.toList_eq]
  obtain ⟨⟨x⟩⟩ := s
  cases x <;> simp [ByteArray.toList_eq] <;> rfl
theorem may_else {k i : Int} {s : ByteArray} (h0 : k ≠ 0) (h1 : k ≠ 1) (h2 : k ≠ 2) (h3 : k ≠ 3) : Z.may ⟨k, i, s⟩ = false := by
  unfold Z.may; rw [if_neg h2, if_neg h1, if_neg h3, if_neg h0]
set_option maxHeartbeats 800000 in
theorem may_f (i : Int) (s : ByteArray) (w : World) (hi : Z.I64 i) : Calls Tryz.prog 49 #[.agg #[.int .i64 2, .int .i64 i, .string s]] w fun e w' => e = .returned (.bool (Z.may ⟨2, i, s⟩)) ∧ Below w.heap.size w w' := by
  have HM : Hid (Z.may ⟨2, i, s⟩ = (Z.same (Z.cl ⟨2, i, s⟩) ⟨2, i, s⟩ && s.toList.isEmpty)) := may_float
  have HC : Hid (∀ w, Calls Tryz.prog 85 #[.agg #[.int .i64 2, .int .i64 i, .string s]] w fun e w' => e = .returned (Z.cl ⟨2, i, s⟩).v ∧ Below w.heap.size w w') := fun w => vclean_any 2 i s w hi
  obtain ⟨c, hc⟩ : ∃ c, Z.cl ⟨2, i, s⟩ = ⟨2, c, s⟩ := ⟨_, rfl⟩
  rw [hc] at HM HC
  clear hc
  have hq := vne_run 2 c s 2 i s
  obtain ⟨b, hb⟩ : ∃ b, Z.same ⟨2, c, s⟩ ⟨2, i, s⟩ = b := ⟨_, rfl⟩
  rw [hb] at HM
  simp only [hb] at hq
  clear hb
  have hal := heap_alloc_new w (.cells #[.int .i64 2, .int .i64 i, .string s] 45)
  go_enter Tryz.func49, Tryz.ntmps49
  go_wp2_with fail
  cases b with
  | true =>
    simp only [Bool.not_true] at hq
    go_region_with (go_at_call 85; refine (HC.out _).mono ?_; rintro e w1 ⟨rfl, hb1⟩; obtain ⟨c0, c1, c2⟩ := val_kept (by exact hal) hb1; replace hb1 := hide hb1; simp only [Z.V.v])
    all_goals go_wp2
    all_goals go_ret
    all_goals exact ⟨by rw [HM.out]; rfl, bthen (below_one w _).drew hb1.out⟩
  | false =>
    simp only [Bool.not_false] at hq
    go_region_with (go_at_call 85; refine (HC.out _).mono ?_; rintro e w1 ⟨rfl, hb1⟩; obtain ⟨c0, c1, c2⟩ := val_kept (by exact hal) hb1; replace hb1 := hide hb1; simp only [Z.V.v])
    all_goals go_wp2
    all_goals go_ret
    all_goals exact ⟨by rw [HM.out]; rfl, bthen (below_one w _).drew hb1.out⟩
theorem may_any (k i : Int) (s : ByteArray) (w : World) (hi : Z.I64 i) : Calls Tryz.prog 49 #[.agg #[.int .i64 k, .int .i64 i, .string s]] w fun e w' => e = .returned (.bool (Z.may ⟨k, i, s⟩)) ∧ Below w.heap.size w w' := by
  by_cases k2 : k = 2
  · subst k2
    exact may_f i s w hi
  · by_cases k1 : k = 1
    · subst k1
      have HM : Hid (Z.may ⟨1, i, s⟩ = s.toList.isEmpty) := may_int
      go_enter Tryz.func49, Tryz.ntmps49
      go_wp2
      go_ret
      exact ⟨by rw [HM.out]; rfl, below_one _ _⟩
    · by_cases k3 : k = 3
      · subst k3
        have HM : Hid (Z.may ⟨3, i, s⟩ = ((i == 0) && decide ((s.size : Int) ≤ 1024))) := may_text
        cases hi0 : (i == 0) with
        | true =>
          rw [hi0] at HM
          go_enter Tryz.func49, Tryz.ntmps49
          go_wp2
          go_ret
          exact ⟨by rw [HM.out]; rfl, below_one _ _⟩
        | false =>
          rw [hi0] at HM
          go_enter Tryz.func49, Tryz.ntmps49
          go_wp2
          go_ret
          exact ⟨by rw [HM.out]; rfl, below_one _ _⟩
      · by_cases k0 : k = 0
        · subst k0
          have HM : Hid (Z.may ⟨0, i, s⟩ = Z.same ⟨0, i, s⟩ ⟨0, 0, ⟨#[]⟩⟩) := may_null
          have hq := veq_run 0 i s 0 0 ⟨#[]⟩
          obtain ⟨b, hb⟩ : ∃ b, Z.same ⟨0, i, s⟩ ⟨0, 0, ⟨#[]⟩⟩ = b := ⟨_, rfl⟩
          rw [hb] at HM
          simp only [hb] at hq
          clear hb
          go_enter Tryz.func49, Tryz.ntmps49
          go_wp2
          go_ret
          exact ⟨by rw [HM.out]; rfl, below_one _ _⟩
        · have HM : Hid (Z.may ⟨k, i, s⟩ = false) := may_else k0 k1 k2 k3
          go_enter Tryz.func49, Tryz.ntmps49
          go_wp2
          go_ret
          exact ⟨by rw [HM.out]; rfl, below_one _ _⟩
end Go.Proofs.YtmhfpipeoojacaaGreat
/- The contract of leb's get. -/
namespace Go.Proofs.YtmhfpipeoojacaaGreat
set_option linter.unusedVariables false
open Go.RowKit

theorem or_at (a b J : Nat) (ha : a < 2 ^ J) (hb : b * 2 ^ J < 18446744073709551616) (hJ : J < 64) :
    bits .or .u64 (a : Int) (IntKind.u64.wrap ((b : Int) * 2 ^ J)) = ((a + 2 ^ J * b : Nat) : Int) := by
  rw [u64_wrap, ← pow_int, ← Int.natCast_mul]
  have hp : 2 ^ J ≤ 2 ^ 63 := Nat.pow_le_pow_right (by omega) (by omega)
  rw [show ((b * 2 ^ J : Nat) : Int) % 18446744073709551616 = ((b * 2 ^ J : Nat) : Int) by omega]
  rw [u64_or_nat a (b * 2 ^ J) (by omega) (by omega), Nat.or_comm, nat_join J (b * 2 ^ J) a (by simp) ha, Nat.mul_comm b, Nat.add_comm]

theorem take_snocN (l : List Nat) (k : Nat) (h : k < l.length) : l.take (k + 1) = l.take k ++ [l.getD k 0] := by
  rw [List.take_succ_eq_append_getElem h]; simp [List.getD, h]

/-- A byte more of a number. -/
theorem get_step (l : List Nat) (j : Nat) (N c : Int) (hj : j < l.length) (hj9 : j ≤ 9) (hN : ((E.val (l.take j) : Nat) : Int) = N) (hc : ((l.getD j 0 : Nat) : Int) = c) (h9 : j = 9 → c ≤ 1) :
    bits .or .u64 N (IntKind.u64.wrap (c % 128 * 2 ^ (j * 7))) = ((E.val (l.take (j + 1)) : Nat) : Int) := by
  have hl : (l.take j).length = j := by simp; omega
  have hv := E.val_lt (l.take j)
  rw [take_snocN l j hj, E.val_append, hl, ← hN, ← hc]
  rw [hl] at hv
  generalize l.getD j 0 = x at *
  generalize E.val (l.take j) = a at *
  have hp : 128 ^ j = 2 ^ (j * 7) := by rw [Nat.mul_comm, Nat.pow_mul]
  have hb : x % 128 * 2 ^ (j * 7) < 18446744073709551616 := by
    rcases Nat.lt_or_ge j 9 with h | h
    · have h1 : 2 ^ (j * 7) ≤ 2 ^ 56 := Nat.pow_le_pow_right (by omega) (by omega)
      have h2 : x % 128 * 2 ^ (j * 7) ≤ 127 * 2 ^ 56 := Nat.mul_le_mul (by omega) h1
      omega
    · obtain rfl : j = 9 := by omega
      have h1 := h9 rfl
      have h2 : x % 128 * 2 ^ (9 * 7) ≤ 1 * 2 ^ (9 * 7) := Nat.mul_le_mul_right _ (by omega)
      omega
  have h := or_at a (x % 128) (j * 7) (by rw [← hp]; exact hv) hb (by omega)
  rw [show (x : Int) % 128 = ((x % 128 : Nat) : Int) by omega, h, hp]
  simp only [E.val, Nat.mul_zero, Nat.add_zero]

/-- A panic with an error's number. -/
def pan (k : Int) : Ending := .panicked [{ v := .iface 26 (.int .i64 k), recovered := false }]

set_option maxHeartbeats 400000 in
theorem get_zero (ao : Option Addr) (cap : Nat) (w : World) :
    Calls Tryz.prog 98 #[.slice ao 0 cap] w fun e w' => e = pan 3 ∧ w' = w := by
  go_enter Tryz.func98, Tryz.ntmps98
  go_wp2_with fail
  go_loop [4, 9] (fun n i => n = .int .u64 0 ∧ i = .int .i64 0) (fun _ _ => 0)
  case atStart => exact ⟨rfl, rfl⟩
  case round =>
    obtain ⟨rfl, rfl⟩ := hrel
    go_wp2
    exact ⟨rfl, rfl, rfl⟩

set_option maxHeartbeats 1000000 in
theorem get_some (b off len cap : Nat) (l : List Nat) (w : World) (hl : l.length = len) (hm : len ≤ 140737488355328) (hc : ∀ i, i < len → w.cell? ⟨b, off + i, none⟩ = some (.int .u8 ((l.getD i 0 : Nat) : Int))) (h256 : ∀ x ∈ l, x < 256) :
    Calls Tryz.prog 98 #[.slice (some ⟨b, off, none⟩) len cap] w fun e w' => ((E.gE l = 0 ∧ e = .returned (.tuple #[.int .u64 ((E.gN l : Nat) : Int), .int .i64 ((E.gK l : Nat) : Int)])) ∨ (E.gE l ≠ 0 ∧ e = pan ((E.gE l : Nat) : Int))) ∧ w' = w := by
  have H2 := hide h256
  have HL := hide hl
  clear h256 hl
  go_enter Tryz.func98, Tryz.ntmps98
  go_wp2_with fail
  go_loop [4, 9] (fun n i => ∃ j : Nat, j ≤ 9 ∧ j ≤ len ∧ i = .int .i64 j ∧ (∀ t, t < j → 128 ≤ l.getD t 0) ∧ n = .int .u64 ((E.val (l.take j) : Nat) : Int)) (fun _ i => len - (intOf i).toNat)
  case atStart => exact ⟨0, by omega, Nat.zero_le _, rfl, fun t ht => by omega, rfl⟩
  case round =>
    obtain ⟨j, hj9, hjl, rfl, hlead, rfl⟩ := hrel
    have HLe := hide hlead
    clear hlead
    by_cases hlt : j < len
    · have hck := hc j hlt
      have hcl := E.getD_lt H2.out j
      obtain ⟨c, hce⟩ : ∃ c : Int, ((l.getD j 0 : Nat) : Int) = c := ⟨_, rfl⟩
      have hc0 : 0 ≤ c := by omega
      have hc1 : c < 256 := by omega
      rw [hce] at hck
      have HC := hide hce
      obtain ⟨N, hN⟩ : ∃ N : Int, ((E.val (l.take j) : Nat) : Int) = N := ⟨_, rfl⟩
      have hN0 : 0 ≤ N := by omega
      rw [hN]
      have HN := hide hN
      have HJL : Hid (j < l.length) := by have := HL.out; show _ < _; omega
      have HI : Hid (c < 128 ∨ j = 9 → E.IsLead 9 l j) := fun h => ⟨hj9, Nat.le_of_lt HJL.out, HLe.out, h.elim (fun h => .inr (.inr (by omega))) .inl⟩
      clear hc hce hcl hN
      by_cases h9 : j = 9
      · have b9 : ((j : Int) == 9) = true := by simp; omega
        have HJ := hide h9
        clear h9
        by_cases h1 : 1 < c
        · go_wp2
          have hg := E.gE_form (HI.out (.inr HJ.out)) HJL.out (.inl ⟨HJ.out, by have := HC.out; omega⟩)
          exact ⟨rfl, .inr ⟨by rw [hg]; decide, by rw [hg]; rfl⟩, rfl⟩
        · have hlt128 : c < 128 := by omega
          have hj0 : 0 < j := by have := HJ.out; omega
          by_cases hz : c = 0
          · have bz : (c == 0) = true := by simpa using hz
            have HZ := hide hz
            clear hz
            go_wp2
            have hg := E.gE_form (HI.out (.inr HJ.out)) HJL.out (.inr ⟨by omega, by have := HC.out; have := HZ.out; omega⟩)
            exact ⟨rfl, .inr ⟨by rw [hg]; decide, by rw [hg]; rfl⟩, rfl⟩
          · have bz : (c == 0) = false := by simpa using hz
            have HZ := hide hz
            clear hz
            have HS := hide (get_step l j N c HJL.out hj9 HN.out HC.out (fun _ => by omega))
            go_wp2
            go_ret2
            obtain ⟨e1, e2, e3⟩ := E.gE_ok (HI.out (.inr HJ.out)) HJL.out (fun _ => by have := HC.out; omega) (fun _ => by have := HC.out; have := HZ.out; omega)
            exact ⟨.inl ⟨e1, by rw [e2, e3, ← HS.out]; rfl⟩, rfl⟩
      · have b9 : ((j : Int) == 9) = false := by simp; omega
        have HS := hide (get_step l j N c HJL.out hj9 HN.out HC.out (fun h => absurd h h9))
        by_cases h128 : 128 ≤ c
        · go_wp2
          go_round
          case rel =>
            refine ⟨j + 1, by omega, by omega, by go_num, fun t ht => ?_, by rw [HS.out]⟩
            rcases Nat.lt_or_ge t j with h | h
            · exact HLe.out t h
            · obtain rfl : t = j := by omega
              have := HC.out; omega
          case measure => simp [intOf]; omega
        · have hlt128 : c < 128 := by omega
          by_cases hz : 0 < j ∧ c = 0
          · obtain ⟨hz0, hz1⟩ := hz
            have bz : (c == 0) = true := by simp; omega
            have HZ := hide hz1
            clear hz1
            go_wp2
            have hg := E.gE_form (HI.out (.inl hlt128)) HJL.out (.inr ⟨hz0, by have := HC.out; have := HZ.out; omega⟩)
            exact ⟨rfl, .inr ⟨by rw [hg]; decide, by rw [hg]; rfl⟩, rfl⟩
          · have bz : 0 < j → (c == 0) = false := fun h => by simp; omega
            have HZ : Hid (0 < j → c ≠ 0) := fun h e => hz ⟨h, e⟩
            clear hz
            by_cases hj0 : 0 < j
            all_goals
              first | (replace bz := bz hj0) | clear bz
              go_wp2
              go_ret2
              obtain ⟨e1, e2, e3⟩ := E.gE_ok (HI.out (.inl hlt128)) HJL.out (fun h => absurd h h9) (fun h => by have := HC.out; have := HZ.out h; omega)
              exact ⟨.inl ⟨e1, by rw [e2, e3, ← HS.out]; rfl⟩, rfl⟩
    · have HI : Hid (E.IsLead 9 l j) := ⟨hj9, by have := HL.out; omega, HLe.out, .inr (.inl (by have := HL.out; omega))⟩
      clear hc
      go_wp2
      have hg := E.gE_short HI.out (by have := HL.out; omega)
      exact ⟨rfl, .inr ⟨by rw [hg]; decide, by rw [hg]; rfl⟩, rfl⟩

/-- leb's get: the number and how many bytes it has, or a panic with the error. -/
theorem get_in (ao : Option Addr) (len cap : Nat) (l : List Nat) (w : World) (h : Sl w .u8 ao len cap (ints l)) (h256 : ∀ x ∈ l, x < 256) (hm : len ≤ 140737488355328) :
    Calls Tryz.prog 98 #[.slice ao len cap] w fun e w' => ((E.gE l = 0 ∧ e = .returned (.tuple #[.int .u64 ((E.gN l : Nat) : Int), .int .i64 ((E.gK l : Nat) : Int)])) ∨ (E.gE l ≠ 0 ∧ e = pan ((E.gE l : Nat) : Int))) ∧ w' = w := by
  obtain ⟨h1, h2, h3, h4, h5⟩ := h
  rw [ints_length] at h1
  by_cases h0 : len = 0
  · subst h0
    obtain rfl : l = [] := List.eq_nil_of_length_eq_zero h1
    refine (get_zero ao cap w).mono ?_
    rintro e w' ⟨rfl, rfl⟩
    exact ⟨.inr ⟨by decide, rfl⟩, rfl⟩
  · rcases h5 with h5 | ⟨b, off, rfl, hlt, h5⟩
    · omega
    · exact get_some b off len cap l w h1 hm (fun i hi => by rw [h5 i hi, ints_getD]) h256
end Go.Proofs.YtmhfpipeoojacaaGreat

/- The walk of the statement: of numbers that are themselves the order is that of numbers; NaNs are behind all, and alike. -/
import Derived.Test.YthaeipephelmcaaO7
import Derived.Test.YthaeipephelmcaaN2
import Derived.Test.YthaeipephelmcaaD8
namespace Go.Proofs.Ythaeipephelmcaa
set_option linter.unusedVariables false
open Go.RowKit

theorem bits_all (s : Bool) (r : Nat) (hr : r ≤ 2047 * D.B) : ∃ t : Bool, D.sr t r = D.sr s r ∧ ∀ w : World,
    Calls Try.prog 23 #[.float .f64 (D.wd s r)] w fun e w' => e = .returned (.int .u64 ((D.wd t r : Nat) : Int)) ∧ w' = w := by
  rcases Nat.lt_or_eq_of_le hr with h | h
  · rcases Nat.eq_zero_or_pos r with h0 | h0
    · subst h0
      refine ⟨false, by cases s <;> simp [D.sr], fun w => ?_⟩
      have := bits_zero s w
      cases s <;> simpa [D.wd] using this
    · exact ⟨s, rfl, fun w => bits_word s r w h fun _ => h0⟩
  · subst h
    refine ⟨s, rfl, fun w => ?_⟩
    cases s
    · exact bits_inf w
    · exact bits_ninf w
theorem nan_cases (a b : Int) (ha : D.In64 a) (hb : D.In64 b) : (D.isN a = true ∧ D.isN b = true ∧ D.cp a b = 0) ∨ (D.isN a = true ∧ D.isN b = false ∧ D.cp a b = 1) ∨ (D.isN a = false ∧ D.isN b = true ∧ D.cp a b = -1) ∨ (D.isN a = false ∧ D.isN b = false) := by
  have hc := D.cp_cases a b
  cases h1 : D.isN a <;> cases h2 : D.isN b
  · simp
  · have := D.ky_less ha h1
    rw [D.ky_nan h2] at hc
    right; right; left; refine ⟨rfl, rfl, by omega⟩
  · have := D.ky_less hb h2
    rw [D.ky_nan h1] at hc
    right; left; refine ⟨rfl, rfl, by omega⟩
  · left; exact ⟨rfl, rfl, D.cp_nans h1 h2⟩
theorem wf_f64 {x : Nat} (h : (Lit.float .f64 x).wf = true) : x < 18446744073709551616 := of_decide_eq_true h
theorem d_infnan : D.cp 9218868437227405312 9221120237041090560 = -1 := by decide
/-- What two float64s of the law are to each other. -/
theorem two_words (M : FltKept) (x y : Nat) (hx : x < 18446744073709551616) (hy : y < 18446744073709551616) :
    (FloatKind.f64.format.order x x == some Ordering.eq) = false
    ∨ ((FloatKind.f64.format.order x x == some Ordering.eq) = true ∧ (FloatKind.f64.format.order y y == some Ordering.eq) = false)
    ∨ ((FloatKind.f64.format.order x x == some Ordering.eq) = true ∧ (FloatKind.f64.format.order y y == some Ordering.eq) = true ∧ (FloatKind.f64.format.order x y != some Ordering.eq) = false)
    ∨ ((FloatKind.f64.format.order x x == some Ordering.eq) = true ∧ (FloatKind.f64.format.order y y == some Ordering.eq) = true ∧ (FloatKind.f64.format.order x y != some Ordering.eq) = true
      ∧ ∃ X Y c : Int, (∀ w : World, Calls Try.prog 23 #[.float .f64 x] w fun e w' => e = .returned (.int .u64 X) ∧ w' = w) ∧ (∀ w : World, Calls Try.prog 23 #[.float .f64 y] w fun e w' => e = .returned (.int .u64 Y) ∧ w' = w)
        ∧ (∀ w : World, Calls Try.prog 17 #[.int .u64 X, .int .u64 Y] w fun e w' => e = .returned (.int .i64 c) ∧ w' = w) ∧ (decide (c < 0) == (FloatKind.f64.format.order x y == some Ordering.lt)) = true) := by
  have hB : D.B = 4503599627370496 := rfl
  obtain ⟨s, r, rfl, hr⟩ := D.word_of x hx
  obtain ⟨t, q, rfl, hq⟩ := D.word_of y hy
  by_cases c1 : r ≤ 2047 * D.B
  · right
    have k1 := D.is_eq s s r r c1 c1
    rw [decide_eq_true rfl] at k1
    by_cases c2 : q ≤ 2047 * D.B
    · right
      have k2 := D.is_eq t t q q c2 c2
      rw [decide_eq_true rfl] at k2
      have k3 := D.is_eq s t r q c1 c2
      have k4 := D.is_lt s t r q c1 c2
      by_cases c3 : D.sr s r = D.sr t q
      · left
        rw [decide_eq_true c3] at k3
        refine ⟨k1, k2, ?_⟩
        unfold bne; rw [k3]; rfl
      · right
        rw [decide_eq_false c3] at k3
        obtain ⟨s', hs, bx⟩ := bits_all s r c1
        obtain ⟨t', ht, bY⟩ := bits_all t q c2
        refine ⟨k1, k2, by unfold bne; rw [k3]; rfl, _, _, _, bx, bY, fun w => M.compare _ _ w (by omega) ?_ (by omega) ?_, ?_⟩
        · unfold D.wd; split <;> omega
        · unfold D.wd; split <;> omega
        · have h := D.cp_all s' t' r q c1 c2 (by rw [hs, ht]; exact c3)
          rw [hs, ht] at h
          have e : decide (D.cp ((D.wd s' r : Nat) : Int) ((D.wd t' q : Nat) : Int) < 0) = decide (D.sr s r < D.sr t q) := decide_eq_decide.2 h
          rw [k4, e]; simp
    · left
      refine ⟨k1, ?_⟩
      rw [show FloatKind.f64.format.order (D.wd t q) (D.wd t q) = _ from D.order_nan t q _ (by omega) hq]; rfl
  · left
    rw [show FloatKind.f64.format.order (D.wd s r) (D.wd s r) = _ from D.order_nan s r _ (by omega) hr]; rfl
set_option maxHeartbeats 4000000 in
theorem fltNumbers_walk (M : FltKept) (w : World) (x : Nat) (wx : (Lit.float .f64 x).wf = true) (y : Nat) (wy : (Lit.float .f64 y).wf = true) (a : Int) (wa : (Lit.int .u64 a).wf = true) (b : Int) (wb : (Lit.int .u64 b).wf = true) :
    Calls Try.prog 6 #[.float .f64 x, .float .f64 y, .int .u64 a, .int .u64 b] w fun e w' => e = .returned (.bool true) ∧ Below w.heap.size w w' := by
  obtain ⟨ha0, ha1⟩ := wf_u64 wa
  obtain ⟨hb0, hb1⟩ := wf_u64 wb
  have S := fun w => shown_any M w
  have IA := fun w => risnan_any a w ha0 ha1
  have IB := fun w => risnan_any b w hb0 hb1
  have PC := fun w => M.compare a b w ha0 ha1 hb0 hb1
  have H3 := fun w => M.compare 9223372036854775808 0 w (by omega) (by omega) (by omega) (by omega)
  rw [d_zeros] at H3
  have NN := fun w => M.nan w
  have HI := fun w => M.compare 9218868437227405312 9221120237041090560 w (by omega) (by omega) (by omega) (by omega)
  rw [d_infnan] at HI
  have hN := nan_cases a b ⟨ha0, ha1⟩ ⟨hb0, hb1⟩
  have hW := two_words M x y (wf_f64 wx) (wf_f64 wy)
  generalize D.isN a = na at IA hN
  generalize D.isN b = nb at IB hN
  generalize D.cp a b = c at PC hN
  clear wa wb M wx wy
  go_enter Try.func6, Try.ntmps6
  go_wp2_with fail
  refine (S _).mono ?_
  rintro e w1 ⟨rfl, rfl⟩
  clear S
  rcases hW with k1 | ⟨k1, k2⟩ | ⟨k1, k2, k3⟩ | ⟨k1, k2, k3, X, Y, d, BX, BY, PD, k4⟩
  · rcases hN with ⟨rfl, rfl, rfl⟩ | ⟨rfl, rfl, rfl⟩ | ⟨rfl, rfl, rfl⟩ | ⟨rfl, rfl⟩ <;> ((go_wp2_with fail; refine (IA _).mono ?_; rintro e w1 ⟨rfl, rfl⟩); (go_wp2_with fail; refine (IB _).mono ?_; rintro e w1 ⟨rfl, rfl⟩); (go_wp2_with fail; refine (PC _).mono ?_; rintro e w1 ⟨rfl, rfl⟩); (go_wp2_with fail; refine (H3 _).mono ?_; rintro e w1 ⟨rfl, rfl⟩); (go_wp2_with fail; refine (NN _).mono ?_; rintro e w1 ⟨rfl, rfl⟩); (go_wp2_with fail; refine (HI _).mono ?_; rintro e w1 ⟨rfl, rfl⟩); (go_wp2_with fail; go_ret; exact ⟨rfl, Below.refl _ _⟩))
  · rcases hN with ⟨rfl, rfl, rfl⟩ | ⟨rfl, rfl, rfl⟩ | ⟨rfl, rfl, rfl⟩ | ⟨rfl, rfl⟩ <;> ((go_wp2_with fail; refine (IA _).mono ?_; rintro e w1 ⟨rfl, rfl⟩); (go_wp2_with fail; refine (IB _).mono ?_; rintro e w1 ⟨rfl, rfl⟩); (go_wp2_with fail; refine (PC _).mono ?_; rintro e w1 ⟨rfl, rfl⟩); (go_wp2_with fail; refine (H3 _).mono ?_; rintro e w1 ⟨rfl, rfl⟩); (go_wp2_with fail; refine (NN _).mono ?_; rintro e w1 ⟨rfl, rfl⟩); (go_wp2_with fail; refine (HI _).mono ?_; rintro e w1 ⟨rfl, rfl⟩); (go_wp2_with fail; go_ret; exact ⟨rfl, Below.refl _ _⟩))
  · rcases hN with ⟨rfl, rfl, rfl⟩ | ⟨rfl, rfl, rfl⟩ | ⟨rfl, rfl, rfl⟩ | ⟨rfl, rfl⟩ <;> ((go_wp2_with fail; refine (IA _).mono ?_; rintro e w1 ⟨rfl, rfl⟩); (go_wp2_with fail; refine (IB _).mono ?_; rintro e w1 ⟨rfl, rfl⟩); (go_wp2_with fail; refine (PC _).mono ?_; rintro e w1 ⟨rfl, rfl⟩); (go_wp2_with fail; refine (H3 _).mono ?_; rintro e w1 ⟨rfl, rfl⟩); (go_wp2_with fail; refine (NN _).mono ?_; rintro e w1 ⟨rfl, rfl⟩); (go_wp2_with fail; refine (HI _).mono ?_; rintro e w1 ⟨rfl, rfl⟩); (go_wp2_with fail; go_ret; exact ⟨rfl, Below.refl _ _⟩))
  · go_wp2_with fail
    refine (BX _).mono ?_
    rintro e w1 ⟨rfl, rfl⟩
    go_wp2_with fail
    refine (BY _).mono ?_
    rintro e w1 ⟨rfl, rfl⟩
    go_wp2_with fail
    refine (PD _).mono ?_
    rintro e w1 ⟨rfl, rfl⟩
    clear BX BY PD
    rcases hN with ⟨rfl, rfl, rfl⟩ | ⟨rfl, rfl, rfl⟩ | ⟨rfl, rfl, rfl⟩ | ⟨rfl, rfl⟩ <;> ((go_wp2_with fail; refine (IA _).mono ?_; rintro e w1 ⟨rfl, rfl⟩); (go_wp2_with fail; refine (IB _).mono ?_; rintro e w1 ⟨rfl, rfl⟩); (go_wp2_with fail; refine (PC _).mono ?_; rintro e w1 ⟨rfl, rfl⟩); (go_wp2_with fail; refine (H3 _).mono ?_; rintro e w1 ⟨rfl, rfl⟩); (go_wp2_with fail; refine (NN _).mono ?_; rintro e w1 ⟨rfl, rfl⟩); (go_wp2_with fail; refine (HI _).mono ?_; rintro e w1 ⟨rfl, rfl⟩); (go_wp2_with fail; go_ret; exact ⟨rfl, Below.refl _ _⟩))
end Go.Proofs.Ythaeipephelmcaa

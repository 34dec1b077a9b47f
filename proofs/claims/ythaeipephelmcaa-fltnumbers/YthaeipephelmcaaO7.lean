/- The walk of the statement: whole numbers are in the order of their bits' numbers, and told as they are; a half more is none. -/
import Derived.Test.YthaeipephelmcaaN4
import Derived.Test.YthaeipephelmcaaN1
import Derived.Test.YthaeipephelmcaaD7
import Derived.Test.YthaeipephelmcaaRU
namespace Go.Proofs.Ythaeipephelmcaa
set_option linter.unusedVariables false
open Go.RowKit

theorem bits_word (s : Bool) (r : Nat) (w : World) (hr : r < 2047 * D.B) (hs : s = true → 0 < r) :
    Calls Try.prog 23 #[.float .f64 (D.wd s r)] w fun e w' => e = .returned (.int .u64 ((D.wd s r : Nat) : Int)) ∧ w' = w := by
  cases s with
  | true =>
    have := bits_neg r w (hs rfl) hr
    simpa [D.wd] using this
  | false =>
    rcases Nat.eq_zero_or_pos r with h | h
    · subst h
      have := bits_zero false w
      simpa [D.wd] using this
    · have := bits_pos r w h hr
      simpa [D.wd] using this
/-- A whole number's float64 in the law: its bits, what is told of them, and a half more. -/
theorem int_word (M : FltKept) (a : Int) (h0 : -1125899906842624 < a) (h1 : a < 1125899906842624) : ∃ r : Nat, r < 2047 * D.B ∧ D.u r = a.natAbs * 2 ^ D.P74 ∧ ∃ X : Int, X = ((D.wd (decide (a < 0)) r : Nat) : Int) ∧ 0 ≤ X ∧ X < 18446744073709551616
    ∧ (∀ w : World, Calls Try.prog 23 #[.float .f64 (floatOfInt .f64 a)] w fun e w' => e = .returned (.int .u64 X) ∧ w' = w)
    ∧ (∀ w : World, Calls Try.prog 21 #[.int .u64 X] w fun e w' => e = .returned (.tuple #[.int .i64 a, .bool true]) ∧ w' = w)
    ∧ ∃ H : Nat, (∀ w : World, (binOp .add 32 (.float .f64 (floatOfInt .f64 a)) (.float .f64 4602678819172646912)).run Try.prog w = .ok (.float .f64 H) w)
      ∧ ∃ Y : Int, 0 ≤ Y ∧ Y < 18446744073709551616 ∧ (∀ w : World, Calls Try.prog 23 #[.float .f64 H] w fun e w' => e = .returned (.int .u64 Y) ∧ w' = w)
        ∧ ∃ z : Int, ∀ w : World, Calls Try.prog 21 #[.int .u64 Y] w fun e w' => e = .returned (.tuple #[.int .i64 z, .bool false]) ∧ w' = w := by
  have hB : D.B = 4503599627370496 := rfl
  obtain ⟨r, hr, hu, hf⟩ := D.ofInt_whole a (by omega)
  have hf' : floatOfInt .f64 a = D.wd (decide (a < 0)) r := hf
  have hx := D.wd_lt (decide (a < 0)) r hr
  refine ⟨r, hr, hu, _, rfl, by omega, hx, ?_, ?_, ?_⟩
  · intro w
    rw [hf']
    refine bits_word _ r w hr fun h => ?_
    rcases Nat.eq_zero_or_pos r with h2 | h2
    · exfalso
      subst h2
      rw [D.u_zero] at hu
      have := D.rung_less (r := 0) (q := 0) (n := 0) (m := a.natAbs) (by rw [D.u_zero]; simp) (by rw [D.u_zero]; exact hu)
      simp at h; omega
    · exact h2
  · intro w
    have h2 := M.whole _ w (by omega) hx
    have h3 := D.whole_of (decide (a < 0)) r a.natAbs hr (by omega) hu
    rw [h3.1, h3.2] at h2
    have h4 : (if decide (a < 0) = true then -((a.natAbs : Nat) : Int) else ((a.natAbs : Nat) : Int)) = a := by
      by_cases c : a < 0
      · rw [if_pos (by simp [c])]; omega
      · rw [if_neg (by simp [c])]; omega
    rwa [h4] at h2
  · obtain ⟨q, hq, huq, hadd⟩ := D.add_half (decide (a < 0)) r a.natAbs hr hu (by omega) (by intro h; simp at h; omega)
    obtain ⟨k, hk⟩ : ∃ k, (if decide (a < 0) = true then 2 * a.natAbs - 1 else 2 * a.natAbs + 1) = k := ⟨_, rfl⟩
    have hk2 : k < D.B ∧ k % 2 = 1 := by
      by_cases c : a < 0
      · rw [if_pos (by simp [c])] at hk; omega
      · rw [if_neg (by simp [c])] at hk; omega
    rw [hk] at huq
    refine ⟨D.wd (decide (a < 0)) q, fun w => ?_, _, by omega, D.wd_lt (decide (a < 0)) q hq, fun w => ?_, ?_⟩
    · rw [hf']
      refine run_float_arith w .add 32 .f64 _ 4602678819172646912 _ ?_
      exact hadd
    · refine bits_word _ q w hq fun h => ?_
      rcases Nat.eq_zero_or_pos q with h2 | h2
      · exfalso
        subst h2
        have h3 := D.whole_half true 0 k hq hk2.1 hk2.2 huq
        have h4 := D.whole_of true 0 0 hq (by omega) (by rw [D.u_zero]; simp)
        rw [h4.1] at h3; exact absurd h3 (by simp)
      · exact h2
    · have h3 := D.whole_half (decide (a < 0)) q k hq hk2.1 hk2.2 huq
      refine ⟨D.wh ((D.wd (decide (a < 0)) q : Nat) : Int), fun w => ?_⟩
      have h2 := M.whole _ w (by omega) (D.wd_lt (decide (a < 0)) q hq)
      rwa [h3] at h2
theorem tmod_in (n : Int) : -1125899906842624 < n.tmod 1125899906842624 ∧ n.tmod 1125899906842624 < 1125899906842624 := by
  rcases Int.le_total 0 n with h | h
  · rw [Int.tmod_eq_emod_of_nonneg h]; omega
  · obtain ⟨m, rfl⟩ : ∃ m : Int, n = -m := ⟨-n, by omega⟩
    rw [Int.neg_tmod, Int.tmod_eq_emod_of_nonneg (by omega)]; omega
set_option maxHeartbeats 1000000 in
theorem fltInts_walk (M : FltKept) (w : World) (n : Int) (wn : (Lit.int .i64 n).wf = true) (m : Int) (wm : (Lit.int .i64 m).wf = true) :
    Calls Try.prog 9 #[.int .i64 n, .int .i64 m] w fun e w' => e = .returned (.bool true) ∧ Below w.heap.size w w' := by
  obtain ⟨hn0, hn1⟩ := wf_i64 wn
  obtain ⟨hm0, hm1⟩ := wf_i64 wm
  have S := fun w => shown_any M w
  obtain ⟨r, hr, hur, X, hX, X0, X1, BX, WX, H, AH, Y, Y0, Y1, BH, z, WH⟩ := int_word M (n.tmod 1125899906842624) (tmod_in n).1 (tmod_in n).2
  obtain ⟨q, hq, huq, V, hV, V0, V1, BV, WV, _⟩ := int_word M (m.tmod 1125899906842624) (tmod_in m).1 (tmod_in m).2
  have PC := fun w => M.compare X V w X0 X1 V0 V1
  have hc := D.cp_wholes _ _ r q hr hq hur huq
  rw [← hX, ← hV] at hc
  generalize D.cp X V = c at PC hc
  clear hX hV hr hq hur huq M wn wm
  go_enter Try.func9, Try.ntmps9
  go_wp2_with fail
  refine (S _).mono ?_
  rintro e w1 ⟨rfl, rfl⟩
  go_wp2_with fail
  refine (BX _).mono ?_
  rintro e w1 ⟨rfl, rfl⟩
  go_wp2_with fail
  refine (BV _).mono ?_
  rintro e w1 ⟨rfl, rfl⟩
  go_wp2_with fail
  refine (WX _).mono ?_
  rintro e w1 ⟨rfl, rfl⟩
  go_wp2_with fail
  refine (WV _).mono ?_
  rintro e w1 ⟨rfl, rfl⟩
  go_wp2_with fail
  refine (BH _).mono ?_
  rintro e w1 ⟨rfl, rfl⟩
  go_wp2_with fail
  refine (WH _).mono ?_
  rintro e w1 ⟨rfl, rfl⟩
  go_wp2_with fail
  refine (PC _).mono ?_
  rintro e w1 ⟨rfl, rfl⟩
  by_cases d : n.tmod 1125899906842624 < m.tmod 1125899906842624
  · have d2 : c < 0 := hc.2 d
    clear hc
    go_wp2_with fail
    go_ret
    exact ⟨rfl, Below.refl _ _⟩
  · have d2 : ¬ c < 0 := fun h => d (hc.1 h)
    have HD : Hid (0 ≤ c ∧ m.tmod 1125899906842624 ≤ n.tmod 1125899906842624) := ⟨Int.not_lt.1 d2, Int.not_lt.1 d⟩
    clear hc
    go_wp2_with fail
    go_ret
    exact ⟨by show Ending.returned (.bool (decide (c < 0) == decide (n.tmod 1125899906842624 < m.tmod 1125899906842624))) = _; rw [decide_eq_false (Int.not_lt.2 HD.out.1), decide_eq_false (Int.not_lt.2 HD.out.2)]; rfl, Below.refl _ _⟩
end Go.Proofs.Ythaeipephelmcaa

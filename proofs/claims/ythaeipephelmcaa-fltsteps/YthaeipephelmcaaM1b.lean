/- The contract of flt's Whole. -/
import Derived.Test.YthaeipephelmcaaM0
import Derived.Test.YthaeipephelmcaaD10
import Derived.Laws.Externs
namespace Go.Proofs.Ythaeipephelmcaa
set_option linter.unusedVariables false
open Go.RowKit

theorem from_run (n : Nat) (w : World) : (callFunc 26 #[.int .u64 (n : Int)]).run Try.prog w = .ok (.value (.float .f64 n)) w := by
  rw [run_callFunc_extern (fn := Try.f26) (e := Extern.MathFloatBits.float64frombits) Try.func26 (by kernel_rfl) (by kernel_rfl) (by kernel_rfl) (by kernel_rfl)]
  rfl
/-- Not within. -/
theorem whole_lower (x : Nat) (b : Int) (w : World) (hb : b = (x : Int)) (h1 : (FloatKind.f64.format.order x 14069245235905429504 == some Ordering.gt) = false) (h2 : (FloatKind.f64.format.order x 14069245235905429504 == some Ordering.eq) = false) (HW : Hid (D.whole b = false ∧ D.wh b = 0)) :
    Calls Try.prog 21 #[.int .u64 b] w fun e w' => e = .returned (.tuple #[.int .i64 (D.wh b), .bool (D.whole b)]) ∧ w' = w := by
  obtain ⟨q1, q2⟩ := HW.out
  rw [q1, q2]
  clear q1 q2 HW
  subst hb
  have hf := from_run x w
  go_enter Try.func21, Try.ntmps21
  go_wp2
  go_ret2
  exact ⟨rfl, rfl⟩
theorem whole_upper (x : Nat) (b : Int) (w : World) (hb : b = (x : Int)) (h0 : (FloatKind.f64.format.order x 14069245235905429504 == some Ordering.gt) = true) (h1 : (FloatKind.f64.format.order x 4845873199050653696 == some Ordering.lt) = false) (h2 : (FloatKind.f64.format.order x 4845873199050653696 == some Ordering.eq) = false) (HW : Hid (D.whole b = false ∧ D.wh b = 0)) :
    Calls Try.prog 21 #[.int .u64 b] w fun e w' => e = .returned (.tuple #[.int .i64 (D.wh b), .bool (D.whole b)]) ∧ w' = w := by
  obtain ⟨q1, q2⟩ := HW.out
  rw [q1, q2]
  clear q1 q2 HW
  subst hb
  have hf := from_run x w
  go_enter Try.func21, Try.ntmps21
  go_wp2
  go_ret2
  exact ⟨rfl, rfl⟩
/-- Within: cut, and back. -/
theorem whole_within (x y : Nat) (b n : Int) (p : Bool) (w : World) (hb : b = (x : Int)) (h1 : (FloatKind.f64.format.order x 14069245235905429504 == some Ordering.gt || FloatKind.f64.format.order x 14069245235905429504 == some Ordering.eq) = true) (h2 : (FloatKind.f64.format.order x 4845873199050653696 == some Ordering.lt || FloatKind.f64.format.order x 4845873199050653696 == some Ordering.eq) = true)
    (hc : ∀ w : World, (convert 32 2 (.float .f64 x)).run Try.prog w = .ok (.int .i64 n) w) (hd : ∀ w : World, (convert 2 32 (.int .i64 n)).run Try.prog w = .ok (.float .f64 y) w) (he : (FloatKind.f64.format.order y x != some Ordering.eq) = !p) (HW : Hid (D.whole b = p ∧ D.wh b = if p = true then n else 0)) :
    Calls Try.prog 21 #[.int .u64 b] w fun e w' => e = .returned (.tuple #[.int .i64 (D.wh b), .bool (D.whole b)]) ∧ w' = w := by
  obtain ⟨q1, q2⟩ := HW.out
  rw [q1, q2]
  clear q1 q2 HW
  subst hb
  have hf := from_run x w
  have hc' := hc w
  have hd' := hd w
  clear hc hd
  cases p with
  | true =>
    have he' : (FloatKind.f64.format.order y x != some Ordering.eq) = false := he
    rw [if_pos rfl]
    clear he
    go_enter Try.func21, Try.ntmps21
    go_wp2
    go_ret2
    exact ⟨rfl, rfl⟩
  | false =>
    have he' : (FloatKind.f64.format.order y x != some Ordering.eq) = true := he
    rw [if_neg (by simp)]
    clear he
    go_enter Try.func21, Try.ntmps21
    go_wp2
    go_ret2
    exact ⟨rfl, rfl⟩
theorem not_none (o : Ordering) : ((none : Option Ordering) == some o) = false := rfl
theorem whole_any : KeptWhole := by
  intro b w h0 h1
  have hB : D.B = 4503599627370496 := rfl
  obtain ⟨x, rfl⟩ := Int.eq_ofNat_of_zero_le h0
  obtain ⟨s, r, hx, hr⟩ := D.word_of x (by omega)
  have eL : (14069245235905429504 : Nat) = D.wd true (1076 * D.B) := by decide
  have eU : (4845873199050653696 : Nat) = D.wd false (1076 * D.B) := by decide
  by_cases hN : 2047 * D.B < r
  · have ho : ∀ y, FloatKind.f64.format.order x y = none := fun y => by rw [hx]; exact D.order_nan s r y hN hr
    exact whole_lower x x w rfl (by rw [ho]; rfl) (by rw [ho]; rfl) (by rw [hx]; exact (D.whole_far s r (by omega) hr))
  · have hr2 : r ≤ 2047 * D.B := by omega
    have hK : 1076 * D.B ≤ 2047 * D.B := by omega
    by_cases hF : 1076 * D.B < r
    · cases s with
      | true =>
        refine whole_lower x x w rfl ?_ ?_ (by rw [hx]; exact (D.whole_far true r hF hr))
        · rw [eL, hx, D.is_gt _ _ _ _ hr2 hK]; simp [D.sr]; omega
        · rw [eL, hx, D.is_eq _ _ _ _ hr2 hK]; simp [D.sr]; omega
      | false =>
        refine whole_upper x x w rfl ?_ ?_ ?_ (by rw [hx]; exact (D.whole_far false r hF hr))
        · rw [eL, hx, D.is_gt _ _ _ _ hr2 hK]; simp [D.sr]; omega
        · rw [eU, hx, D.is_lt _ _ _ _ hr2 hK]; simp [D.sr]; omega
        · rw [eU, hx, D.is_eq _ _ _ _ hr2 hK]; simp [D.sr]; omega
    · have hF2 : r ≤ 1076 * D.B := by omega
      have hr3 : r < 2047 * D.B := by omega
      obtain ⟨m, hm⟩ : ∃ m, D.u r / 2 ^ D.P74 = m := ⟨_, rfl⟩
      have hle := D.floor_le hF2
      rw [hm] at hle
      obtain ⟨n, hn⟩ : ∃ n : Int, (if s = true then -(m : Int) else (m : Int)) = n := ⟨_, rfl⟩
      have hna : n.natAbs = m := by rw [← hn]; split <;> omega
      obtain ⟨q, hq, hqu, hqn⟩ := D.ofInt_most n (by omega)
      have hw := D.whole_is s r hF2
      rw [hm, hn] at hw
      rw [hna] at hqu
      have hto := D.toInt_floor s r hr3
      rw [hm] at hto
      have heq : (FloatKind.f64.format.order (D.wd (decide (n < 0)) q) x != some Ordering.eq) = !(decide (D.u r = m * 2 ^ D.P74)) := by
        show (Ieee.double.order _ x != some Ordering.eq) = _
        rw [hx, D.order_wd _ _ _ _ hq hr3]
        have hsu : D.su (decide (n < 0)) q = D.su s r ↔ D.u r = m * 2 ^ D.P74 := by
          simp only [D.su, hqu]
          have hz : m = 0 → m * 2 ^ D.P74 = 0 := fun h => by rw [h, Nat.zero_mul]
          have hz2 : m ≠ 0 → m * 2 ^ D.P74 ≠ 0 := fun h => Nat.mul_ne_zero h (Nat.ne_of_gt (Nat.two_pow_pos _))
          generalize m * 2 ^ D.P74 = v at hz hz2 ⊢
          by_cases hm0 : m = 0
          · have hv := hz hm0
            have hn0 : n = 0 := by omega
            subst hn0
            cases s <;> simp <;> omega
          · have hv := hz2 hm0
            cases s with
            | true =>
              have hneg : n < 0 := by simp at hn; omega
              simp [hneg]; omega
            | false =>
              have hneg : ¬ n < 0 := by simp at hn; omega
              simp [hneg]; omega
        by_cases he : D.u r = m * 2 ^ D.P74
        · rw [hsu.2 he, D.cmp_eq]; simp [he]
        · have hne : D.su (decide (n < 0)) q ≠ D.su s r := fun h => he (hsu.1 h)
          rcases Int.lt_or_gt_of_ne hne with hl | hl
          · rw [D.cmp_lt hl]; simp [he]
          · rw [D.cmp_gt hl]; simp [he]
      refine whole_within x (D.wd (decide (n < 0)) q) x n (decide (D.u r = m * 2 ^ D.P74)) w rfl ?_ ?_ ?_ ?_ heq ?_
      · rw [eL, hx, D.is_gt _ _ _ _ hr2 hK, D.is_eq _ _ _ _ hr2 hK]; cases s <;> simp [D.sr] <;> omega
      · rw [eU, hx, D.is_lt _ _ _ _ hr2 hK, D.is_eq _ _ _ _ hr2 hK]; cases s <;> simp [D.sr] <;> omega
      · intro w
        refine run_convert_float_int w 32 2 .f64 .i64 x n (by rw [Try.underlying32]; rfl) Try.underlying2 ?_
        unfold floatToIntVal
        show (match (Ieee.double.read x).toInt .zero with | some n => if IntKind.i64.min ≤ n ∧ n ≤ IntKind.i64.max then some n else none | none => none) = _
        rw [hx, hto]
        show (if IntKind.i64.min ≤ (if s = true then -(m : Int) else (m : Int)) ∧ (if s = true then -(m : Int) else (m : Int)) ≤ IntKind.i64.max then some (if s = true then -(m : Int) else (m : Int)) else none) = _
        rw [hn, if_pos (by simp [IntKind.min, IntKind.max, IntKind.signed, IntKind.bits]; omega)]
      · intro w
        rw [run_convert_int_float w 2 32 .i64 .f64 n (by rw [Try.underlying2]; rfl) Try.underlying32]
        unfold floatOfInt
        rw [hqn]
      · rw [hx]
        by_cases he : D.u r = m * 2 ^ D.P74
        · obtain ⟨a1, a2⟩ := hw.1 he
          exact ⟨by rw [a1]; simp [he], by rw [a2]; simp [he]⟩
        · obtain ⟨a1, a2⟩ := hw.2 he
          exact ⟨by rw [a1]; simp [he], by rw [a2]; simp [he]⟩
end Go.Proofs.Ythaeipephelmcaa

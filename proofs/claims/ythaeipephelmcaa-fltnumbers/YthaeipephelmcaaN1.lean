/- The walk of the statements' own 'bits': a float64's word, by steps. -/
import Derived.WalkKit
import Derived.WalkSpells
import Derived.WalkLawsBesides
import Derived.Test.YthaeipephelmcaaD5
namespace Go.Proofs.Ythaeipephelmcaa
set_option linter.unusedVariables false
open Go.RowKit

theorem hideN {p : Prop} (h : p) : Hid p := h
theorem pow_step (r e : Nat) (he : 1 < e) (he2 : e ≤ 1023) : 2 * (r * 2 ^ (1023 - e)) = r * 2 ^ (1023 - (e - 1)) := by
  rw [show 1023 - (e - 1) = (1023 - e) + 1 by omega, Nat.pow_succ, Nat.mul_comm (2 ^ (1023 - e)) 2, ← Nat.mul_assoc, ← Nat.mul_assoc, Nat.mul_comm 2 r]

set_option maxHeartbeats 1000000 in
/-- Of a number above 0, with the sign told so far. -/
theorem bits_pos (r : Nat) (w : World) (h0 : 0 < r) (hr : r < 2047 * D.B) :
    Calls Try.prog 23 #[.float .f64 r] w fun e w' => e = .returned (.int .u64 (r : Int)) ∧ w' = w := by
  have hB : D.B = 4503599627370496 := rfl
  have f1 : (FloatKind.f64.format.order r 0 == some Ordering.lt) = false := by rw [D.ord_lt r 0 hr (by omega)]; simp
  have f2 : (FloatKind.f64.format.order r 0 == some Ordering.eq) = false := by rw [D.ord_eq r 0 hr (by omega)]; simp; omega
  have f3 : (FloatKind.f64.format.order r 9218868437227405311 == some Ordering.gt) = false := by rw [D.ord_gt r 9218868437227405311 hr (by omega)]; simp; omega
  have HR := hideN hr
  have H0 := hideN h0
  have HB := hideN hB
  clear hr h0 hB
  go_enter Try.func23, Try.ntmps23
  go_wp2_with fail
  go_loop [0, 4] (fun v i => ∃ (x : Nat) (e : Int), v = .float .f64 x ∧ i = .int .u64 e ∧ 1023 ≤ e ∧ e ≤ 2046 ∧ Hid (x < 2047 * D.B ∧ 0 < x ∧ (x : Int) + (e - 1023) * D.B = r ∧ (1023 < e → 1023 * D.B ≤ x))) (fun v _ => match v with | .float _ x => x | _ => 0)
  case atStart => exact ⟨r, 1023, rfl, rfl, by omega, by omega, hideN ⟨HR.out, H0.out, by omega, by omega⟩⟩
  case round =>
    obtain ⟨x, e, rfl, rfl, he0, he1, HX⟩ := hrel
    clear f1 f2 f3
    by_cases hge : 1024 * D.B ≤ x
    · have hx1 := HX.out.1
      have hB := HB.out
      have g1 : (FloatKind.f64.format.order x 4611686018427387904 == some Ordering.gt || FloatKind.f64.format.order x 4611686018427387904 == some Ordering.eq) = true := by
        rw [D.ord_gt x 4611686018427387904 hx1 (by omega), D.ord_eq x 4611686018427387904 hx1 (by omega)]
        simp; omega
      have g2 := fun w => D.run_half x (by omega) hx1 w
      have he2 : e < 2046 := by
        have q1 := HX.out.2.2.1
        have q2 := HR.out
        have q3 := hge
        rw [hB] at q1 q2 q3
        omega
      have HX2 : Hid (x - D.B < 2047 * D.B ∧ 0 < x - D.B ∧ ((x - D.B : Nat) : Int) + (e + 1 - 1023) * D.B = r ∧ (1023 < e + 1 → 1023 * D.B ≤ x - D.B)) := hideN (by
        have q1 := HX.out.2.2.1
        have q3 := hge
        refine ⟨by omega, by omega, ?_, by omega⟩
        rw [hB] at q1 q3 ⊢
        omega)
      have hdec : x - D.B < x := by omega
      clear hx1 hB hge
      go_wp2_with fail
      go_round
      case rel => exact ⟨x - D.B, e + 1, rfl, rfl, by omega, by omega, HX2⟩
      case measure => simpa using hdec
    · have hx1 := HX.out.1
      have hB := HB.out
      have g1 : (FloatKind.f64.format.order x 4611686018427387904 == some Ordering.gt || FloatKind.f64.format.order x 4611686018427387904 == some Ordering.eq) = false := by
        rw [D.ord_gt x 4611686018427387904 hx1 (by omega), D.ord_eq x 4611686018427387904 hx1 (by omega)]
        simp; omega
      have HI : Hid (x < 1024 * D.B ∧ ((D.B ≤ r ∧ D.B ≤ x ∧ (x : Int) + e * D.B = r + 1023 * D.B) ∨ (r < D.B ∧ e ≤ 1023 ∧ D.u x = r * 2 ^ (1023 - e.toNat)))) := hideN (by
        have q1 := HX.out.2.2.1
        have q2 := HX.out.2.2.2
        refine ⟨by omega, ?_⟩
        by_cases hrB : r < D.B
        · right
          have he : e = 1023 := by
            by_cases h : 1023 < e
            · have := q2 h
              rw [hB] at q1 this hrB; omega
            · omega
          subst he
          have hxr : x = r := by rw [hB] at q1; omega
          subst hxr
          refine ⟨hrB, by omega, ?_⟩
          rw [D.u_small x hrB]; simp
        · left
          refine ⟨by omega, ?_, ?_⟩
          · by_cases h : 1023 < e
            · have := q2 h; omega
            · have : e = 1023 := by omega
              subst this
              rw [hB] at q1 hrB ⊢; omega
          · rw [hB] at q1 ⊢; omega)
      clear hx1 hB hge HX
      go_wp2_with fail
      go_loop [0, 4] (fun v i => ∃ (y : Nat) (d : Int), v = .float .f64 y ∧ i = .int .u64 d ∧ 1 ≤ d ∧ d ≤ 2046 ∧ Hid (y < 1024 * D.B ∧ ((D.B ≤ r ∧ D.B ≤ y ∧ (y : Int) + d * D.B = r + 1023 * D.B) ∨ (r < D.B ∧ d ≤ 1023 ∧ D.u y = r * 2 ^ (1023 - d.toNat))))) (fun _ i => (intOf i).toNat)
      case atStart => exact ⟨x, e, rfl, rfl, by omega, he1, HI⟩
      case round =>
        obtain ⟨y, d, rfl, rfl, hd0, hd1, HY⟩ := hrel
        clear g1
        have hy1 : y < 2047 * D.B := by have := HY.out.1; have := HB.out; omega
        have hB := HB.out
        by_cases hone : y < 1023 * D.B
        · have k1 : (FloatKind.f64.format.order y 4607182418800017408 == some Ordering.lt) = true := by
            rw [D.ord_lt y 4607182418800017408 hy1 (by omega)]
            simp; omega
          by_cases hd : 1 < d
          · have k2 := fun w => D.run_twice y (by omega) w
            have HY2 : Hid (D.dbl y < 1024 * D.B ∧ ((D.B ≤ r ∧ D.B ≤ D.dbl y ∧ (D.dbl y : Int) + (d - 1) * D.B = r + 1023 * D.B) ∨ (r < D.B ∧ d - 1 ≤ 1023 ∧ D.u (D.dbl y) = r * 2 ^ (1023 - (d - 1).toNat)))) := hideN (by
              have hdb : D.dbl y < 1024 * D.B := by unfold D.dbl; split <;> omega
              refine ⟨hdb, ?_⟩
              rcases HY.out.2 with ⟨q1, q2, q3⟩ | ⟨q1, q2, q3⟩
              · left
                have e1 : D.dbl y = y + D.B := by unfold D.dbl; rw [if_neg (by omega)]
                rw [e1]
                refine ⟨q1, by omega, ?_⟩
                rw [hB] at q3 ⊢; omega
              · right
                refine ⟨q1, by omega, ?_⟩
                rw [D.u_dbl, q3, show (d - 1).toNat = d.toNat - 1 by omega]
                exact pow_step r d.toNat (by omega) (by omega))
            obtain ⟨y2, hy2⟩ : ∃ y2, D.dbl y = y2 := ⟨_, rfl⟩
            simp only [hy2] at k2
            rw [hy2] at HY2
            clear hy1 hB hone hy2
            go_wp2_with fail
            go_round
            case rel => exact ⟨y2, d - 1, rfl, rfl, by omega, by omega, HY2⟩
            case measure => simp [intOf]; omega
          · obtain rfl : d = 1 := by omega
            have hlow : r < D.B ∧ D.u y = r * 2 ^ D.P22 := by
              rcases HY.out.2 with ⟨q1, q2, q3⟩ | ⟨q1, q2, q3⟩
              · rw [hB] at q1 q3 hone; omega
              · exact ⟨q1, by rw [q3, show 1023 - (1 : Int).toNat = D.P22 from rfl]⟩
            obtain ⟨q, k3, k4⟩ := D.run_up y r hy1 hlow.2 hlow.1
            have hr64 : (r : Int) < 18446744073709551616 := by have := hlow.1; omega
            clear hy1 hB hone hlow
            go_wp2_with fail
            go_ret
            exact ⟨rfl, rfl⟩
        · have k1 : (FloatKind.f64.format.order y 4607182418800017408 == some Ordering.lt) = false := by
            rw [D.ord_lt y 4607182418800017408 hy1 (by omega)]
            simp; omega
          have hup : D.B ≤ r ∧ (y : Int) + d * D.B = r + 1023 * D.B := by
            rcases HY.out.2 with ⟨q1, q2, q3⟩ | ⟨q1, q2, q3⟩
            · exact ⟨q1, q3⟩
            · exfalso
              have h1 : D.u (1023 * D.B) ≤ D.u y := by
                rcases Nat.lt_or_ge (1023 * D.B) y with h | h
                · exact Nat.le_of_lt (D.u_lt h)
                · have : y = 1023 * D.B := by omega
                  rw [this]; exact Nat.le_refl _
              rw [D.u_pow' 1023 D.P74 (by omega) rfl, q3] at h1
              have h2 : r * 2 ^ (1023 - d.toNat) ≤ r * 2 ^ D.P22 := Nat.mul_le_mul_left _ (Nat.pow_le_pow_right (by omega) (by have := D.P22_eq; omega))
              have h3 : r * 2 ^ D.P22 < D.B * 2 ^ D.P22 := Nat.mul_lt_mul_of_pos_right q1 (Nat.two_pow_pos _)
              have h4 : D.B * 2 ^ D.P22 = 2 ^ D.P74 := by
                rw [show D.P74 = 52 + D.P22 from rfl, Nat.pow_add, ← D.B_pow]
              omega
          obtain ⟨f, hf⟩ : ∃ f, y = 1023 * D.B + f := ⟨y - 1023 * D.B, by omega⟩
          have hfB : f < D.B := by have := HY.out.1; omega
          obtain ⟨q, hq, hqu, k2⟩ := D.run_less f hfB
          obtain ⟨q2, k3, k4⟩ := D.run_up q f hq hqu hfB
          simp only [← hf] at k2
          have HF : Hid (d * 4503599627370496 + (f : Int) = (r : Int)) := hideN (by have := hup.2; rw [hB] at this hf; omega)
          have hd64 : d * 4503599627370496 < 18446744073709551616 := by omega
          have hf64 : (f : Int) < 4503599627370496 := by omega
          clear hy1 hB hone hup hf hfB hq hqu
          go_wp2_with fail
          go_ret
          exact ⟨congrArg (fun z => Ending.returned (.int .u64 z)) HF.out, rfl⟩
set_option maxHeartbeats 1000000 in
/-- Of a number below 0. -/
theorem bits_neg (r : Nat) (w : World) (h0 : 0 < r) (hr : r < 2047 * D.B) :
    Calls Try.prog 23 #[.float .f64 (9223372036854775808 + r)] w fun e w' => e = .returned (.int .u64 (9223372036854775808 + (r : Int))) ∧ w' = w := by
  have f0 : (FloatKind.f64.format.order (9223372036854775808 + r) 0 == some Ordering.lt) = true := D.ord_neg r hr h0
  have fn := fun w => D.run_neg r (by have : D.B = 4503599627370496 := rfl; omega) w
  obtain ⟨W, hW⟩ : ∃ W, 9223372036854775808 + r = W := ⟨_, rfl⟩
  rw [hW] at f0 ⊢
  simp only [hW] at fn
  clear hW
  have hB : D.B = 4503599627370496 := rfl
  have f2 : (FloatKind.f64.format.order r 0 == some Ordering.eq) = false := by rw [D.ord_eq r 0 hr (by omega)]; simp; omega
  have f3 : (FloatKind.f64.format.order r 9218868437227405311 == some Ordering.gt) = false := by rw [D.ord_gt r 9218868437227405311 hr (by omega)]; simp; omega
  have HR := hideN hr
  have H0 := hideN h0
  have HB := hideN hB
  clear hr h0 hB
  go_enter Try.func23, Try.ntmps23
  go_wp2_with fail
  go_loop [0, 4] (fun v i => ∃ (x : Nat) (e : Int), v = .float .f64 x ∧ i = .int .u64 e ∧ 1023 ≤ e ∧ e ≤ 2046 ∧ Hid (x < 2047 * D.B ∧ 0 < x ∧ (x : Int) + (e - 1023) * D.B = r ∧ (1023 < e → 1023 * D.B ≤ x))) (fun v _ => match v with | .float _ x => x | _ => 0)
  case atStart => exact ⟨r, 1023, rfl, rfl, by omega, by omega, hideN ⟨HR.out, H0.out, by omega, by omega⟩⟩
  case round =>
    obtain ⟨x, e, rfl, rfl, he0, he1, HX⟩ := hrel
    clear f0 f2 f3 fn
    by_cases hge : 1024 * D.B ≤ x
    · have hx1 := HX.out.1
      have hB := HB.out
      have g1 : (FloatKind.f64.format.order x 4611686018427387904 == some Ordering.gt || FloatKind.f64.format.order x 4611686018427387904 == some Ordering.eq) = true := by
        rw [D.ord_gt x 4611686018427387904 hx1 (by omega), D.ord_eq x 4611686018427387904 hx1 (by omega)]
        simp; omega
      have g2 := fun w => D.run_half x (by omega) hx1 w
      have he2 : e < 2046 := by
        have q1 := HX.out.2.2.1
        have q2 := HR.out
        have q3 := hge
        rw [hB] at q1 q2 q3
        omega
      have HX2 : Hid (x - D.B < 2047 * D.B ∧ 0 < x - D.B ∧ ((x - D.B : Nat) : Int) + (e + 1 - 1023) * D.B = r ∧ (1023 < e + 1 → 1023 * D.B ≤ x - D.B)) := hideN (by
        have q1 := HX.out.2.2.1
        have q3 := hge
        refine ⟨by omega, by omega, ?_, by omega⟩
        rw [hB] at q1 q3 ⊢
        omega)
      have hdec : x - D.B < x := by omega
      clear hx1 hB hge
      go_wp2_with fail
      go_round
      case rel => exact ⟨x - D.B, e + 1, rfl, rfl, by omega, by omega, HX2⟩
      case measure => simpa using hdec
    · have hx1 := HX.out.1
      have hB := HB.out
      have g1 : (FloatKind.f64.format.order x 4611686018427387904 == some Ordering.gt || FloatKind.f64.format.order x 4611686018427387904 == some Ordering.eq) = false := by
        rw [D.ord_gt x 4611686018427387904 hx1 (by omega), D.ord_eq x 4611686018427387904 hx1 (by omega)]
        simp; omega
      have HI : Hid (x < 1024 * D.B ∧ ((D.B ≤ r ∧ D.B ≤ x ∧ (x : Int) + e * D.B = r + 1023 * D.B) ∨ (r < D.B ∧ e ≤ 1023 ∧ D.u x = r * 2 ^ (1023 - e.toNat)))) := hideN (by
        have q1 := HX.out.2.2.1
        have q2 := HX.out.2.2.2
        refine ⟨by omega, ?_⟩
        by_cases hrB : r < D.B
        · right
          have he : e = 1023 := by
            by_cases h : 1023 < e
            · have := q2 h
              rw [hB] at q1 this hrB; omega
            · omega
          subst he
          have hxr : x = r := by rw [hB] at q1; omega
          subst hxr
          refine ⟨hrB, by omega, ?_⟩
          rw [D.u_small x hrB]; simp
        · left
          refine ⟨by omega, ?_, ?_⟩
          · by_cases h : 1023 < e
            · have := q2 h; omega
            · have : e = 1023 := by omega
              subst this
              rw [hB] at q1 hrB ⊢; omega
          · rw [hB] at q1 ⊢; omega)
      clear hx1 hB hge HX
      go_wp2_with fail
      go_loop [0, 4] (fun v i => ∃ (y : Nat) (d : Int), v = .float .f64 y ∧ i = .int .u64 d ∧ 1 ≤ d ∧ d ≤ 2046 ∧ Hid (y < 1024 * D.B ∧ ((D.B ≤ r ∧ D.B ≤ y ∧ (y : Int) + d * D.B = r + 1023 * D.B) ∨ (r < D.B ∧ d ≤ 1023 ∧ D.u y = r * 2 ^ (1023 - d.toNat))))) (fun _ i => (intOf i).toNat)
      case atStart => exact ⟨x, e, rfl, rfl, by omega, he1, HI⟩
      case round =>
        obtain ⟨y, d, rfl, rfl, hd0, hd1, HY⟩ := hrel
        clear g1
        have hy1 : y < 2047 * D.B := by have := HY.out.1; have := HB.out; omega
        have hB := HB.out
        by_cases hone : y < 1023 * D.B
        · have k1 : (FloatKind.f64.format.order y 4607182418800017408 == some Ordering.lt) = true := by
            rw [D.ord_lt y 4607182418800017408 hy1 (by omega)]
            simp; omega
          by_cases hd : 1 < d
          · have k2 := fun w => D.run_twice y (by omega) w
            have HY2 : Hid (D.dbl y < 1024 * D.B ∧ ((D.B ≤ r ∧ D.B ≤ D.dbl y ∧ (D.dbl y : Int) + (d - 1) * D.B = r + 1023 * D.B) ∨ (r < D.B ∧ d - 1 ≤ 1023 ∧ D.u (D.dbl y) = r * 2 ^ (1023 - (d - 1).toNat)))) := hideN (by
              have hdb : D.dbl y < 1024 * D.B := by unfold D.dbl; split <;> omega
              refine ⟨hdb, ?_⟩
              rcases HY.out.2 with ⟨q1, q2, q3⟩ | ⟨q1, q2, q3⟩
              · left
                have e1 : D.dbl y = y + D.B := by unfold D.dbl; rw [if_neg (by omega)]
                rw [e1]
                refine ⟨q1, by omega, ?_⟩
                rw [hB] at q3 ⊢; omega
              · right
                refine ⟨q1, by omega, ?_⟩
                rw [D.u_dbl, q3, show (d - 1).toNat = d.toNat - 1 by omega]
                exact pow_step r d.toNat (by omega) (by omega))
            obtain ⟨y2, hy2⟩ : ∃ y2, D.dbl y = y2 := ⟨_, rfl⟩
            simp only [hy2] at k2
            rw [hy2] at HY2
            clear hy1 hB hone hy2
            go_wp2_with fail
            go_round
            case rel => exact ⟨y2, d - 1, rfl, rfl, by omega, by omega, HY2⟩
            case measure => simp [intOf]; omega
          · obtain rfl : d = 1 := by omega
            have hlow : r < D.B ∧ D.u y = r * 2 ^ D.P22 := by
              rcases HY.out.2 with ⟨q1, q2, q3⟩ | ⟨q1, q2, q3⟩
              · rw [hB] at q1 q3 hone; omega
              · exact ⟨q1, by rw [q3, show 1023 - (1 : Int).toNat = D.P22 from rfl]⟩
            obtain ⟨q, k3, k4⟩ := D.run_up y r hy1 hlow.2 hlow.1
            have hr64 : (r : Int) < 4503599627370496 := by have := hlow.1; omega
            clear hy1 hB hone hlow
            go_wp2_with fail
            go_ret
            exact ⟨rfl, rfl⟩
        · have k1 : (FloatKind.f64.format.order y 4607182418800017408 == some Ordering.lt) = false := by
            rw [D.ord_lt y 4607182418800017408 hy1 (by omega)]
            simp; omega
          have hup : D.B ≤ r ∧ (y : Int) + d * D.B = r + 1023 * D.B := by
            rcases HY.out.2 with ⟨q1, q2, q3⟩ | ⟨q1, q2, q3⟩
            · exact ⟨q1, q3⟩
            · exfalso
              have h1 : D.u (1023 * D.B) ≤ D.u y := by
                rcases Nat.lt_or_ge (1023 * D.B) y with h | h
                · exact Nat.le_of_lt (D.u_lt h)
                · have : y = 1023 * D.B := by omega
                  rw [this]; exact Nat.le_refl _
              rw [D.u_pow' 1023 D.P74 (by omega) rfl, q3] at h1
              have h2 : r * 2 ^ (1023 - d.toNat) ≤ r * 2 ^ D.P22 := Nat.mul_le_mul_left _ (Nat.pow_le_pow_right (by omega) (by have := D.P22_eq; omega))
              have h3 : r * 2 ^ D.P22 < D.B * 2 ^ D.P22 := Nat.mul_lt_mul_of_pos_right q1 (Nat.two_pow_pos _)
              have h4 : D.B * 2 ^ D.P22 = 2 ^ D.P74 := by
                rw [show D.P74 = 52 + D.P22 from rfl, Nat.pow_add, ← D.B_pow]
              omega
          obtain ⟨f, hf⟩ : ∃ f, y = 1023 * D.B + f := ⟨y - 1023 * D.B, by omega⟩
          have hfB : f < D.B := by have := HY.out.1; omega
          obtain ⟨q, hq, hqu, k2⟩ := D.run_less f hfB
          obtain ⟨q2, k3, k4⟩ := D.run_up q f hq hqu hfB
          simp only [← hf] at k2
          have HF : Hid (9223372036854775808 + d * 4503599627370496 + (f : Int) = 9223372036854775808 + (r : Int)) := hideN (by have := hup.2; rw [hB] at this hf; omega)
          have hd64 : d * 4503599627370496 < 9218868437227405313 := by omega
          have hf64 : (f : Int) < 4503599627370496 := by omega
          clear hy1 hB hone hup hf hfB hq hqu
          go_wp2_with fail
          go_ret
          exact ⟨congrArg (fun z => Ending.returned (.int .u64 z)) HF.out, rfl⟩

set_option maxHeartbeats 400000 in
/-- Of 0, and of -0. -/
theorem bits_zero (s : Bool) (w : World) :
    Calls Try.prog 23 #[.float .f64 (if s then 9223372036854775808 else 0)] w fun e w' => e = .returned (.int .u64 0) ∧ w' = w := by
  obtain ⟨W, hW⟩ : ∃ W, (if s then 9223372036854775808 else 0 : Nat) = W := ⟨_, rfl⟩
  have f1 : (FloatKind.f64.format.order W 0 == some Ordering.lt) = false := by rw [← hW]; cases s <;> decide
  have f2 : (FloatKind.f64.format.order W 0 == some Ordering.eq) = true := by rw [← hW]; cases s <;> decide
  rw [hW]
  clear hW
  go_enter Try.func23, Try.ntmps23
  go_wp2
  go_ret
  exact ⟨rfl, rfl⟩
set_option maxHeartbeats 400000 in
theorem bits_inf (w : World) :
    Calls Try.prog 23 #[.float .f64 9218868437227405312] w fun e w' => e = .returned (.int .u64 9218868437227405312) ∧ w' = w := by
  obtain ⟨W, hW⟩ : ∃ W, (9218868437227405312 : Nat) = W := ⟨_, rfl⟩
  have f1 : (FloatKind.f64.format.order W 0 == some Ordering.lt) = false := by rw [← hW]; decide
  have f2 : (FloatKind.f64.format.order W 0 == some Ordering.eq) = false := by rw [← hW]; decide
  have f3 : (FloatKind.f64.format.order W 9218868437227405311 == some Ordering.gt) = true := by rw [← hW]; decide
  rw [hW]
  clear hW
  go_enter Try.func23, Try.ntmps23
  go_wp2
  go_ret
  exact ⟨rfl, rfl⟩
set_option maxHeartbeats 400000 in
theorem bits_ninf (w : World) :
    Calls Try.prog 23 #[.float .f64 18442240474082181120] w fun e w' => e = .returned (.int .u64 18442240474082181120) ∧ w' = w := by
  have fn := fun w => D.run_neg 9218868437227405312 (by omega) w
  obtain ⟨V, hV⟩ : ∃ V, (9218868437227405312 : Nat) = V := ⟨_, rfl⟩
  obtain ⟨W, hW⟩ : ∃ W, (18442240474082181120 : Nat) = W := ⟨_, rfl⟩
  rw [show 9223372036854775808 + 9218868437227405312 = W from hW, hV] at fn
  have f1 : (FloatKind.f64.format.order W 0 == some Ordering.lt) = true := by rw [← hW]; decide
  have f2 : (FloatKind.f64.format.order V 0 == some Ordering.eq) = false := by rw [← hV]; decide
  have f3 : (FloatKind.f64.format.order V 9218868437227405311 == some Ordering.gt) = true := by rw [← hV]; decide
  rw [hW]
  clear hW hV
  go_enter Try.func23, Try.ntmps23
  go_wp2
  go_ret
  exact ⟨rfl, rfl⟩
end Go.Proofs.Ythaeipephelmcaa

/- Plain: a float64 within 2^53, cut towards 0, and that as a float64: the same just if it is whole; what lies beyond. Nothing of the program's text. -/
import Derived.Test.YthaeipephelmcaaD4
import Derived.Test.YthaeipephelmcaaD7
import Derived.Test.YthaeipephelmcaaD8
namespace Go.Proofs.Ythaeipephelmcaa.D
set_option linter.unusedVariables false
open Ieee

theorem cut_floor (neg : Bool) (n k : Nat) : Toward.zero.cut neg n k = n / 2 ^ k := by
  unfold Toward.cut
  simp only [Nat.shiftLeft_eq, Nat.one_mul, Bool.toNat_false, Nat.add_zero]
  rcases Nat.le_total k (n.log2 + 2) with h | h
  · rw [Nat.min_eq_left h]
  · rw [Nat.min_eq_right h]
    have h1 : n < 2 ^ (n.log2 + 1) := Nat.lt_log2_self
    have h2 : 2 ^ (n.log2 + 1) ≤ 2 ^ (n.log2 + 2) := Nat.pow_le_pow_right (by omega) (by omega)
    have h3 : 2 ^ (n.log2 + 2) ≤ 2 ^ k := Nat.pow_le_pow_right (by omega) h
    rw [Nat.div_eq_of_lt (by omega), Nat.div_eq_of_lt (by omega)]
/-- Cut towards 0. -/
theorem toInt_floor (s : Bool) (r : Nat) (hr : r < 2047 * B) : (double.read (wd s r)).toInt .zero = some (if s then -((u r / 2 ^ P74 : Nat) : Int) else ((u r / 2 ^ P74 : Nat) : Int)) := by
  rw [read_wd s r hr]
  simp only [Datum.toInt, Datum.integral]
  have hcut : Toward.zero.cut s (M r <<< (E r).toNat) (-(E r)).toNat = u r / 2 ^ P74 := by
    rw [Nat.shiftLeft_eq, cut_floor]
    have hv := val_rung r
    rcases hv with ⟨h1, h2⟩ | ⟨h1, h2⟩
    · rcases Int.lt_or_le (E r) 0 with he | he
      · rw [show (E r).toNat = 0 by omega, Nat.pow_zero, Nat.mul_one, ← h2]
        rw [show P74 = (E r + 1074).toNat + (-(E r)).toNat by have := P74_eq; omega, Nat.pow_add, ← Nat.div_div_eq_div_mul, Nat.mul_div_cancel _ (Nat.two_pow_pos _)]
      · rw [show (-(E r)).toNat = 0 by omega, Nat.pow_zero, Nat.div_one, ← h2]
        rw [show (E r + 1074).toNat = (E r).toNat + P74 by have := P74_eq; omega, Nat.pow_add, ← Nat.mul_assoc, Nat.mul_div_cancel _ (Nat.two_pow_pos _)]
    · have := E_le r; omega
  rw [hcut]
  cases s <;> simp [signed]
theorem u_top : u (1076 * B) = 9007199254740992 * 2 ^ P74 := by
  rw [u_pow' 1076 (53 + P74) (by omega) rfl, Nat.pow_add]
theorem u_le {r q : Nat} (h : r ≤ q) : u r ≤ u q := by
  rcases Nat.lt_or_eq_of_le h with h | h
  · exact Nat.le_of_lt (u_lt h)
  · rw [h]; exact Nat.le_refl _
theorem floor_le {r : Nat} (h : r ≤ 1076 * B) : u r / 2 ^ P74 ≤ 9007199254740992 := by
  have h1 := u_le h
  rw [u_top] at h1
  have := Nat.div_le_div_right (c := 2 ^ P74) h1
  rwa [Nat.mul_div_cancel _ (Nat.two_pow_pos _)] at this
/-- A whole number up to 2^53, as a number with a point. -/
theorem ofInt_most (a : Int) (h : a.natAbs ≤ 9007199254740992) : ∃ r, r < 2047 * B ∧ u r = a.natAbs * 2 ^ P74 ∧ FloatKind.nearest .f64 a = wd (decide (a < 0)) r := by
  obtain ⟨r, hr, hu⟩ : ∃ r, r < 2047 * B ∧ u r = a.natAbs * 2 ^ P74 := by
    rcases Nat.lt_or_eq_of_le h with h | h
    · exact rung_of a.natAbs P74 (by unfold B; omega) (by have := P74_eq; omega)
    · exact ⟨1076 * B, by unfold B; omega, by rw [u_top, h]⟩
  refine ⟨r, hr, hu, ?_⟩
  have hv : Val a.natAbs 0 (u r) := .inl ⟨by omega, by rw [hu, show ((0 : Int) + 1074).toNat = P74 from rfl]⟩
  show double.write (.number (decide (a < 0)) a.natAbs 0) = _
  simp only [Format.write]
  rw [nearest_exact _ _ _ r hr hv, wd_word]
/-- Whether, and which, by what is cut. -/
theorem whole_is (s : Bool) (r : Nat) (hr : r ≤ 1076 * B) :
    (u r = u r / 2 ^ P74 * 2 ^ P74 → whole ((wd s r : Nat) : Int) = true ∧ wh ((wd s r : Nat) : Int) = if s = true then -((u r / 2 ^ P74 : Nat) : Int) else ((u r / 2 ^ P74 : Nat) : Int)) ∧
    (u r ≠ u r / 2 ^ P74 * 2 ^ P74 → whole ((wd s r : Nat) : Int) = false ∧ wh ((wd s r : Nat) : Int) = 0) := by
  have hr' : r < 2047 * B := by unfold B at hr ⊢; omega
  obtain ⟨hE, hF⟩ := wd_parts s r hr'
  have hP := P74_eq
  have hf : r % B < B := Nat.mod_lt _ B_pos
  have hB : B = 4503599627370496 := rfl
  by_cases h0 : r < B
  · have hz : u r / 2 ^ P74 = 0 := by
      rw [u_small r h0]
      apply Nat.div_eq_of_lt
      have : 2 ^ 52 ≤ 2 ^ P74 := Nat.pow_le_pow_right (by omega) (by omega)
      rw [← B_pow] at this; omega
    rw [hz, u_small r h0]
    have e1 : r / B = 0 := Nat.div_eq_of_lt h0
    have e2 : r % B = r := Nat.mod_eq_of_lt h0
    rw [e1] at hE; rw [e2] at hF
    constructor
    · intro h
      have hr0 : r = 0 := by omega
      subst hr0
      have := whole_zero hE hF (by simp) (by simp)
      refine ⟨this.1, ?_⟩
      rw [this.2]; cases s <;> simp
    · intro h
      exact whole_out hE hF (by omega) (by left; omega)
  · have hb : B ≤ r := by omega
    have hub := u_big r hb
    have hE1 : 1 ≤ r / B := by rw [Nat.le_div_iff_mul_le B_pos]; omega
    have hE2 : r / B ≤ 1076 := by unfold B at hr ⊢; omega
    obtain ⟨e, he⟩ : ∃ e, r / B = e := ⟨_, rfl⟩
    obtain ⟨f, hfe⟩ : ∃ f, r % B = f := ⟨_, rfl⟩
    have hre : r = e * B + f := by rw [← he, ← hfe, Nat.mul_comm]; exact (Nat.div_add_mod r B).symm
    rw [he] at hE hub hE1 hE2
    rw [hfe] at hF hub hf
    by_cases c1 : e < 1023
    · have hlt : u r < 2 ^ P74 := by
        rw [hub]
        have h1 : (B + f) * 2 ^ (e - 1) < 2 ^ 53 * 2 ^ (e - 1) := Nat.mul_lt_mul_of_pos_right (by rw [show (2 : Nat) ^ 53 = 2 * B by decide]; omega) (Nat.two_pow_pos _)
        rw [← Nat.pow_add] at h1
        exact Nat.lt_of_lt_of_le h1 (Nat.pow_le_pow_right (by omega) (by omega))
      have hz : u r / 2 ^ P74 = 0 := Nat.div_eq_of_lt hlt
      have hnz : u r ≠ 0 := u_pos r (by omega)
      rw [hz]
      constructor
      · intro h; omega
      · intro h
        exact whole_out hE hF (by omega) (by left; omega)
    · by_cases c2 : e ≤ 1075
      · have hsp : (2 : Nat) ^ P74 = 2 ^ (e - 1) * 2 ^ (1075 - e) := by rw [← Nat.pow_add]; congr 1; omega
        have hdiv : u r / 2 ^ P74 = (B + f) / 2 ^ (1075 - e) := by
          rw [hub, hsp, ← Nat.div_div_eq_div_mul, Nat.mul_div_cancel _ (Nat.two_pow_pos _)]
        have hiff : u r = u r / 2 ^ P74 * 2 ^ P74 ↔ (B + f) % 2 ^ (1075 - e) = 0 := by
          rw [hdiv, hub, hsp]
          have hp := Nat.two_pow_pos (e - 1)
          generalize (2 : Nat) ^ (e - 1) = p at hp ⊢
          generalize hk : (2 : Nat) ^ (1075 - e) = k
          have hm := Nat.div_add_mod (B + f) k
          have e3 : (B + f) / k * (p * k) = (k * ((B + f) / k)) * p := by rw [Nat.mul_comm p k, ← Nat.mul_assoc, Nat.mul_comm ((B + f) / k) k]
          rw [e3]
          constructor
          · intro h
            have := Nat.eq_of_mul_eq_mul_right hp h
            omega
          · intro h
            have e5 : B + f = k * ((B + f) / k) := by omega
            rw [← e5]
        have hk : (1075 - (e : Int)).toNat = 1075 - e := by omega
        have hcast : ((4503599627370496 + (f : Int)) % 2 ^ (1075 - e) = 0) ↔ (B + f) % 2 ^ (1075 - e) = 0 := by
          have : (4503599627370496 + (f : Int)) % 2 ^ (1075 - e) = (((B + f) % 2 ^ (1075 - e) : Nat) : Int) := by rw [hB]; simp
          rw [this]; omega
        have hcd : (4503599627370496 + (f : Int)) / 2 ^ (1075 - e) = (((B + f) / 2 ^ (1075 - e) : Nat) : Int) := by rw [hB]; simp
        constructor
        · intro h
          have hw : wl (1075 - (e : Int)).toNat (4503599627370496 + (f : Int)) = some (((B + f) / 2 ^ (1075 - e) : Nat) : Int) := by
            rw [wl_is, hk, if_pos (hcast.2 (hiff.1 h)), hcd]
          have := whole_some hE hF (by omega) (by omega) hw
          refine ⟨this.1, ?_⟩
          rw [this.2, hdiv]
          have hs := wd_sign s r hr'
          cases s with
          | true => rw [if_pos (hs.2 rfl), if_pos rfl]
          | false => rw [if_neg (fun h => by simpa using hs.1 h), if_neg (by simp)]
        · intro h
          have hw : wl (1075 - (e : Int)).toNat (4503599627370496 + (f : Int)) = none := by
            rw [wl_is, hk, if_neg (fun h2 => h (hiff.2 (hcast.1 h2)))]
          exact whole_none hE hF (by omega) (by omega) hw
      · have e4 : e = 1076 := by omega
        have f4 : f = 0 := by rw [e4] at hre; omega
        subst f4 e4
        have hr1 : r = 1076 * B := by omega
        have hdiv : u r / 2 ^ P74 = 9007199254740992 := by rw [hr1, u_top, Nat.mul_div_cancel _ (Nat.two_pow_pos _)]
        rw [hdiv]
        constructor
        · intro h
          have := whole_top hE hF (by simp) (by simp)
          refine ⟨this.1, ?_⟩
          rw [this.2]
          have hs := wd_sign s r hr'
          cases s with
          | true => rw [if_pos (hs.2 rfl), if_pos rfl]; rfl
          | false => rw [if_neg (fun h => by simpa using hs.1 h), if_neg (by simp)]; rfl
        · intro h
          exact absurd (by rw [hr1, u_top]) h
/-- Beyond 2^53, and what is no number. -/
theorem whole_far (s : Bool) (r : Nat) (hr : 1076 * B < r) (h2 : r < 9223372036854775808) : whole ((wd s r : Nat) : Int) = false ∧ wh ((wd s r : Nat) : Int) = 0 := by
  have hB : B = 4503599627370496 := rfl
  obtain ⟨b, hb⟩ : ∃ b : Int, ((wd s r : Nat) : Int) = b := ⟨_, rfl⟩
  have hb2 : b % 9223372036854775808 = (r : Int) := by
    rw [← hb]; unfold wd; cases s <;> simp <;> omega
  rw [hb]
  by_cases c : b / 4503599627370496 % 2048 = 1076
  · exact whole_over (E := b / 4503599627370496 % 2048) (F := b % 4503599627370496) rfl rfl c (by omega)
  · exact whole_out (E := b / 4503599627370496 % 2048) (F := b % 4503599627370496) rfl rfl (by omega) (by right; omega)
theorem is_gt (s t : Bool) (r q : Nat) (hr : r ≤ 2047 * B) (hq : q ≤ 2047 * B) : (FloatKind.f64.format.order (wd s r) (wd t q) == some Ordering.gt) = decide (sr t q < sr s r) := by
  show (double.order (wd s r) (wd t q) == some Ordering.gt) = _
  rw [order_all s t r q hr hq]
  rcases Int.lt_trichotomy (sr s r) (sr t q) with h | h | h
  · rw [cmp_lt h]; simp; omega
  · rw [h, cmp_eq]; simp
  · rw [cmp_gt h]; simp [h]
end Go.Proofs.Ythaeipephelmcaa.D

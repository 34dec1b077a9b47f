/- Plain facts on float64s: sums, halves, doubles, and whole numbers, where they are exact; nothing of the program. -/
import Derived.Test.YthaeipephelmcaaD2
import Derived.Laws.FloatArith
namespace Go.Proofs.Ythaeipephelmcaa.D
set_option linter.unusedVariables false
open Ieee

theorem Val.shift {m : Nat} {p : Int} {n : Nat} (h : Val m p n) (k : Nat) : Val (m * 2 ^ k) (p - (k : Int)) n := by
  rcases h with ⟨h1, h2⟩ | ⟨h1, h2⟩
  · rcases Int.lt_or_le (p - (k : Int)) (-1074) with hp | hp
    · refine .inr ⟨hp, ?_⟩
      rw [← h2, Nat.mul_assoc, ← Nat.pow_add]; congr 2; omega
    · refine .inl ⟨hp, ?_⟩
      rw [← h2, Nat.mul_assoc, ← Nat.pow_add]; congr 2; omega
  · refine .inr ⟨by omega, ?_⟩
    rw [h2, Nat.mul_assoc, ← Nat.pow_add]; congr 2; omega
theorem Val.scale {m : Nat} {p : Int} {n : Nat} (h : Val m p n) (c : Nat) : Val (m * c) p (n * c) := by
  rcases h with ⟨h1, h2⟩ | ⟨h1, h2⟩
  · exact .inl ⟨h1, by rw [← h2, Nat.mul_right_comm]⟩
  · exact .inr ⟨h1, by rw [h2, Nat.mul_right_comm]⟩

/-- A number of at most 53 digits has a rung. -/
theorem rung_of (k e : Nat) (hk : k < 2 * B) (he : e ≤ 2045) : ∃ r, r < 2047 * B ∧ u r = k * 2 ^ e := by
  by_cases h0 : k = 0
  · subst h0; exact ⟨0, by unfold B; omega, by rw [u_zero]; simp⟩
  · have hl1 := Nat.log2_self_le h0
    have hl2 : k < 2 ^ (k.log2 + 1) := Nat.lt_log2_self
    have hl : k.log2 ≤ 52 := by
      have h53 : (2 : Nat) ^ 53 = 2 * B := by decide
      have : k.log2 < 53 := (Nat.log2_lt h0).2 (by rw [h53]; exact hk)
      omega
    by_cases het : e < 52 - k.log2
    · have hlt : k * 2 ^ e < B := by
        have h1 : k * 2 ^ e < 2 ^ (k.log2 + 1) * 2 ^ e := Nat.mul_lt_mul_of_pos_right hl2 (Nat.two_pow_pos _)
        rw [← Nat.pow_add] at h1
        have h2 : (2 : Nat) ^ (k.log2 + 1 + e) ≤ 2 ^ 52 := Nat.pow_le_pow_right (by omega) (by omega)
        rw [B_pow]; omega
      exact ⟨k * 2 ^ e, by unfold B at *; omega, u_small _ hlt⟩
    · obtain ⟨t, ht⟩ : ∃ t, 52 - k.log2 = t := ⟨_, rfl⟩
      rw [ht] at het
      have hb1 : B ≤ k * 2 ^ t := by
        have := Nat.mul_le_mul_right (2 ^ t) hl1
        rw [← Nat.pow_add, show k.log2 + t = 52 by omega] at this
        rw [B_pow]; exact this
      have hb2 : k * 2 ^ t < 2 * B := by
        have := Nat.mul_lt_mul_of_pos_right hl2 (Nat.two_pow_pos t)
        rw [← Nat.pow_add, show k.log2 + 1 + t = 53 by omega] at this
        have h53 : (2 : Nat) ^ 53 = 2 * B := by decide
        omega
      have hB0 : 0 < B := by unfold B; omega
      refine ⟨(e - t + 1) * B + (k * 2 ^ t - B), ?_, ?_⟩
      · have h1 : (e - t + 1) * B ≤ 2046 * B := Nat.mul_le_mul_right _ (by omega)
        omega
      · have hd : ((e - t + 1) * B + (k * 2 ^ t - B)) / B = e - t + 1 := by
          rw [Nat.add_comm, Nat.add_mul_div_right _ _ hB0, Nat.div_eq_of_lt (by omega)]; omega
        have hm : ((e - t + 1) * B + (k * 2 ^ t - B)) % B = k * 2 ^ t - B := by
          rw [Nat.add_comm, Nat.add_mul_mod_self_right, Nat.mod_eq_of_lt (by omega)]
        have hge : B ≤ (e - t + 1) * B + (k * 2 ^ t - B) := by
          have : 1 * B ≤ (e - t + 1) * B := Nat.mul_le_mul_right _ (by omega)
          omega
        rw [u_big _ hge, hd, hm, show B + (k * 2 ^ t - B) = k * 2 ^ t by omega, Nat.mul_assoc, ← Nat.pow_add, show t + (e - t + 1 - 1) = e by omega]

theorem M_big (r : Nat) (h : B ≤ r) : M r = B + r % B := by unfold M; rw [if_neg (by omega)]
theorem E_big (r : Nat) (h : B ≤ r) : E r = -1074 + ((r / B - 1 : Nat) : Int) := by unfold E; rw [if_neg (by omega)]
theorem B_pos : 0 < B := by unfold B; omega
theorem M_next (r : Nat) (h : B ≤ r) : M (r + B) = M r ∧ E (r + B) = E r + 1 := by
  have hd : (r + B) / B = r / B + 1 := Nat.add_div_right r B_pos
  have hm : (r + B) % B = r % B := Nat.add_mod_right r B
  have he : 1 ≤ r / B := Nat.div_pos h B_pos
  rw [M_big r h, M_big (r + B) (by omega), E_big r h, E_big (r + B) (by omega), hd, hm]
  exact ⟨rfl, by omega⟩
theorem u_next (r : Nat) (h : B ≤ r) : u (r + B) = 2 * u r := by
  have hd : (r + B) / B = r / B + 1 := Nat.add_div_right r B_pos
  have hm : (r + B) % B = r % B := Nat.add_mod_right r B
  have he : 1 ≤ r / B := Nat.div_pos h B_pos
  rw [u_big r h, u_big (r + B) (by omega), hd, hm, show r / B + 1 - 1 = (r / B - 1) + 1 by omega, Nat.pow_succ, ← Nat.mul_assoc, Nat.mul_comm _ 2]
theorem u_low (r : Nat) (h : r < 2 * B) : u r = r := by
  by_cases hr : r < B
  · exact u_small r hr
  · rw [u_big r (by omega), Nat.div_eq_of_lt_le (k := 1) (by omega) (by omega), Nat.mod_eq_sub_mod (by omega), Nat.mod_eq_of_lt (by omega)]
    simp; omega
/-- A power of two as a factor. -/
theorem pow_rung (j : Nat) (hj : 1 ≤ j) (h : j < 2047) : M (j * B) = B ∧ E (j * B) = -1074 + ((j - 1 : Nat) : Int) := by
  have hB : B ≤ j * B := by have := Nat.mul_le_mul_right B hj; omega
  rw [M_big _ hB, E_big _ hB, Nat.mul_mod_left, Nat.mul_div_cancel _ B_pos]
  exact ⟨rfl, rfl⟩
theorem mul_pow (s : Bool) (r j q : Nat) (hr : r < 2047 * B) (hj : 1 ≤ j) (hj2 : j < 2047) (hq : q < 2047 * B) (hv : Val (M r * 2 ^ 52) (E r + (-1074 + ((j - 1 : Nat) : Int))) (u q)) : double.mul (wd s r) (j * B) = some (wd s q) := by
  have hjB : j * B < 2047 * B := Nat.mul_lt_mul_of_pos_right hj2 B_pos
  unfold Format.mul
  rw [read_wd s r hr, read_pos _ hjB, (pow_rung j hj hj2).1, (pow_rung j hj hj2).2]
  simp only [Datum.product, Option.map_some, Format.write]
  rw [B_pow, nearest_exact _ _ _ q hq hv, wd_word]
  simp
/-- Twice a number. -/
theorem mul_two (s : Bool) (r : Nat) (h : B ≤ r) (hr : r + B < 2047 * B) : double.mul (wd s r) (1024 * B) = some (wd s (r + B)) := by
  refine mul_pow s r 1024 (r + B) (by omega) (by omega) (by omega) hr ?_
  have h1 := val_rung (r + B)
  rw [(M_next r h).1, (M_next r h).2] at h1
  have h2 := h1.shift 52
  rw [show E r + 1 - ((52 : Nat) : Int) = E r + (-1074 + ((1024 - 1 : Nat) : Int)) by omega] at h2
  exact h2
theorem mul_two_low (s : Bool) (r : Nat) (h : r < B) : double.mul (wd s r) (1024 * B) = some (wd s (2 * r)) := by
  refine mul_pow s r 1024 (2 * r) (by unfold B at *; omega) (by omega) (by omega) (by unfold B at *; omega) ?_
  rw [u_low (2 * r) (by omega)]
  have h1 : Val r (-1073) (2 * r) := .inl ⟨by omega, by simp; omega⟩
  have h2 := h1.shift 52
  have hM : M r = r := by unfold M; rw [if_pos h]
  have hE : E r = -1074 := by unfold E; rw [if_pos h]
  rw [hM, hE, show (-1074 : Int) + (-1074 + ((1024 - 1 : Nat) : Int)) = -1073 - ((52 : Nat) : Int) by omega]
  exact h2
/-- A number 2^52 times. -/
theorem mul_52 (s : Bool) (r q : Nat) (hr : r < 2047 * B) (hq : q < 2047 * B) (hu : u q = u r * 2 ^ 52) : double.mul (wd s r) (1075 * B) = some (wd s q) := by
  refine mul_pow s r 1075 q hr (by omega) (by omega) hq ?_
  rw [hu, show E r + (-1074 + ((1075 - 1 : Nat) : Int)) = E r by omega]
  exact (val_rung r).scale _
/-- Half a number. -/
theorem div_two (s : Bool) (r : Nat) (h : 2 * B ≤ r) (hr : r < 2047 * B) : double.div (wd s r) (1024 * B) = some (wd s (r - B)) := by
  obtain ⟨q, rfl⟩ : ∃ q, r = q + B := ⟨r - B, by omega⟩
  have hq : B ≤ q := by omega
  have hf : q % B < B := Nat.mod_lt _ B_pos
  have hM : M (q + B) = M q := (M_next q hq).1
  have hE : E (q + B) = E q + 1 := (M_next q hq).2
  unfold Format.div
  rw [read_wd s _ hr, read_pos (1024 * B) (by unfold B; omega), (pow_rung 1024 (by omega) (by omega)).1, (pow_rung 1024 (by omega) (by omega)).2, hM, hE]
  have hlM : (M q).log2 = 52 := by rw [M_big q hq]; exact log2_B _ hf
  have hlB : B.log2 = 52 := by have := log2_B 0 B_pos; simpa using this
  have hB0 : B ≠ 0 := by unfold B; omega
  simp only [Datum.quotient, hB0, if_false, hlM, hlB, show double.fractionBits = 52 from rfl, Option.map_some, Format.write]
  have hdv : M q <<< (52 + 2 + 52 - 52) = M q * 4 * B := by
    rw [Nat.shiftLeft_eq, Nat.mul_assoc]; congr 1
  rw [hdv, Nat.mul_div_cancel _ B_pos, Nat.mul_mod_left]
  have hv := (val_rung q).shift 3
  rw [Nat.add_sub_cancel]
  have e1 : 2 * (M q * 4) + ((0 : Nat) != 0).toNat = M q * 2 ^ 3 := by simp; omega
  rw [e1, show E q + 1 - (-1074 + ((1024 - 1 : Nat) : Int)) - ((52 + 2 + 52 - 52 : Nat) : Int) - 1 = E q - ((3 : Nat) : Int) by omega, nearest_exact _ _ _ q (by omega) hv, wd_word]
  simp
/-- A sum that a rung is. -/
theorem add_exact (s t : Bool) (r q z : Nat) (hr : r < 2047 * B) (hq : q < 2047 * B) (hz : z < 2047 * B) (h : (su s r + su t q).natAbs = u z) : double.add (wd s r) (wd t q) = some (wd (if su s r + su t q = 0 then s && t else decide (su s r + su t q < 0)) z) := by
  unfold Format.add
  rw [read_wd s r hr, read_wd t q hq]
  simp only [Datum.sum, Option.map_some, Format.write]
  have h1 := E_le r
  have h2 := E_le q
  obtain ⟨base, hbase⟩ : ∃ base, min (E r) (E q) = base := ⟨_, rfl⟩
  rw [hbase]
  have e1 := signed_units s (M r) (E r) base (u r) (by omega) (by omega) (val_rung r)
  have e2 := signed_units t (M q) (E q) base (u q) (by omega) (by omega) (val_rung q)
  obtain ⟨T, hT⟩ : ∃ T, signed s (M r) (E r - base).toNat + signed t (M q) (E q - base).toNat = T := ⟨_, rfl⟩
  rw [hT]
  have hp := Nat.two_pow_pos (base + 1074).toNat
  have eT : T * ((2 ^ (base + 1074).toNat : Nat) : Int) = su s r + su t q := by
    rw [← hT, Int.add_mul, e1, e2]; rfl
  have hpi : (0 : Int) < ((2 ^ (base + 1074).toNat : Nat) : Int) := by exact Int.ofNat_lt.2 hp
  have hz0 : (su s r + su t q = 0) ↔ T = 0 := by
    rw [← eT]
    constructor
    · intro h
      rcases Int.mul_eq_zero.1 h with h | h
      · exact h
      · omega
    · rintro rfl; simp
  have hlt : (su s r + su t q < 0) ↔ T < 0 := by
    rw [← eT]
    constructor
    · intro h
      rcases Int.lt_or_le T 0 with h1 | h1
      · exact h1
      · have := Int.mul_nonneg h1 (Int.le_of_lt hpi); omega
    · intro h; exact Int.mul_neg_of_neg_of_pos h hpi
  have hv : Val T.natAbs base (u z) := by
    refine .inl ⟨by omega, ?_⟩
    rw [← h, ← eT, Int.natAbs_mul, Int.natAbs_natCast]
  rw [nearest_exact _ _ _ z hz hv, wd_word]
  congr 2
  by_cases hTz : T = 0
  · rw [if_pos hTz, if_pos (hz0.2 hTz)]
  · rw [if_neg hTz, if_neg (fun h => hTz (hz0.1 h))]
    rw [decide_eq_decide]; exact hlt.symm
end Go.Proofs.Ythaeipephelmcaa.D

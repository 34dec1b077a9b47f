/- Whether a number is in words of bits, and how many are below it where all are. -/
import Derived.Test.YtlbchdlokimpfaaBF
namespace Go.Proofs.Ytlbchdlokimpfaa
set_option linter.unusedVariables false
set_option maxRecDepth 10000
open Go.RowKit

theorem bw_get {w : World} {ao : Option Addr} {len cap : Nat} {bs : List Bool} (h : Sl w .u64 ao len cap (Z.is (Z.bw bs))) {q : Nat} (hq : q < len) : ∃ b off, ao = some ⟨b, off, none⟩ ∧ w.cell? ⟨b, off + q, none⟩ = some (.int .u64 ((Z.wk bs q 64 : Nat) : Int)) := by
  have hl : (Z.bw bs).length = len := by have := h.1; simpa [Z.is] using this
  rcases h.2.2.2.2 with h5 | ⟨b, off, h1, h2, h3⟩
  · omega
  · refine ⟨b, off, h1, ?_⟩
    rw [h3 q hq, is_at _ q (by omega), bw_at bs (by rw [bw_length] at hl; omega)]
theorem bihas_any (ao : Option Addr) (len cap : Nat) (bs : List Bool) (at' : Nat) (w : World) (h : Sl w .u64 ao len cap (Z.is (Z.bw bs))) (hn : bs.length ≤ 4096) (ha : at' < bs.length) :
    Calls Try.prog 77 #[.slice ao len cap, .int .i64 (at' : Int)] w fun e w' => e = .returned (.bool (bs.getD at' false)) ∧ w' = w := by
  have hl : (bs.length + 63) / 64 = len := by have := h.1; simpa [Z.is, bw_length] using this
  obtain ⟨q, hq⟩ : ∃ q, at' / 64 = q := ⟨_, rfl⟩
  obtain ⟨t, ht⟩ : ∃ t, at' % 64 = t := ⟨_, rfl⟩
  have hqi : (at' : Int) / 64 = (q : Int) := by omega
  have hti : (at' : Int) % 64 = (t : Int) := by omega
  have hql : (q : Int) < (len : Int) := by omega
  have ht6 : (t : Int) < 64 := by omega
  have ha2 : (at' : Int) < 4096 := by omega
  obtain ⟨b, off, rfl, hc⟩ := bw_get h (q := q) (by omega)
  have hbit := wk_bit bs q 64 t
  rw [show 64 * q + t = at' by omega, decide_eq_true (by omega : t < 64), Bool.true_and] at hbit
  have hwl := wk_lt bs q 64
  obtain ⟨x, hx⟩ : ∃ x, Z.wk bs q 64 = x := ⟨_, rfl⟩
  rw [hx] at hc hbit hwl
  have HBIT := hide hbit
  have HW := hide hwl
  clear h hl hq ht hn ha hx hbit hwl
  go_enter Try.func77, Try.ntmps77
  go_wp2_with fail
  go_ret
  refine ⟨?_, rfl⟩
  have h1 : (x : Int) / 2 ^ t = ((x / 2 ^ t : Nat) : Int) := by simp
  have h2 : x / 2 ^ t < 18446744073709551616 := Nat.lt_of_le_of_lt (Nat.div_le_self _ _) HW.out
  have h3 := bits_and_u64_nat (x / 2 ^ t) 1 h2 (by decide)
  have h4 : (bits BinOp.and IntKind.u64 ((x : Int) / 2 ^ t) 1 == 1) = bs.getD at' false := by
    rw [h1, show (1 : Int) = ((1 : Nat) : Int) from rfl, h3, Nat.and_one_is_mod, ← HBIT.out, Nat.testBit_eq_decide_div_mod_eq]
    rw [Bool.eq_iff_iff]
    simp
    omega
  rw [← h4]
  rfl

theorem wk_ones {n q r : Nat} (h : 64 * q + r ≤ n) (hr : r ≤ 64) : Z.wk (List.replicate n true) q 64 % 2 ^ r = 2 ^ r - 1 := by
  apply Nat.eq_of_testBit_eq
  intro i
  rw [Nat.testBit_mod_two_pow, wk_bit, Nat.testBit_two_pow_sub_one]
  by_cases hi : i < r
  · have e : (List.replicate n true).getD (64 * q + i) false = true := rep_at (by omega)
    simp only [hi, show i < 64 by omega, decide_true, Bool.true_and, e]
  · simp [hi]
theorem wk_full {n q : Nat} (h : 64 * q + 64 ≤ n) : Z.wk (List.replicate n true) q 64 = 18446744073709551615 := by
  have := wk_ones (r := 64) h (Nat.le_refl _)
  rwa [Nat.mod_eq_of_lt (wk_lt _ q 64)] at this
theorem shl_ones {x r : Nat} (h : x % 2 ^ r = 2 ^ r - 1) (hr : r ≤ 64) : (x * 2 ^ (64 - r)) % 18446744073709551616 = 18446744073709551616 - 2 ^ (64 - r) := by
  have e : (18446744073709551616 : Nat) = 2 ^ r * 2 ^ (64 - r) := by rw [← Nat.pow_add, show r + (64 - r) = 64 by omega]
  rw [e, Nat.mul_mod_mul_right, h, Nat.sub_mul, Nat.one_mul]
theorem oc_of {r : Nat} (hr : r ≤ 64) : Z.oc ((18446744073709551616 - 2 ^ (64 - r) : Nat) : Int) = (r : Int) := by
  have h1 := oc_top ⟨r, by omega⟩
  have h2 : 2 ^ (64 - r) ≤ 18446744073709551616 := Nat.pow_le_pow_right (n := 2) (by decide) (by omega : 64 - r ≤ 64)
  rw [Int.ofNat_sub h2]
  exact h1
set_option maxHeartbeats 1000000 in
theorem bibelow_any (ao : Option Addr) (len cap n at' : Nat) (w : World) (h : Sl w .u64 ao len cap (Z.is (Z.bw (List.replicate n true)))) (hn : n ≤ 4096) (ha : at' ≤ n) :
    Calls Try.prog 76 #[.slice ao len cap, .int .i64 (at' : Int)] w fun e w' => e = .returned (.int .i64 (at' : Int)) ∧ w' = w := by
  have hl : (n + 63) / 64 = len := by have := h.1; simpa [Z.is, bw_length] using this
  have hcap := h.2.1
  obtain ⟨q, hq⟩ : ∃ q, at' / 64 = q := ⟨_, rfl⟩
  obtain ⟨t, ht⟩ : ∃ t, at' % 64 = t := ⟨_, rfl⟩
  have hqi : (at' : Int) / 64 = (q : Int) := by omega
  have hti : (at' : Int) % 64 = (t : Int) := by omega
  have hql : q ≤ len := by omega
  have hqc : (q : Int) ≤ (cap : Int) := by omega
  have ht6 : (t : Int) < 64 := by omega
  have ha2 : (at' : Int) < 4097 := by omega
  have hq64 : q ≤ 64 := by omega
  have GET : Hid (∀ k, k < q → ∃ b off, ao = some ⟨b, off, none⟩ ∧ w.cell? ⟨b, off + k, none⟩ = some (.int .u64 18446744073709551615)) := fun k hk => by
    obtain ⟨b, off, h1, h2⟩ := bw_get h (q := k) (by omega)
    rw [wk_full (by omega)] at h2
    exact ⟨b, off, h1, h2⟩
  have LAST : Hid (0 < t → q < len ∧ ∃ b off x, ao = some ⟨b, off, none⟩ ∧ w.cell? ⟨b, off + q, none⟩ = some (.int .u64 ((x : Nat) : Int)) ∧ x % 2 ^ t = 2 ^ t - 1 ∧ x < 18446744073709551616) := fun h0 => by
    obtain ⟨b, off, h1, h2⟩ := bw_get h (q := q) (by omega)
    exact ⟨by omega, b, off, _, h1, h2, wk_ones (by omega) (by omega), wk_lt _ _ _⟩
  have HQT : Hid (at' = 64 * q + t) := by show at' = _; omega
  have hoc : Hid (Z.oc 18446744073709551615 = 64) := oc_of (r := 64) (Nat.le_refl _)
  clear h hl hq ht hn ha
  go_enter Try.func76, Try.ntmps76
  go_wp2_with fail
  go_loopw [5, 14] (fun n i wr => ∃ k : Nat, k ≤ q ∧ i = .int .i64 k ∧ n = .int .i64 ((64 * k : Nat) : Int) ∧ wr = w) (fun n i _ => q - (intOf i).toNat)
  case atStart => exact ⟨0, Nat.zero_le _, rfl, rfl, rfl⟩
  case round =>
    obtain ⟨k, hk, rfl, rfl, rfl⟩ := hrel
    by_cases hlt : k < q
    · obtain ⟨b, off, rfl, hc1⟩ := GET.out k hlt
      have hkq : (k : Int) < (q : Int) := by omega
      have hk6 : (k : Int) < 64 := by omega
      go_wp2_with fail
      refine (ones_any _ (by decide) (by decide) _).mono ?_
      rintro e w1 ⟨rfl, rfl⟩
      rw [hoc.out]
      go_wp2
      exact ⟨⟨k + 1, by omega, by simp, by congr 1, trivial⟩, by simp [intOf]; omega⟩
    · obtain rfl : k = q := by omega
      by_cases h0 : 0 < t
      · obtain ⟨hkl, b, off, x, rfl, hc, hx, hxl⟩ := LAST.out h0
        have h0i : (0 : Int) < (t : Int) := by omega
        have hkli : (k : Int) < (len : Int) := by omega
        have hy : IntKind.u64.wrap ((x : Int) * 2 ^ (64 - t)) = ((18446744073709551616 - 2 ^ (64 - t) : Nat) : Int) := by
          rw [IntKind.wrap_u64, ← shl_ones hx (by omega)]
          simp
        have hlo : ((18446744073709551616 - 2 ^ (64 - t) : Nat) : Int) < 18446744073709551616 := by
          have : 0 < 2 ^ (64 - t) := Nat.pow_pos (by decide)
          omega
        have hot : Hid (Z.oc ((18446744073709551616 - 2 ^ (64 - t) : Nat) : Int) = (t : Int)) := oc_of (by omega)
        obtain ⟨y, hyy⟩ : ∃ y, 18446744073709551616 - 2 ^ (64 - t) = y := ⟨_, rfl⟩
        rw [hyy] at hy hlo hot
        have HY := hide hy
        clear hx hyy hy
        go_wp2_with fail
        rw [HY.out]
        refine (ones_any _ (by omega) hlo _).mono ?_
        rintro e w1 ⟨rfl, rfl⟩
        rw [hot.out]
        have hfin : ((64 * k : Nat) : Int) + (t : Int) = (at' : Int) := by have := HQT.out; omega
        have HFIN := hide hfin
        clear hfin HY hlo hot
        go_wp2_with fail
        go_ret
        refine ⟨?_, rfl⟩
        rw [← HFIN.out]
        rfl
      · obtain rfl : t = 0 := by omega
        have hfin : ((64 * k : Nat) : Int) = (at' : Int) := by have := HQT.out; omega
        have HFIN := hide hfin
        clear hfin
        go_wp2
        go_ret
        exact ⟨by rw [← HFIN.out]; rfl, rfl⟩
end Go.Proofs.Ytlbchdlokimpfaa

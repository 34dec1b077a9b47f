/- The contracts of leb's put, Put, Zig, Zag. -/
import Derived.Test.YthcnfbjljkighaaBdA
import Derived.Test.YthcnfbjljkighaaBdG
import Derived.WalkKit
import Derived.Laws.BitsAllLaws
import Derived.Test.YthcnfbjljkighaaBdE
import Derived.Test.YthcnfbjljkighaaBdF
import Derived.Deep.RegionWith
namespace Go.Proofs.Ythcnfbjljkighaa
set_option linter.unusedVariables false
open Go.RowKit

theorem ret_int {k : IntKind} {a b : Int} (h : a = b) : Ending.returned (.int k a) = .returned (.int k b) := by rw [h]
theorem u64_wrap (n : Int) : IntKind.u64.wrap n = n % 18446744073709551616 := by simp [IntKind.wrap, IntKind.bits, IntKind.signed]
theorem zig_neg (n : Int) (h0 : -9223372036854775808 ≤ n) (h : n < 0) : IntKind.u64.wrap (IntKind.u64.wrap (-IntKind.u64.wrap (IntKind.u64.wrap n * 2)) - 1) = ((E.zig n : Nat) : Int) := by
  simp only [u64_wrap, E.zig, if_pos h]; omega
theorem zig_pos (n : Int) (h : 0 ≤ n) : n * 2 = ((E.zig n : Nat) : Int) := by
  unfold E.zig; rw [if_neg (by omega)]; omega
theorem zag_odd (n : Int) (h0 : 0 ≤ n) (h : n % 2 = 1) : -(n / 2) - 1 = E.zag n.toNat := by
  unfold E.zag; rw [if_pos (by omega)]; omega
theorem zag_even (n : Int) (h0 : 0 ≤ n) (h : n % 2 ≠ 1) : n / 2 = E.zag n.toNat := by
  unfold E.zag; rw [if_neg (by omega)]; omega
set_option maxRecDepth 100000 in
theorem or_128 : ∀ x < 256, x ||| 128 = x % 128 + 128 := by decide
theorem or128 (m : Int) (h0 : 0 ≤ m) : bits .or .u8 (m % 256) 128 = (((m.toNat % 128 + 128 : Nat)) : Int) := by
  obtain ⟨n, rfl⟩ := Int.eq_ofNat_of_zero_le h0
  have hj := u8_or_nat (n % 256) 128 (by omega) (by omega)
  have h1 : n % 256 < 256 := by omega
  rw [or_128 _ h1] at hj
  rw [Int.toNat_natCast, show n % 128 + 128 = n % 256 % 128 + 128 by omega, ← hj]
  rfl

set_option maxHeartbeats 400000 in
theorem put_in (base : Nat) (v : Value) (l : List Nat) (n : Int) (w : World) (ho : w.ownsRow base 5 1 v l.length (B8 l)) (hl : l.length + 10 ≤ 140737488355328) (hb : base ≤ w.heap.size) (hn0 : 0 ≤ n) (hn1 : n < 18446744073709551616) :
    Calls Try.prog 47 #[v, .int .u64 n] w fun e w' => ∃ v', e = .returned v' ∧ w'.ownsRow base 5 1 v' (l ++ E.leb n.toNat).length (B8 (l ++ E.leb n.toNat)) ∧ AS w v w' v' := by
  obtain ⟨i0, hi, hz0, hz1, hz2⟩ := info_parts Try.infoU8
  have h10 := E.leb_ten n.toNat (by omega)
  go_enter Try.func47, Try.ntmps47
  go_wp2_with fail
  go_loopw [0, 1] (fun b m wr => ∃ (pre : List Nat) (k : Int), m = .int .u64 k ∧ 0 ≤ k ∧ k < 18446744073709551616 ∧ pre ++ E.leb k.toNat = l ++ E.leb n.toNat ∧ wr.ownsRow base 5 1 b pre.length (B8 pre) ∧ AS w v wr b) (fun _ m _ => (intOf m).toNat)
  case atStart => exact ⟨l, n, rfl, hn0, hn1, rfl, ho, AS.refl _ _⟩
  case round =>
    obtain ⟨pre, k, rfl, hk0, hk1, hpre, hown, has⟩ := hrel
    have hlen : pre.length + (E.leb k.toNat).length = l.length + (E.leb n.toNat).length := by
      have := congrArg List.length hpre
      simpa using this
    have hlp := E.leb_pos k.toNat
    have hsz := has.1.size
    have HP := hide hpre
    have HL := hide hlen
    have hpl : pre.length + 1 ≤ 140737488355328 := by omega
    by_cases hk : 128 ≤ k
    · have HO := hide (or128 k hk0)
      have HB := hide (E.leb_big k.toNat (by omega))
      clear hpre hlen h10 hlp
      go_wp2_with (at_builtin; refine wpList_append_to rfl _ _ 23 rfl base 5 i0 (.int .u8 0) 1 1 Try.underlying23 hi hz0 hz1 hz2 rfl (by decide) _ _ _ rfl (hown.alloc _) (some ⟨wr.heap.size, 0, none⟩) 1 1 [.int .u8 (bits .or .u8 (k % 256) 128)] rfl (by simp) rfl (Sl.news1 _ _) (one_oneCell _ _) (by unfold maxLen; omega) (by omega) (by simp; omega) ?_)
      intro v' w1 ho1 has1
      go_wp2
      go_roundw
      case rel =>
        refine ⟨pre ++ [k.toNat % 128 + 128], k / 128, rfl, by omega, by omega, ?_, ?_, has.trans (AS.pre ((Kept.refl _ wr).alloc _) has1)⟩
        · rw [← HP.out, HB.out, List.append_assoc, show (k / 128).toNat = k.toNat / 128 by omega]; rfl
        · rw [HO.out] at ho1
          rw [B8_append, List.length_append]; exact ho1
      case measure => simp [intOf]; omega
    · have HB := hide (E.leb_small k.toNat (by omega))
      clear hpre hlen h10 hlp
      go_wp2_with (at_builtin; refine wpList_append_to rfl _ _ 23 rfl base 5 i0 (.int .u8 0) 1 1 Try.underlying23 hi hz0 hz1 hz2 rfl (by decide) _ _ _ rfl (hown.alloc _) (some ⟨wr.heap.size, 0, none⟩) 1 1 [.int .u8 k] rfl (by simp) rfl (Sl.news1 _ _) (one_oneCell _ _) (by unfold maxLen; omega) (by omega) (by simp; omega) ?_)
      intro v' w1 ho1 has1
      go_wp2
      go_ret
      refine ⟨v', rfl, ?_, has.trans (AS.pre ((Kept.refl _ wr).alloc _) has1)⟩
      rw [← HP.out, HB.out, B8_append, List.length_append, show B8 [k.toNat] = [Value.int .u8 k] by simp [B8]; omega]
      exact ho1

/-- Put. -/
theorem put_any (n : Int) (w : World) (hn0 : 0 ≤ n) (hn1 : n < 18446744073709551616) :
    Calls Try.prog 30 #[.int .u64 n] w fun e w' => ∃ v', e = .returned v' ∧ w'.ownsRow w.heap.size 5 1 v' (E.leb n.toNat).length (B8 (E.leb n.toNat)) ∧ Below w.heap.size w w' := by
  go_enter Try.func30, Try.ntmps30
  go_wp2_with fail
  refine (put_in w.heap.size _ [] n w (World.ownsRow_nil _ _ _ _) (by simp) (Nat.le_refl _) hn0 hn1).mono ?_
  rintro e w' ⟨v', rfl, ho, has⟩
  go_wp2
  go_ret
  exact ⟨v', rfl, by simpa using ho, has.below (Nat.le_refl _) (by simp [Value.ownBlock])⟩

set_option maxHeartbeats 400000 in
theorem zig_any (n : Int) (w : World) (h0 : -9223372036854775808 ≤ n) (h1 : n < 9223372036854775808) :
    Calls Try.prog 31 #[.int .i64 n] w fun e w' => e = .returned (.int .u64 ((E.zig n : Nat) : Int)) ∧ w' = w := by
  by_cases hn : n < 0
  · go_enter Try.func31, Try.ntmps31
    go_wp2
    go_ret
    exact ⟨ret_int (zig_neg n h0 hn), rfl⟩
  · go_enter Try.func31, Try.ntmps31
    go_wp2
    go_ret
    exact ⟨ret_int (zig_pos n (by omega)), rfl⟩

set_option maxHeartbeats 400000 in
theorem zag_any (n : Int) (w : World) (h0 : 0 ≤ n) (h1 : n < 18446744073709551616) :
    Calls Try.prog 66 #[.int .u64 n] w fun e w' => e = .returned (.int .i64 (E.zag n.toNat)) ∧ w' = w := by
  by_cases hn : n % 2 = 1
  · have hb : (n % 2 == 1) = true := by simpa using hn
    clear hn
    go_enter Try.func66, Try.ntmps66
    go_wp2
    go_ret
    exact ⟨ret_int (zag_odd n h0 (by simpa using hb)), rfl⟩
  · have hb : (n % 2 == 1) = false := by simpa using hn
    clear hn
    go_enter Try.func66, Try.ntmps66
    go_wp2
    go_ret
    exact ⟨ret_int (zag_even n h0 (by simpa using hb)), rfl⟩
end Go.Proofs.Ythcnfbjljkighaa
/- Plain: bit work on words of 64 bits in the walk's spelling: the highest bit alone, all others, set, all turned. Nothing of the program. -/
namespace Go.Proofs.Ythcnfbjljkighaa.D
set_option linter.unusedVariables false

theorem and_top {b : Int} (h : In64 b) : bits .and .u64 b 9223372036854775808 = if 9223372036854775808 ≤ b then 9223372036854775808 else 0 := by
  obtain ⟨h0, h1⟩ := h
  rw [u64_and b 9223372036854775808 h0 h1 (by omega) (by omega)]
  obtain ⟨x, rfl⟩ := Int.eq_ofNat_of_zero_le h0
  have e : (x &&& 9223372036854775808 : Nat) = if 9223372036854775808 ≤ x then 9223372036854775808 else 0 := by
    apply Nat.eq_of_testBit_eq
    intro i
    have e63 : (9223372036854775808 : Nat) = 2 ^ 63 := by decide
    rw [Nat.testBit_and]
    by_cases hi : i = 63
    · subst hi
      have ht : x.testBit 63 = decide (9223372036854775808 ≤ x) := by
        rw [Nat.testBit_eq_decide_div_mod_eq]
        congr 1
        rw [show (2 : Nat) ^ 63 = 9223372036854775808 by decide]
        apply propext; omega
      rw [ht]
      by_cases hx : 9223372036854775808 ≤ x
      · rw [if_pos hx]; simp [hx]
      · rw [if_neg hx]; simp [hx]
    · have h63 : ¬ 63 = i := fun h => hi h.symm
      by_cases hx : 9223372036854775808 ≤ x
      · rw [if_pos hx, e63, Nat.testBit_two_pow]; simp [h63]
      · rw [if_neg hx, e63, Nat.testBit_two_pow]; simp [h63]
  show ((x &&& 9223372036854775808 : Nat) : Int) = _
  rw [e]
  split <;> split <;> omega
theorem andNot_top {b : Int} (h : In64 b) : bits .andNot .u64 b 9223372036854775808 = b % 9223372036854775808 := by
  obtain ⟨h0, h1⟩ := h
  rw [u64_andNot b 9223372036854775808 h0 h1 (by omega) (by omega)]
  obtain ⟨x, rfl⟩ := Int.eq_ofNat_of_zero_le h0
  show ((x &&& 9223372036854775807 : Nat) : Int) = _
  have e : x &&& 9223372036854775807 = x % 9223372036854775808 := Nat.and_two_pow_sub_one_eq_mod x 63
  rw [e]; omega
theorem or_top {b : Int} (h0 : 0 ≤ b) (h1 : b < 9223372036854775808) : bits .or .u64 b 9223372036854775808 = b + 9223372036854775808 := by
  rw [u64_or b 9223372036854775808 h0 (by omega) (by omega) (by omega)]
  obtain ⟨x, rfl⟩ := Int.eq_ofNat_of_zero_le h0
  show ((x ||| 9223372036854775808 : Nat) : Int) = _
  have e : 9223372036854775808 + x = 9223372036854775808 ||| x := Nat.two_pow_add_eq_or_of_lt (i := 63) (by omega) 1
  rw [Nat.or_comm, ← e]; omega
theorem turn_all {b : Int} (h : In64 b) : bits .xor .u64 IntKind.u64.max b = 18446744073709551615 - b := by
  obtain ⟨h0, h1⟩ := h
  rw [show IntKind.u64.max = 18446744073709551615 from rfl, u64_xor 18446744073709551615 b (by omega) (by omega) h0 h1]
  obtain ⟨x, rfl⟩ := Int.eq_ofNat_of_zero_le h0
  show ((18446744073709551615 ^^^ x : Nat) : Int) = _
  have e : 18446744073709551615 ^^^ x = 18446744073709551615 - x := by
    apply Nat.eq_of_testBit_eq
    intro i
    have e1 : 18446744073709551615 - x = 2 ^ 64 - (x + 1) := by omega
    have e2 : (18446744073709551615 : Nat) = 2 ^ 64 - 1 := by decide
    rw [e1, Nat.testBit_two_pow_sub_succ (by omega), Nat.testBit_xor, e2, Nat.testBit_two_pow_sub_one]
    by_cases hi : i < 64
    · simp [hi]
    · have hx : x.testBit i = false := Nat.testBit_lt_two_pow (Nat.lt_of_lt_of_le (show x < 2 ^ 64 by omega) (Nat.pow_le_pow_right (by omega) (by omega)))
      simp [hi, hx]
  rw [e]; omega
/-- Beyond infinity, whichever the sign. -/
theorem isN_over {b : Int} (h : In64 b) : decide (9218868437227405312 < b % 9223372036854775808) = isN b := by
  obtain ⟨h0, h1⟩ := h
  have := isN_iff b
  cases hb : isN b with
  | true => rw [hb] at this; have := this.1 rfl; simp; omega
  | false =>
    rw [hb] at this
    have h2 : ¬ (b / 4503599627370496 % 2048 = 2047 ∧ b % 4503599627370496 ≠ 0) := fun h => by simpa using this.2 h
    simp; omega
end Go.Proofs.Ythcnfbjljkighaa.D
/- The contracts of cmp.Compare, strings.Compare at the types that val asks them at; of val's Clean, Compare, May, Add. -/
namespace Go.Proofs.Ythcnfbjljkighaa
set_option linter.unusedVariables false
open Go.RowKit

end Go.Proofs.Ythcnfbjljkighaa
/- The contracts of flt's isNaN, Clean, Key, Bits, Compare. -/
namespace Go.Proofs.Ythcnfbjljkighaa
set_option linter.unusedVariables false
open Go.RowKit

def KeptClean : Prop := ∀ (b : Int) (w : World), 0 ≤ b → b < 18446744073709551616 → Calls Try.prog 48 #[.int .u64 b] w fun e w' => e = .returned (.int .u64 (D.cl b)) ∧ w' = w
def KeptKey : Prop := ∀ (b : Int) (w : World), 0 ≤ b → b < 18446744073709551616 → Calls Try.prog 33 #[.int .u64 b] w fun e w' => e = .returned (.int .u64 (D.ky b)) ∧ w' = w
def KeptBits : Prop := ∀ (b : Int) (w : World), 0 ≤ b → b < 18446744073709551616 → Calls Try.prog 51 #[.int .u64 b] w fun e w' => e = .returned (.int .u64 (D.bt b)) ∧ w' = w
theorem isnan_any (b : Int) (w : World) (h0 : 0 ≤ b) (h1 : b < 18446744073709551616) :
    Calls Try.prog 58 #[.int .u64 b] w fun e w' => e = .returned (.bool (D.isN b)) ∧ w' = w := by
  have ha := D.andNot_top ⟨h0, h1⟩
  have HN : Hid (decide (9218868437227405312 < b % 9223372036854775808) = D.isN b) := D.isN_over ⟨h0, h1⟩
  go_enter Try.func58, Try.ntmps58
  go_wp2
  go_ret
  exact ⟨by rw [← HN.out]; rfl, rfl⟩
theorem clean_any : KeptClean := by
  intro b w h0 h1
  go_enter Try.func48, Try.ntmps48
  go_wp2_with fail
  refine (isnan_any b w h0 h1).mono ?_
  rintro e w1 ⟨rfl, rfl⟩
  cases hb : D.isN b with
  | false =>
    have HC : Hid (D.cl b = b) := D.cl_num hb
    go_wp2
    go_ret
    exact ⟨by rw [HC.out]; rfl, rfl⟩
  | true =>
    have HC : Hid (D.cl b = 9221120237041090560) := D.cl_nan hb
    go_wp2
    go_ret
    exact ⟨by rw [HC.out]; rfl, rfl⟩
theorem key_any : KeptKey := by
  intro b w h0 h1
  have hc := D.cl_in (b := b) ⟨h0, h1⟩
  go_enter Try.func33, Try.ntmps33
  go_wp2_with fail
  refine (clean_any b w h0 h1).mono ?_
  rintro e w1 ⟨rfl, rfl⟩
  obtain ⟨c, hce⟩ : ∃ c, D.cl b = c := ⟨_, rfl⟩
  rw [hce] at hc ⊢
  have HK : Hid (D.ky b = if 9223372036854775808 ≤ c then 18446744073709551615 - c else c + 9223372036854775808) := by show _ = _; unfold D.ky; rw [hce]
  clear hce
  have ha := D.and_top hc
  have hx := D.turn_all hc
  by_cases hs : 9223372036854775808 ≤ c
  · rw [if_pos hs] at ha
    obtain ⟨hc0, hc1⟩ := hc
    go_wp2
    go_ret
    exact ⟨by rw [HK.out, if_pos hs]; rfl, rfl⟩
  · rw [if_neg hs] at ha
    have ho := D.or_top hc.1 (by omega : c < 9223372036854775808)
    obtain ⟨hc0, hc1⟩ := hc
    go_wp2
    go_ret
    exact ⟨by rw [HK.out, if_neg (by omega)]; rfl, rfl⟩
theorem bits_any : KeptBits := by
  intro k w h0 h1
  have hk : D.In64 k := ⟨h0, h1⟩
  have ha := D.and_top hk
  by_cases hs : 9223372036854775808 ≤ k
  · rw [if_pos hs] at ha
    have hn := D.andNot_top hk
    have HB : Hid (D.bt k = D.cl (k % 9223372036854775808)) := by show _ = _; unfold D.bt; rw [if_pos hs, show k - 9223372036854775808 = k % 9223372036854775808 by omega]
    obtain ⟨r, hr⟩ : ∃ r, k % 9223372036854775808 = r := ⟨_, rfl⟩
    have hr0 : 0 ≤ r := by omega
    have hr1 : r < 18446744073709551616 := by omega
    rw [hr] at hn HB
    clear hr
    go_enter Try.func51, Try.ntmps51
    go_wp2_with fail
    refine (clean_any r w hr0 hr1).mono ?_
    rintro e w1 ⟨rfl, rfl⟩
    go_wp2
    go_ret
    exact ⟨by rw [HB.out]; rfl, rfl⟩
  · rw [if_neg hs] at ha
    have hn := D.turn_all hk
    have HB : Hid (D.bt k = D.cl (18446744073709551615 - k)) := by show _ = _; unfold D.bt; rw [if_neg hs]
    obtain ⟨r, hr⟩ : ∃ r, 18446744073709551615 - k = r := ⟨_, rfl⟩
    have hr0 : 0 ≤ r := by omega
    have hr1 : r < 18446744073709551616 := by omega
    rw [hr] at hn HB
    clear hr
    go_enter Try.func51, Try.ntmps51
    go_wp2_with fail
    refine (clean_any r w hr0 hr1).mono ?_
    rintro e w1 ⟨rfl, rfl⟩
    go_wp2
    go_ret
    exact ⟨by rw [HB.out]; rfl, rfl⟩
end Go.Proofs.Ythcnfbjljkighaa
/- The contracts of strings.Compare, and of val's Clean, Compare. -/
namespace Go.Proofs.Ythcnfbjljkighaa
set_option linter.unusedVariables false
open Go.RowKit

theorem i64_wrap (n : Int) : IntKind.i64.wrap n = if 9223372036854775808 ≤ n % 18446744073709551616 then n % 18446744073709551616 - 18446744073709551616 else n % 18446744073709551616 := by
  simp [IntKind.wrap, IntKind.bits, IntKind.signed]
theorem i64_sg {b : Int} (h : D.In64 b) : IntKind.i64.wrap b = Z.sg b := by
  unfold D.In64 at h; rw [i64_wrap]; unfold Z.sg; split <;> split <;> omega
theorem wrap64_sg {b : Int} (h : D.In64 b) : wrap64 b = Z.sg b := by
  unfold D.In64 at h; unfold wrap64 Z.sg; split <;> omega
theorem vclean_any (k i : Int) (s : ByteArray) (w : World) (hi : Z.I64 i) : Calls Try.prog 44 #[.agg #[.int .i64 k, .int .i64 i, .string s]] w fun e w' => e = .returned (Z.cl ⟨k, i, s⟩).v ∧ Below w.heap.size w w' := by
  by_cases h : k = 2
  · subst h
    have HU : Hid (IntKind.u64.wrap i = Z.u i) := u64_wrap i
    have HI := Z.u_in i
    go_enter Try.func44, Try.ntmps44
    go_wp2_with fail
    rw [HU.out]
    refine (clean_any _ _ HI.1 HI.2).mono ?_
    rintro e w1 ⟨rfl, rfl⟩
    go_wp2
    have HW : Hid (wrap64 (D.cl (Z.u i)) = Z.sg (D.cl (Z.u i))) := wrap64_sg (D.cl_in HI)
    refine bodyPost_ret (v := (Z.cl ⟨2, i, s⟩).v) (by simp [results, Try.results44, go_sem, HW.out, Z.cl, Z.V.v]) rfl ⟨rfl, ?_⟩
    exact ((Below.refl _ _).alloc (Nat.le_refl _) _).alloc (by simp) _
  · go_enter Try.func44, Try.ntmps44
    go_wp2
    refine bodyPost_ret (v := (Z.cl ⟨k, i, s⟩).v) (by simp [results, Try.results44, go_sem, Z.cl, Z.V.v, h]) rfl ⟨rfl, ?_⟩
    exact ((Below.refl _ _).alloc (Nat.le_refl _) _).alloc (by simp) _
theorem cv_kind {ak ai bk bi : Int} {az bz : ByteArray} (h : ak ≠ bk) : Z.cv ⟨ak, ai, az⟩ ⟨bk, bi, bz⟩ = Z.ci ak bk := by unfold Z.cv; rw [if_neg h]
theorem cv_int {ai bi : Int} {az bz : ByteArray} : Z.cv ⟨1, ai, az⟩ ⟨1, bi, bz⟩ = Z.ci ai bi := by unfold Z.cv; rw [if_pos rfl, if_pos rfl]
theorem cv_float {ai bi : Int} {az bz : ByteArray} : Z.cv ⟨2, ai, az⟩ ⟨2, bi, bz⟩ = D.cp (Z.u ai) (Z.u bi) := by unfold Z.cv; rw [if_pos rfl, if_neg (by simp), if_pos rfl]
theorem cv_text {ai bi : Int} {az bz : ByteArray} : Z.cv ⟨3, ai, az⟩ ⟨3, bi, bz⟩ = Z.cs az bz := by unfold Z.cv; rw [if_pos rfl, if_neg (by simp), if_neg (by simp), if_pos rfl]
theorem cv_else {k ai bi : Int} {az bz : ByteArray} (h1 : k ≠ 1) (h2 : k ≠ 2) (h3 : k ≠ 3) : Z.cv ⟨k, ai, az⟩ ⟨k, bi, bz⟩ = 0 := by unfold Z.cv; rw [if_pos rfl, if_neg h1, if_neg h2, if_neg h3]
theorem ci_self (k : Int) : Z.ci k k = 0 := by unfold Z.ci; simp
theorem ci_ne {a b : Int} (h : a ≠ b) : Z.ci a b ≠ 0 := by rcases Z.ci_cases a b with ⟨h1, g1⟩ | ⟨h1, g1⟩ | ⟨h1, g1⟩ <;> omega
/-- Two blocks more. -/
theorem below_two (w : World) (a b : Obj) : Below w.heap.size w ((w.alloc a).alloc b) := ((Below.refl _ _).alloc (Nat.le_refl _) _).alloc (by simp) _
end Go.Proofs.Ythcnfbjljkighaa
/- Two values held against each other; the contracts of val's May, Add. -/
namespace Go.Proofs.Ythcnfbjljkighaa
set_option linter.unusedVariables false
open Go.RowKit

end Go.Proofs.Ythcnfbjljkighaa
/- The contract of val's May; the statements' own head: 'shown'. -/
namespace Go.Proofs.Ythcnfbjljkighaa
set_option linter.unusedVariables false
open Go.RowKit

theorem empty_of (s : ByteArray) : s.toList.isEmpty = decide (s = ⟨#[]⟩) := by
  rw [ByteArray.toList_eq]
  obtain ⟨⟨x⟩⟩ := s
  cases x <;> simp
theorem may_float {i : Int} {s : ByteArray} : Z.may ⟨2, i, s⟩ = (Z.same (Z.cl ⟨2, i, s⟩) ⟨2, i, s⟩ && s.toList.isEmpty) := by
  rw [empty_of]; unfold Z.may Z.cl Z.same; simp; rfl
theorem may_int {i : Int} {s : ByteArray} : Z.may ⟨1, i, s⟩ = s.toList.isEmpty := by
  rw [empty_of]; unfold Z.may; simp
theorem may_text {i : Int} {s : ByteArray} : Z.may ⟨3, i, s⟩ = ((i == 0) && decide ((s.size : Int) ≤ 1024)) := by
  unfold Z.may; simp; cases h : decide (i = 0) <;> simp_all; omega
theorem may_null {i : Int} {s : ByteArray} : Z.may ⟨0, i, s⟩ = Z.same ⟨0, i, s⟩ ⟨0, 0, ⟨#[]⟩⟩ := by
  unfold Z.may Z.same
  rw [← empty_of, ByteArray.toList_eq]
  obtain ⟨⟨x⟩⟩ := s
  cases x <;> simp [ByteArray.toList_eq] <;> rfl
theorem may_else {k i : Int} {s : ByteArray} (h0 : k ≠ 0) (h1 : k ≠ 1) (h2 : k ≠ 2) (h3 : k ≠ 3) : Z.may ⟨k, i, s⟩ = false := by
  unfold Z.may; rw [if_neg h2, if_neg h1, if_neg h3, if_neg h0]
set_option maxHeartbeats 800000 in
theorem may_f (i : Int) (s : ByteArray) (w : World) (hi : Z.I64 i) : Calls Try.prog 27 #[.agg #[.int .i64 2, .int .i64 i, .string s]] w fun e w' => e = .returned (.bool (Z.may ⟨2, i, s⟩)) ∧ Below w.heap.size w w' := by
  have HM : Hid (Z.may ⟨2, i, s⟩ = (Z.same (Z.cl ⟨2, i, s⟩) ⟨2, i, s⟩ && s.toList.isEmpty)) := may_float
  have HC : Hid (∀ w, Calls Try.prog 44 #[.agg #[.int .i64 2, .int .i64 i, .string s]] w fun e w' => e = .returned (Z.cl ⟨2, i, s⟩).v ∧ Below w.heap.size w w') := fun w => vclean_any 2 i s w hi
  obtain ⟨c, hc⟩ : ∃ c, Z.cl ⟨2, i, s⟩ = ⟨2, c, s⟩ := ⟨_, rfl⟩
  rw [hc] at HM HC
  clear hc
  have hq := vne_run 2 c s 2 i s
  obtain ⟨b, hb⟩ : ∃ b, Z.same ⟨2, c, s⟩ ⟨2, i, s⟩ = b := ⟨_, rfl⟩
  rw [hb] at HM
  simp only [hb] at hq
  clear hb
  have hal := heap_alloc_new w (.cells #[.int .i64 2, .int .i64 i, .string s] 41)
  go_enter Try.func27, Try.ntmps27
  go_wp2_with fail
  cases b with
  | true =>
    simp only [Bool.not_true] at hq
    go_region_with (go_at_call 44; refine (HC.out _).mono ?_; rintro e w1 ⟨rfl, hb1⟩; obtain ⟨c0, c1, c2⟩ := val_kept (by exact hal) hb1; replace hb1 := hide hb1; simp only [Z.V.v])
    all_goals go_wp2
    all_goals go_ret
    all_goals exact ⟨by rw [HM.out]; rfl, bthen (below_one w _).drew hb1.out⟩
  | false =>
    simp only [Bool.not_false] at hq
    go_region_with (go_at_call 44; refine (HC.out _).mono ?_; rintro e w1 ⟨rfl, hb1⟩; obtain ⟨c0, c1, c2⟩ := val_kept (by exact hal) hb1; replace hb1 := hide hb1; simp only [Z.V.v])
    all_goals go_wp2
    all_goals go_ret
    all_goals exact ⟨by rw [HM.out]; rfl, bthen (below_one w _).drew hb1.out⟩
theorem may_any (k i : Int) (s : ByteArray) (w : World) (hi : Z.I64 i) : Calls Try.prog 27 #[.agg #[.int .i64 k, .int .i64 i, .string s]] w fun e w' => e = .returned (.bool (Z.may ⟨k, i, s⟩)) ∧ Below w.heap.size w w' := by
  by_cases k2 : k = 2
  · subst k2
    exact may_f i s w hi
  · by_cases k1 : k = 1
    · subst k1
      have HM : Hid (Z.may ⟨1, i, s⟩ = s.toList.isEmpty) := may_int
      go_enter Try.func27, Try.ntmps27
      go_wp2
      go_ret
      exact ⟨by rw [HM.out]; rfl, below_one _ _⟩
    · by_cases k3 : k = 3
      · subst k3
        have HM : Hid (Z.may ⟨3, i, s⟩ = ((i == 0) && decide ((s.size : Int) ≤ 1024))) := may_text
        cases hi0 : (i == 0) with
        | true =>
          rw [hi0] at HM
          go_enter Try.func27, Try.ntmps27
          go_wp2
          go_ret
          exact ⟨by rw [HM.out]; rfl, below_one _ _⟩
        | false =>
          rw [hi0] at HM
          go_enter Try.func27, Try.ntmps27
          go_wp2
          go_ret
          exact ⟨by rw [HM.out]; rfl, below_one _ _⟩
      · by_cases k0 : k = 0
        · subst k0
          have HM : Hid (Z.may ⟨0, i, s⟩ = Z.same ⟨0, i, s⟩ ⟨0, 0, ⟨#[]⟩⟩) := may_null
          have hq := veq_run 0 i s 0 0 ⟨#[]⟩
          obtain ⟨b, hb⟩ : ∃ b, Z.same ⟨0, i, s⟩ ⟨0, 0, ⟨#[]⟩⟩ = b := ⟨_, rfl⟩
          rw [hb] at HM
          simp only [hb] at hq
          clear hb
          go_enter Try.func27, Try.ntmps27
          go_wp2
          go_ret
          exact ⟨by rw [HM.out]; rfl, below_one _ _⟩
        · have HM : Hid (Z.may ⟨k, i, s⟩ = false) := may_else k0 k1 k2 k3
          go_enter Try.func27, Try.ntmps27
          go_wp2
          go_ret
          exact ⟨by rw [HM.out]; rfl, below_one _ _⟩
end Go.Proofs.Ythcnfbjljkighaa
/- The contract of leb's get. -/
namespace Go.Proofs.Ythcnfbjljkighaa
set_option linter.unusedVariables false
open Go.RowKit

theorem or_at (a b J : Nat) (ha : a < 2 ^ J) (hb : b * 2 ^ J < 18446744073709551616) (hJ : J < 64) :
    bits .or .u64 (a : Int) (IntKind.u64.wrap ((b : Int) * 2 ^ J)) = ((a + 2 ^ J * b : Nat) : Int) := by
  rw [u64_wrap, ← pow_int, ← Int.natCast_mul]
  have hp : 2 ^ J ≤ 2 ^ 63 := Nat.pow_le_pow_right (by omega) (by omega)
  rw [show ((b * 2 ^ J : Nat) : Int) % 18446744073709551616 = ((b * 2 ^ J : Nat) : Int) by omega]
  rw [u64_or_nat a (b * 2 ^ J) (by omega) (by omega), Nat.or_comm, nat_join J (b * 2 ^ J) a (by simp) ha, Nat.mul_comm b, Nat.add_comm]

theorem take_snocN (l : List Nat) (k : Nat) (h : k < l.length) : l.take (k + 1) = l.take k ++ [l.getD k 0] := by
  rw [List.take_succ_eq_append_getElem h]; simp [List.getD, h]

/-- A byte more of a number. -/
theorem get_step (l : List Nat) (j : Nat) (N c : Int) (hj : j < l.length) (hj9 : j ≤ 9) (hN : ((E.val (l.take j) : Nat) : Int) = N) (hc : ((l.getD j 0 : Nat) : Int) = c) (h9 : j = 9 → c ≤ 1) :
    bits .or .u64 N (IntKind.u64.wrap (c % 128 * 2 ^ (j * 7))) = ((E.val (l.take (j + 1)) : Nat) : Int) := by
  have hl : (l.take j).length = j := by simp; omega
  have hv := E.val_lt (l.take j)
  rw [take_snocN l j hj, E.val_append, hl, ← hN, ← hc]
  rw [hl] at hv
  generalize l.getD j 0 = x at *
  generalize E.val (l.take j) = a at *
  have hp : 128 ^ j = 2 ^ (j * 7) := by rw [Nat.mul_comm, Nat.pow_mul]
  have hb : x % 128 * 2 ^ (j * 7) < 18446744073709551616 := by
    rcases Nat.lt_or_ge j 9 with h | h
    · have h1 : 2 ^ (j * 7) ≤ 2 ^ 56 := Nat.pow_le_pow_right (by omega) (by omega)
      have h2 : x % 128 * 2 ^ (j * 7) ≤ 127 * 2 ^ 56 := Nat.mul_le_mul (by omega) h1
      omega
    · obtain rfl : j = 9 := by omega
      have h1 := h9 rfl
      have h2 : x % 128 * 2 ^ (9 * 7) ≤ 1 * 2 ^ (9 * 7) := Nat.mul_le_mul_right _ (by omega)
      omega
  have h := or_at a (x % 128) (j * 7) (by rw [← hp]; exact hv) hb (by omega)
  rw [show (x : Int) % 128 = ((x % 128 : Nat) : Int) by omega, h, hp]
  simp only [E.val, Nat.mul_zero, Nat.add_zero]

/-- A panic with an error's number. -/
def pan (k : Int) : Ending := .panicked [{ v := .iface 26 (.int .i64 k), recovered := false }]

set_option maxHeartbeats 400000 in
theorem get_zero (ao : Option Addr) (cap : Nat) (w : World) :
    Calls Try.prog 65 #[.slice ao 0 cap] w fun e w' => e = pan 3 ∧ w' = w := by
  go_enter Try.func65, Try.ntmps65
  go_wp2_with fail
  go_loop [4, 9] (fun n i => n = .int .u64 0 ∧ i = .int .i64 0) (fun _ _ => 0)
  case atStart => exact ⟨rfl, rfl⟩
  case round =>
    obtain ⟨rfl, rfl⟩ := hrel
    go_wp2
    exact ⟨rfl, rfl, rfl⟩

set_option maxHeartbeats 1000000 in
theorem get_some (b off len cap : Nat) (l : List Nat) (w : World) (hl : l.length = len) (hm : len ≤ 140737488355328) (hc : ∀ i, i < len → w.cell? ⟨b, off + i, none⟩ = some (.int .u8 ((l.getD i 0 : Nat) : Int))) (h256 : ∀ x ∈ l, x < 256) :
    Calls Try.prog 65 #[.slice (some ⟨b, off, none⟩) len cap] w fun e w' => ((E.gE l = 0 ∧ e = .returned (.tuple #[.int .u64 ((E.gN l : Nat) : Int), .int .i64 ((E.gK l : Nat) : Int)])) ∨ (E.gE l ≠ 0 ∧ e = pan ((E.gE l : Nat) : Int))) ∧ w' = w := by
  have H2 := hide h256
  have HL := hide hl
  clear h256 hl
  go_enter Try.func65, Try.ntmps65
  go_wp2_with fail
  go_loop [4, 9] (fun n i => ∃ j : Nat, j ≤ 9 ∧ j ≤ len ∧ i = .int .i64 j ∧ (∀ t, t < j → 128 ≤ l.getD t 0) ∧ n = .int .u64 ((E.val (l.take j) : Nat) : Int)) (fun _ i => len - (intOf i).toNat)
  case atStart => exact ⟨0, by omega, Nat.zero_le _, rfl, fun t ht => by omega, rfl⟩
  case round =>
    obtain ⟨j, hj9, hjl, rfl, hlead, rfl⟩ := hrel
    have HLe := hide hlead
    clear hlead
    by_cases hlt : j < len
    · have hck := hc j hlt
      have hcl := E.getD_lt H2.out j
      obtain ⟨c, hce⟩ : ∃ c : Int, ((l.getD j 0 : Nat) : Int) = c := ⟨_, rfl⟩
      have hc0 : 0 ≤ c := by omega
      have hc1 : c < 256 := by omega
      rw [hce] at hck
      have HC := hide hce
      obtain ⟨N, hN⟩ : ∃ N : Int, ((E.val (l.take j) : Nat) : Int) = N := ⟨_, rfl⟩
      have hN0 : 0 ≤ N := by omega
      rw [hN]
      have HN := hide hN
      have HJL : Hid (j < l.length) := by have := HL.out; show _ < _; omega
      have HI : Hid (c < 128 ∨ j = 9 → E.IsLead 9 l j) := fun h => ⟨hj9, Nat.le_of_lt HJL.out, HLe.out, h.elim (fun h => .inr (.inr (by omega))) .inl⟩
      clear hc hce hcl hN
      by_cases h9 : j = 9
      · have b9 : ((j : Int) == 9) = true := by simp; omega
        have HJ := hide h9
        clear h9
        by_cases h1 : 1 < c
        · go_wp2
          have hg := E.gE_form (HI.out (.inr HJ.out)) HJL.out (.inl ⟨HJ.out, by have := HC.out; omega⟩)
          exact ⟨rfl, .inr ⟨by rw [hg]; decide, by rw [hg]; rfl⟩, rfl⟩
        · have hlt128 : c < 128 := by omega
          have hj0 : 0 < j := by have := HJ.out; omega
          by_cases hz : c = 0
          · have bz : (c == 0) = true := by simpa using hz
            have HZ := hide hz
            clear hz
            go_wp2
            have hg := E.gE_form (HI.out (.inr HJ.out)) HJL.out (.inr ⟨by omega, by have := HC.out; have := HZ.out; omega⟩)
            exact ⟨rfl, .inr ⟨by rw [hg]; decide, by rw [hg]; rfl⟩, rfl⟩
          · have bz : (c == 0) = false := by simpa using hz
            have HZ := hide hz
            clear hz
            have HS := hide (get_step l j N c HJL.out hj9 HN.out HC.out (fun _ => by omega))
            go_wp2
            go_ret2
            obtain ⟨e1, e2, e3⟩ := E.gE_ok (HI.out (.inr HJ.out)) HJL.out (fun _ => by have := HC.out; omega) (fun _ => by have := HC.out; have := HZ.out; omega)
            exact ⟨.inl ⟨e1, by rw [e2, e3, ← HS.out]; rfl⟩, rfl⟩
      · have b9 : ((j : Int) == 9) = false := by simp; omega
        have HS := hide (get_step l j N c HJL.out hj9 HN.out HC.out (fun h => absurd h h9))
        by_cases h128 : 128 ≤ c
        · go_wp2
          go_round
          case rel =>
            refine ⟨j + 1, by omega, by omega, by go_num, fun t ht => ?_, by rw [HS.out]⟩
            rcases Nat.lt_or_ge t j with h | h
            · exact HLe.out t h
            · obtain rfl : t = j := by omega
              have := HC.out; omega
          case measure => simp [intOf]; omega
        · have hlt128 : c < 128 := by omega
          by_cases hz : 0 < j ∧ c = 0
          · obtain ⟨hz0, hz1⟩ := hz
            have bz : (c == 0) = true := by simp; omega
            have HZ := hide hz1
            clear hz1
            go_wp2
            have hg := E.gE_form (HI.out (.inl hlt128)) HJL.out (.inr ⟨hz0, by have := HC.out; have := HZ.out; omega⟩)
            exact ⟨rfl, .inr ⟨by rw [hg]; decide, by rw [hg]; rfl⟩, rfl⟩
          · have bz : 0 < j → (c == 0) = false := fun h => by simp; omega
            have HZ : Hid (0 < j → c ≠ 0) := fun h e => hz ⟨h, e⟩
            clear hz
            by_cases hj0 : 0 < j
            all_goals
              first | (replace bz := bz hj0) | clear bz
              go_wp2
              go_ret2
              obtain ⟨e1, e2, e3⟩ := E.gE_ok (HI.out (.inl hlt128)) HJL.out (fun h => absurd h h9) (fun h => by have := HC.out; have := HZ.out h; omega)
              exact ⟨.inl ⟨e1, by rw [e2, e3, ← HS.out]; rfl⟩, rfl⟩
    · have HI : Hid (E.IsLead 9 l j) := ⟨hj9, by have := HL.out; omega, HLe.out, .inr (.inl (by have := HL.out; omega))⟩
      clear hc
      go_wp2
      have hg := E.gE_short HI.out (by have := HL.out; omega)
      exact ⟨rfl, .inr ⟨by rw [hg]; decide, by rw [hg]; rfl⟩, rfl⟩

/-- leb's get: the number and how many bytes it has, or a panic with the error. -/
theorem get_in (ao : Option Addr) (len cap : Nat) (l : List Nat) (w : World) (h : Sl w .u8 ao len cap (ints l)) (h256 : ∀ x ∈ l, x < 256) (hm : len ≤ 140737488355328) :
    Calls Try.prog 65 #[.slice ao len cap] w fun e w' => ((E.gE l = 0 ∧ e = .returned (.tuple #[.int .u64 ((E.gN l : Nat) : Int), .int .i64 ((E.gK l : Nat) : Int)])) ∨ (E.gE l ≠ 0 ∧ e = pan ((E.gE l : Nat) : Int))) ∧ w' = w := by
  obtain ⟨h1, h2, h3, h4, h5⟩ := h
  rw [ints_length] at h1
  by_cases h0 : len = 0
  · subst h0
    obtain rfl : l = [] := List.eq_nil_of_length_eq_zero h1
    refine (get_zero ao cap w).mono ?_
    rintro e w' ⟨rfl, rfl⟩
    exact ⟨.inr ⟨by decide, rfl⟩, rfl⟩
  · rcases h5 with h5 | ⟨b, off, rfl, hlt, h5⟩
    · omega
    · exact get_some b off len cap l w h1 hm (fun i hi => by rw [h5 i hi, ints_getD]) h256
end Go.Proofs.Ythcnfbjljkighaa

/- The contracts of leb's put, Put, Zig, Zag. -/
import Derived.Test.YtahpbenobhodnaaU
import Derived.Test.YtahpbenobhodnaaE1
namespace Go.Proofs.Ytahpbenobhodnaa
set_option linter.unusedVariables false
open Go.RowKit

theorem ret_int {k : IntKind} {a b : Int} (h : a = b) : Ending.returned (.int k a) = .returned (.int k b) := by rw [h]
theorem u64_wrap (n : Int) : IntKind.u64.wrap n = n % 18446744073709551616 := by simp [IntKind.wrap, IntKind.bits, IntKind.signed]
theorem zig_neg (n : Int) (h0 : -9223372036854775808 ≤ n) (h : n < 0) : IntKind.u64.wrap (IntKind.u64.wrap (-IntKind.u64.wrap (IntKind.u64.wrap n * 2)) - 1) = ((E.zig n : Nat) : Int) := by
  simp only [u64_wrap, E.zig, if_pos h]; omega
theorem zig_pos (n : Int) (h : 0 ≤ n) : n * 2 = ((E.zig n : Nat) : Int) := by
  unfold E.zig; rw [if_neg (by omega)]; omega
theorem zag_odd (n : Int) (h0 : 0 ≤ n) (h : n % 2 = 1) : -(n / 2) - 1 = E.zag n.toNat := by
  unfold E.zag; rw [if_pos (by omega)]; omega
theorem zag_even (n : Int) (h0 : 0 ≤ n) (h : n % 2 ≠ 1) : n / 2 = E.zag n.toNat := by
  unfold E.zag; rw [if_neg (by omega)]; omega
set_option maxRecDepth 100000 in
theorem or_128 : ∀ x < 256, x ||| 128 = x % 128 + 128 := by decide
theorem or128 (m : Int) (h0 : 0 ≤ m) : bits .or .u8 (m % 256) 128 = (((m.toNat % 128 + 128 : Nat)) : Int) := by
  obtain ⟨n, rfl⟩ := Int.eq_ofNat_of_zero_le h0
  have hj := u8_or_nat (n % 256) 128 (by omega) (by omega)
  have h1 : n % 256 < 256 := by omega
  rw [or_128 _ h1] at hj
  rw [Int.toNat_natCast, show n % 128 + 128 = n % 256 % 128 + 128 by omega, ← hj]
  rfl

set_option maxHeartbeats 400000 in
theorem put_in (base : Nat) (v : Value) (l : List Nat) (n : Int) (w : World) (ho : w.ownsRow base 5 1 v l.length (B8 l)) (hl : l.length + 10 ≤ 140737488355328) (hb : base ≤ w.heap.size) (hn0 : 0 ≤ n) (hn1 : n < 18446744073709551616) :
    Calls Try.prog 43 #[v, .int .u64 n] w fun e w' => ∃ v', e = .returned v' ∧ w'.ownsRow base 5 1 v' (l ++ E.leb n.toNat).length (B8 (l ++ E.leb n.toNat)) ∧ AS w v w' v' := by
  obtain ⟨i0, hi, hz0, hz1, hz2⟩ := info_parts Try.infoU8
  have h10 := E.leb_ten n.toNat (by omega)
  go_enter Try.func43, Try.ntmps43
  go_wp2_with fail
  go_loopw [0, 1] (fun b m wr => ∃ (pre : List Nat) (k : Int), m = .int .u64 k ∧ 0 ≤ k ∧ k < 18446744073709551616 ∧ pre ++ E.leb k.toNat = l ++ E.leb n.toNat ∧ wr.ownsRow base 5 1 b pre.length (B8 pre) ∧ AS w v wr b) (fun _ m _ => (intOf m).toNat)
  case atStart => exact ⟨l, n, rfl, hn0, hn1, rfl, ho, AS.refl _ _⟩
  case round =>
    obtain ⟨pre, k, rfl, hk0, hk1, hpre, hown, has⟩ := hrel
    have hlen : pre.length + (E.leb k.toNat).length = l.length + (E.leb n.toNat).length := by
      have := congrArg List.length hpre
      simpa using this
    have hlp := E.leb_pos k.toNat
    have hsz := has.1.size
    have HP := hide hpre
    have HL := hide hlen
    have hpl : pre.length + 1 ≤ 140737488355328 := by omega
    by_cases hk : 128 ≤ k
    · have HO := hide (or128 k hk0)
      have HB := hide (E.leb_big k.toNat (by omega))
      clear hpre hlen h10 hlp
      go_wp2_with (at_builtin; refine wpList_append_to rfl _ _ 24 rfl base 5 i0 (.int .u8 0) 1 1 Try.underlying24 hi hz0 hz1 hz2 rfl (by decide) _ _ _ rfl (hown.alloc _) (some ⟨wr.heap.size, 0, none⟩) 1 1 [.int .u8 (bits .or .u8 (k % 256) 128)] rfl (by simp) rfl (Sl.news1 _ _) (one_oneCell _ _) (by unfold maxLen; omega) (by omega) (by simp; omega) ?_)
      intro v' w1 ho1 has1
      go_wp2
      go_roundw
      case rel =>
        refine ⟨pre ++ [k.toNat % 128 + 128], k / 128, rfl, by omega, by omega, ?_, ?_, has.trans (AS.pre ((Kept.refl _ wr).alloc _) has1)⟩
        · rw [← HP.out, HB.out, List.append_assoc, show (k / 128).toNat = k.toNat / 128 by omega]; rfl
        · rw [HO.out] at ho1
          rw [B8_append, List.length_append]; exact ho1
      case measure => simp [intOf]; omega
    · have HB := hide (E.leb_small k.toNat (by omega))
      clear hpre hlen h10 hlp
      go_wp2_with (at_builtin; refine wpList_append_to rfl _ _ 24 rfl base 5 i0 (.int .u8 0) 1 1 Try.underlying24 hi hz0 hz1 hz2 rfl (by decide) _ _ _ rfl (hown.alloc _) (some ⟨wr.heap.size, 0, none⟩) 1 1 [.int .u8 k] rfl (by simp) rfl (Sl.news1 _ _) (one_oneCell _ _) (by unfold maxLen; omega) (by omega) (by simp; omega) ?_)
      intro v' w1 ho1 has1
      go_wp2
      go_ret
      refine ⟨v', rfl, ?_, has.trans (AS.pre ((Kept.refl _ wr).alloc _) has1)⟩
      rw [← HP.out, HB.out, B8_append, List.length_append, show B8 [k.toNat] = [Value.int .u8 k] by simp [B8]; omega]
      exact ho1

/-- Put. -/
theorem put_any (n : Int) (w : World) (hn0 : 0 ≤ n) (hn1 : n < 18446744073709551616) :
    Calls Try.prog 19 #[.int .u64 n] w fun e w' => ∃ v', e = .returned v' ∧ w'.ownsRow w.heap.size 5 1 v' (E.leb n.toNat).length (B8 (E.leb n.toNat)) ∧ Below w.heap.size w w' := by
  go_enter Try.func19, Try.ntmps19
  go_wp2_with fail
  refine (put_in w.heap.size _ [] n w (World.ownsRow_nil _ _ _ _) (by simp) (Nat.le_refl _) hn0 hn1).mono ?_
  rintro e w' ⟨v', rfl, ho, has⟩
  go_wp2
  go_ret
  exact ⟨v', rfl, by simpa using ho, has.below (Nat.le_refl _) (by simp [Value.ownBlock])⟩

set_option maxHeartbeats 400000 in
theorem zig_any (n : Int) (w : World) (h0 : -9223372036854775808 ≤ n) (h1 : n < 9223372036854775808) :
    Calls Try.prog 20 #[.int .i64 n] w fun e w' => e = .returned (.int .u64 ((E.zig n : Nat) : Int)) ∧ w' = w := by
  by_cases hn : n < 0
  · go_enter Try.func20, Try.ntmps20
    go_wp2
    go_ret
    exact ⟨ret_int (zig_neg n h0 hn), rfl⟩
  · go_enter Try.func20, Try.ntmps20
    go_wp2
    go_ret
    exact ⟨ret_int (zig_pos n (by omega)), rfl⟩

set_option maxHeartbeats 400000 in
theorem zag_any (n : Int) (w : World) (h0 : 0 ≤ n) (h1 : n < 18446744073709551616) :
    Calls Try.prog 62 #[.int .u64 n] w fun e w' => e = .returned (.int .i64 (E.zag n.toNat)) ∧ w' = w := by
  by_cases hn : n % 2 = 1
  · have hb : (n % 2 == 1) = true := by simpa using hn
    clear hn
    go_enter Try.func62, Try.ntmps62
    go_wp2
    go_ret
    exact ⟨ret_int (zag_odd n h0 (by simpa using hb)), rfl⟩
  · have hb : (n % 2 == 1) = false := by simpa using hn
    clear hn
    go_enter Try.func62, Try.ntmps62
    go_wp2
    go_ret
    exact ⟨ret_int (zag_even n h0 (by simpa using hb)), rfl⟩
end Go.Proofs.Ytahpbenobhodnaa

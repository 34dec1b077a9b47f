/- The walk of the statement: Zag turns Zig round; numbers nearer to 0 have no more bytes. -/
import Derived.Test.YtnkpghoijdcohaaE10
import Derived.Test.YtnkpghoijdcohaaRU
namespace Go.Proofs.Ytnkpghoijdcohaa
set_option linter.unusedVariables false
open Go.RowKit

theorem lebs_one (n : Int) : E.lebs [n] = E.leb (E.zig n) := by simp [E.lebs]
theorem In_one {n : Int} (h0 : -9223372036854775808 ≤ n) (h1 : n < 9223372036854775808) : E.In [n] := by
  intro x hx; simp at hx; subst hx; exact ⟨h0, h1⟩
theorem tdiv_two (n : Int) (h0 : -9223372036854775808 ≤ n) (h1 : n < 9223372036854775808) : -9223372036854775808 ≤ n.tdiv 2 ∧ n.tdiv 2 < 9223372036854775808 := by
  rcases Int.le_total 0 n with h | h
  · rw [Int.tdiv_eq_ediv_of_nonneg h]; omega
  · obtain ⟨m, rfl⟩ : ∃ m : Int, n = -m := ⟨-n, by omega⟩
    rw [Int.neg_tdiv, Int.tdiv_eq_ediv_of_nonneg (by omega)]; omega

set_option maxHeartbeats 1000000 in
theorem lebSigns_walk (w : World) (n : Int) (wn : (Lit.int .i64 n).wf = true) (m : Int) (wm : (Lit.int .u64 m).wf = true) :
    Calls Try.prog 7 #[.int .i64 n, .int .u64 m] w fun e w' => e = .returned (.bool true) ∧ Below w.heap.size w w' := by
  obtain ⟨hn0, hn1⟩ := wf_i64 wn
  obtain ⟨hm0, hm1⟩ := wf_u64 wm
  have hzn := E.zig_lt n hn0 hn1
  obtain ⟨hg0, hg1⟩ := E.zag_lt m.toNat (by omega)
  obtain ⟨hd0, hd1⟩ := tdiv_two n hn0 hn1
  have h1 := E.zag_zig n
  have h2 : ((E.zig (E.zag m.toNat) : Nat) : Int) = m := by rw [E.zig_zag]; omega
  have hle : (((E.lebs [n.tdiv 2]).length : Nat) : Int) ≤ (((E.lebs [n]).length : Nat) : Int) := by
    rw [lebs_one, lebs_one]
    have := E.leb_mono _ _ (E.zig_half n)
    omega
  clear wn wm
  go_enter Try.func7, Try.ntmps7
  go_wp2_with fail
  refine (shown_any w).mono ?_
  rintro e w2 ⟨rfl, hb⟩
  go_wp2_with fail
  refine (zig_any n _ hn0 hn1).mono ?_
  rintro e w3 ⟨rfl, rfl⟩
  go_wp2_with fail
  refine (zag_any _ _ (by omega) (by omega)).mono ?_
  rintro e w4 ⟨rfl, rfl⟩
  go_wp2_with fail
  refine (zag_any m _ hm0 hm1).mono ?_
  rintro e w4 ⟨rfl, rfl⟩
  go_wp2_with fail
  refine (zig_any _ _ hg0 hg1).mono ?_
  rintro e w5 ⟨rfl, rfl⟩
  go_wp2_with fail
  refine (ints_any _ _ _ [n.tdiv 2] _ (Sl.one w5 _ _ _) (by omega) (In_one hd0 hd1)).mono ?_
  rintro e w6 ⟨v6, rfl, ho6, hb6⟩
  have hb7 : Below w.heap.size w w6 := (hb.alloc hb.size _).trans (hb6.mono (by have := hb.size; simp; omega))
  obtain ⟨a6, c6, hv6, _, _⟩ := Sl.of_bytes ho6
  clear hb hb6 ho6
  subst hv6
  go_wp2_with fail
  refine (ints_any _ _ _ [n] _ (Sl.one w6 _ _ _) (by omega) (In_one hn0 hn1)).mono ?_
  rintro e w8 ⟨v8, rfl, ho8, hb8⟩
  have hb9 : Below w.heap.size w w8 := (hb7.alloc hb7.size _).trans (hb8.mono (by have := hb7.size; simp; omega))
  obtain ⟨a8, c8, hv8, _, _⟩ := Sl.of_bytes ho8
  clear hb7 hb8 ho8
  subst hv8
  go_wp2
  go_ret
  exact ⟨rfl, hb9⟩
end Go.Proofs.Ytnkpghoijdcohaa

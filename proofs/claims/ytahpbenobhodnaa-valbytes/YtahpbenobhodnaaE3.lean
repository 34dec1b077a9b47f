/- The contract of leb's get. -/
import Derived.Test.YtahpbenobhodnaaE2
namespace Go.Proofs.Ytahpbenobhodnaa
set_option linter.unusedVariables false
open Go.RowKit

theorem or_at (a b J : Nat) (ha : a < 2 ^ J) (hb : b * 2 ^ J < 18446744073709551616) (hJ : J < 64) :
    bits .or .u64 (a : Int) (IntKind.u64.wrap ((b : Int) * 2 ^ J)) = ((a + 2 ^ J * b : Nat) : Int) := by
  rw [u64_wrap, ← pow_int, ← Int.natCast_mul]
  have hp : 2 ^ J ≤ 2 ^ 63 := Nat.pow_le_pow_right (by omega) (by omega)
  rw [show ((b * 2 ^ J : Nat) : Int) % 18446744073709551616 = ((b * 2 ^ J : Nat) : Int) by omega]
  rw [u64_or_nat a (b * 2 ^ J) (by omega) (by omega), Nat.or_comm, nat_join J (b * 2 ^ J) a (by simp) ha, Nat.mul_comm b, Nat.add_comm]

theorem take_snocN (l : List Nat) (k : Nat) (h : k < l.length) : l.take (k + 1) = l.take k ++ [l.getD k 0] := by
  rw [List.take_succ_eq_append_getElem h]; simp [List.getD, h]

/-- A byte more of a number. -/
theorem get_step (l : List Nat) (j : Nat) (N c : Int) (hj : j < l.length) (hj9 : j ≤ 9) (hN : ((E.val (l.take j) : Nat) : Int) = N) (hc : ((l.getD j 0 : Nat) : Int) = c) (h9 : j = 9 → c ≤ 1) :
    bits .or .u64 N (IntKind.u64.wrap (c % 128 * 2 ^ (j * 7))) = ((E.val (l.take (j + 1)) : Nat) : Int) := by
  have hl : (l.take j).length = j := by simp; omega
  have hv := E.val_lt (l.take j)
  rw [take_snocN l j hj, E.val_append, hl, ← hN, ← hc]
  rw [hl] at hv
  generalize l.getD j 0 = x at *
  generalize E.val (l.take j) = a at *
  have hp : 128 ^ j = 2 ^ (j * 7) := by rw [Nat.mul_comm, Nat.pow_mul]
  have hb : x % 128 * 2 ^ (j * 7) < 18446744073709551616 := by
    rcases Nat.lt_or_ge j 9 with h | h
    · have h1 : 2 ^ (j * 7) ≤ 2 ^ 56 := Nat.pow_le_pow_right (by omega) (by omega)
      have h2 : x % 128 * 2 ^ (j * 7) ≤ 127 * 2 ^ 56 := Nat.mul_le_mul (by omega) h1
      omega
    · obtain rfl : j = 9 := by omega
      have h1 := h9 rfl
      have h2 : x % 128 * 2 ^ (9 * 7) ≤ 1 * 2 ^ (9 * 7) := Nat.mul_le_mul_right _ (by omega)
      omega
  have h := or_at a (x % 128) (j * 7) (by rw [← hp]; exact hv) hb (by omega)
  rw [show (x : Int) % 128 = ((x % 128 : Nat) : Int) by omega, h, hp]
  simp only [E.val, Nat.mul_zero, Nat.add_zero]

/-- A panic with an error's number. -/
def pan (k : Int) : Ending := .panicked [{ v := .iface 26 (.int .i64 k), recovered := false }]

set_option maxHeartbeats 400000 in
theorem get_zero (ao : Option Addr) (cap : Nat) (w : World) :
    Calls Try.prog 61 #[.slice ao 0 cap] w fun e w' => e = pan 3 ∧ w' = w := by
  go_enter Try.func61, Try.ntmps61
  go_wp2_with fail
  go_loop [4, 9] (fun n i => n = .int .u64 0 ∧ i = .int .i64 0) (fun _ _ => 0)
  case atStart => exact ⟨rfl, rfl⟩
  case round =>
    obtain ⟨rfl, rfl⟩ := hrel
    go_wp2
    exact ⟨rfl, rfl, rfl⟩

set_option maxHeartbeats 1000000 in
theorem get_some (b off len cap : Nat) (l : List Nat) (w : World) (hl : l.length = len) (hm : len ≤ 140737488355328) (hc : ∀ i, i < len → w.cell? ⟨b, off + i, none⟩ = some (.int .u8 ((l.getD i 0 : Nat) : Int))) (h256 : ∀ x ∈ l, x < 256) :
    Calls Try.prog 61 #[.slice (some ⟨b, off, none⟩) len cap] w fun e w' => ((E.gE l = 0 ∧ e = .returned (.tuple #[.int .u64 ((E.gN l : Nat) : Int), .int .i64 ((E.gK l : Nat) : Int)])) ∨ (E.gE l ≠ 0 ∧ e = pan ((E.gE l : Nat) : Int))) ∧ w' = w := by
  have H2 := hide h256
  have HL := hide hl
  clear h256 hl
  go_enter Try.func61, Try.ntmps61
  go_wp2_with fail
  go_loop [4, 9] (fun n i => ∃ j : Nat, j ≤ 9 ∧ j ≤ len ∧ i = .int .i64 j ∧ (∀ t, t < j → 128 ≤ l.getD t 0) ∧ n = .int .u64 ((E.val (l.take j) : Nat) : Int)) (fun _ i => len - (intOf i).toNat)
  case atStart => exact ⟨0, by omega, Nat.zero_le _, rfl, fun t ht => by omega, rfl⟩
  case round =>
    obtain ⟨j, hj9, hjl, rfl, hlead, rfl⟩ := hrel
    have HLe := hide hlead
    clear hlead
    by_cases hlt : j < len
    · have hck := hc j hlt
      have hcl := E.getD_lt H2.out j
      obtain ⟨c, hce⟩ : ∃ c : Int, ((l.getD j 0 : Nat) : Int) = c := ⟨_, rfl⟩
      have hc0 : 0 ≤ c := by omega
      have hc1 : c < 256 := by omega
      rw [hce] at hck
      have HC := hide hce
      obtain ⟨N, hN⟩ : ∃ N : Int, ((E.val (l.take j) : Nat) : Int) = N := ⟨_, rfl⟩
      have hN0 : 0 ≤ N := by omega
      rw [hN]
      have HN := hide hN
      have HJL : Hid (j < l.length) := by have := HL.out; show _ < _; omega
      have HI : Hid (c < 128 ∨ j = 9 → E.IsLead 9 l j) := fun h => ⟨hj9, Nat.le_of_lt HJL.out, HLe.out, h.elim (fun h => .inr (.inr (by omega))) .inl⟩
      clear hc hce hcl hN
      by_cases h9 : j = 9
      · have b9 : ((j : Int) == 9) = true := by simp; omega
        have HJ := hide h9
        clear h9
        by_cases h1 : 1 < c
        · go_wp2
          have hg := E.gE_form (HI.out (.inr HJ.out)) HJL.out (.inl ⟨HJ.out, by have := HC.out; omega⟩)
          exact ⟨rfl, .inr ⟨by rw [hg]; decide, by rw [hg]; rfl⟩, rfl⟩
        · have hlt128 : c < 128 := by omega
          have hj0 : 0 < j := by have := HJ.out; omega
          by_cases hz : c = 0
          · have bz : (c == 0) = true := by simpa using hz
            have HZ := hide hz
            clear hz
            go_wp2
            have hg := E.gE_form (HI.out (.inr HJ.out)) HJL.out (.inr ⟨by omega, by have := HC.out; have := HZ.out; omega⟩)
            exact ⟨rfl, .inr ⟨by rw [hg]; decide, by rw [hg]; rfl⟩, rfl⟩
          · have bz : (c == 0) = false := by simpa using hz
            have HZ := hide hz
            clear hz
            have HS := hide (get_step l j N c HJL.out hj9 HN.out HC.out (fun _ => by omega))
            go_wp2
            go_ret2
            obtain ⟨e1, e2, e3⟩ := E.gE_ok (HI.out (.inr HJ.out)) HJL.out (fun _ => by have := HC.out; omega) (fun _ => by have := HC.out; have := HZ.out; omega)
            exact ⟨.inl ⟨e1, by rw [e2, e3, ← HS.out]; rfl⟩, rfl⟩
      · have b9 : ((j : Int) == 9) = false := by simp; omega
        have HS := hide (get_step l j N c HJL.out hj9 HN.out HC.out (fun h => absurd h h9))
        by_cases h128 : 128 ≤ c
        · go_wp2
          go_round
          case rel =>
            refine ⟨j + 1, by omega, by omega, by go_num, fun t ht => ?_, by rw [HS.out]⟩
            rcases Nat.lt_or_ge t j with h | h
            · exact HLe.out t h
            · obtain rfl : t = j := by omega
              have := HC.out; omega
          case measure => simp [intOf]; omega
        · have hlt128 : c < 128 := by omega
          by_cases hz : 0 < j ∧ c = 0
          · obtain ⟨hz0, hz1⟩ := hz
            have bz : (c == 0) = true := by simp; omega
            have HZ := hide hz1
            clear hz1
            go_wp2
            have hg := E.gE_form (HI.out (.inl hlt128)) HJL.out (.inr ⟨hz0, by have := HC.out; have := HZ.out; omega⟩)
            exact ⟨rfl, .inr ⟨by rw [hg]; decide, by rw [hg]; rfl⟩, rfl⟩
          · have bz : 0 < j → (c == 0) = false := fun h => by simp; omega
            have HZ : Hid (0 < j → c ≠ 0) := fun h e => hz ⟨h, e⟩
            clear hz
            by_cases hj0 : 0 < j
            all_goals
              first | (replace bz := bz hj0) | clear bz
              go_wp2
              go_ret2
              obtain ⟨e1, e2, e3⟩ := E.gE_ok (HI.out (.inl hlt128)) HJL.out (fun h => absurd h h9) (fun h => by have := HC.out; have := HZ.out h; omega)
              exact ⟨.inl ⟨e1, by rw [e2, e3, ← HS.out]; rfl⟩, rfl⟩
    · have HI : Hid (E.IsLead 9 l j) := ⟨hj9, by have := HL.out; omega, HLe.out, .inr (.inl (by have := HL.out; omega))⟩
      clear hc
      go_wp2
      have hg := E.gE_short HI.out (by have := HL.out; omega)
      exact ⟨rfl, .inr ⟨by rw [hg]; decide, by rw [hg]; rfl⟩, rfl⟩

/-- leb's get: the number and how many bytes it has, or a panic with the error. -/
theorem get_in (ao : Option Addr) (len cap : Nat) (l : List Nat) (w : World) (h : Sl w .u8 ao len cap (ints l)) (h256 : ∀ x ∈ l, x < 256) (hm : len ≤ 140737488355328) :
    Calls Try.prog 61 #[.slice ao len cap] w fun e w' => ((E.gE l = 0 ∧ e = .returned (.tuple #[.int .u64 ((E.gN l : Nat) : Int), .int .i64 ((E.gK l : Nat) : Int)])) ∨ (E.gE l ≠ 0 ∧ e = pan ((E.gE l : Nat) : Int))) ∧ w' = w := by
  obtain ⟨h1, h2, h3, h4, h5⟩ := h
  rw [ints_length] at h1
  by_cases h0 : len = 0
  · subst h0
    obtain rfl : l = [] := List.eq_nil_of_length_eq_zero h1
    refine (get_zero ao cap w).mono ?_
    rintro e w' ⟨rfl, rfl⟩
    exact ⟨.inr ⟨by decide, rfl⟩, rfl⟩
  · rcases h5 with h5 | ⟨b, off, rfl, hlt, h5⟩
    · omega
    · exact get_some b off len cap l w h1 hm (fun i hi => by rw [h5 i hi, ints_getD]) h256
end Go.Proofs.Ytahpbenobhodnaa

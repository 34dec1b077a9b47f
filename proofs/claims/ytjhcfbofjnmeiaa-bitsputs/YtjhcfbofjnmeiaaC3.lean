/- The contracts of math/bits.Len64 and of Width. -/
import Derived.Test.YtjhcfbofjnmeiaaC2
import Derived.Laws.MathBits
namespace Go.Proofs.Ytjhcfbofjnmeiaa
set_option linter.unusedVariables false
open Go.RowKit

theorem wrap64_small (n : Int) (h0 : 0 ≤ n) (h1 : n < 1000000) : wrap64 n = n := IntWalk.wrap64_in n ⟨by omega, by omega⟩

theorem len_fin (x : Int) (c : Nat) (C y : Int) (hC : C = (c : Int)) (hy : y.toNat = x.toNat / 2 ^ c) (hp : c = 0 ∨ 1 ≤ y) (h8 : y < 256) (hc : c ≤ 56) :
    wrap64 (C + wrap64 ((bitLen y.toNat : Nat) : Int)) = ((bitLen x.toNat : Nat) : Int) := by
  have hl := bitLen_le8 y.toNat (by omega)
  rw [wrap64_small (bitLen y.toNat : Nat) (by omega) (by omega), wrap64_small _ (by omega) (by omega)]
  rcases hp with rfl | hp
  · simp at hy; rw [hy]; omega
  · have := bitLen_shift x.toNat c (by omega)
    rw [← hy] at this
    omega

set_option maxHeartbeats 1000000 in
set_option maxRecDepth 100000 in
/-- math/bits.Len64. -/
theorem len64_any (x : Int) (w : World) (h0 : 0 ≤ x) (h1 : x < 18446744073709551616) :
    Calls Try.prog 34 #[.int .u64 x] w fun e w' => e = .returned (.int .i64 ((bitLen x.toNat : Nat) : Int)) ∧ w' = w := by
  go_enter Try.func34, Try.ntmps34
  go_wp2
  all_goals (go_ret; refine ⟨congrArg (fun x => Ending.returned (Value.int .i64 x)) ?_, rfl⟩; simp only [len8tab_get])
  · exact len_fin x 56 56 _ rfl (by omega) (by omega) (by omega) (by omega)
  · exact len_fin x 48 48 _ rfl (by omega) (by omega) (by omega) (by omega)
  · exact len_fin x 40 40 _ rfl (by omega) (by omega) (by omega) (by omega)
  · exact len_fin x 32 32 _ rfl (by omega) (by omega) (by omega) (by omega)
  · exact len_fin x 24 24 _ rfl (by omega) (by omega) (by omega) (by omega)
  · exact len_fin x 16 16 _ rfl (by omega) (by omega) (by omega) (by omega)
  · exact len_fin x 8 8 _ rfl (by omega) (by omega) (by omega) (by omega)
  · have := len_fin x 0 0 x rfl (by simp) (by omega) (by omega) (by omega)
    simpa using this

/-- All numbers' bits joined. -/
def orAll (l : List Int) : Nat := l.foldl (fun a x => a ||| x.toNat) 0
theorem orAll_snoc (l : List Int) (x : Int) : orAll (l ++ [x]) = orAll l ||| x.toNat := by simp [orAll]
theorem orAll_lt (l : List Int) (h : ∀ x ∈ l, x < 18446744073709551616) : orAll l < 18446744073709551616 := by
  have gen : ∀ (l : List Int) (a : Nat), a < 2 ^ 64 → (∀ x ∈ l, x < 18446744073709551616) → l.foldl (fun a x => a ||| x.toNat) a < 2 ^ 64 := by
    intro l
    induction l with
    | nil => intro a ha _; exact ha
    | cons y r ih =>
      intro a ha hh
      have hy := hh y (by simp)
      exact ih _ (Nat.or_lt_two_pow ha (by omega)) (fun x hx => hh x (by simp [hx]))
  have := gen l 0 (by omega) h
  unfold orAll; omega

theorem take_snocD (l : List Int) (k : Nat) (h : k < l.length) : l.take (k + 1) = l.take k ++ [l.getD k 0] := by
  rw [List.take_succ_eq_append_getElem h]; simp [List.getD, h]

/-- What each number of a kind is. -/
def In64 (l : List Int) : Prop := ∀ x ∈ l, 0 ≤ x ∧ x < 18446744073709551616
theorem In64.getD {l : List Int} (h : In64 l) (k : Nat) : 0 ≤ l.getD k 0 ∧ l.getD k 0 < 18446744073709551616 := by
  by_cases hk : k < l.length
  · have : l.getD k 0 = l[k] := by simp [List.getD, hk]
    rw [this]; exact h _ (List.getElem_mem hk)
  · have : l.getD k 0 = 0 := by simp [List.getD, Nat.le_of_not_lt hk]
    rw [this]; decide

theorem or_all (a : Nat) (x : Int) (ha : a < 18446744073709551616) (h0 : 0 ≤ x) (h1 : x < 18446744073709551616) : bits .or .u64 (a : Int) x = ((a ||| x.toNat : Nat) : Int) := by
  have := u64_or a x (by omega) (by omega) h0 h1
  simpa using this

set_option maxHeartbeats 400000 in
theorem width_none (ao : Option Addr) (cap : Nat) (w : World) :
    Calls Try.prog 26 #[.slice ao 0 cap] w fun e w' => e = .returned (.int .i64 0) ∧ w' = w := by
  go_enter Try.func26, Try.ntmps26
  go_wp2_with fail
  go_loop [3, 8] (fun a i => a = .int .u64 0 ∧ i = .int .i64 0) (fun _ _ => 0)
  case atStart => exact ⟨rfl, rfl⟩
  case round =>
    obtain ⟨rfl, rfl⟩ := hrel
    go_wp2_with fail
    refine (len64_any 0 _ (by omega) (by omega)).mono ?_
    rintro e w' ⟨rfl, rfl⟩
    go_wp2
    go_ret
    exact ⟨rfl, rfl⟩

set_option maxHeartbeats 400000 in
theorem width_some (b off len cap : Nat) (l : List Int) (w : World) (hl : l.length = len) (hm : len ≤ 140737488355328) (hc : ∀ i, i < len → w.cell? ⟨b, off + i, none⟩ = some (.int .u64 (l.getD i 0))) (hin : In64 l) :
    Calls Try.prog 26 #[.slice (some ⟨b, off, none⟩) len cap] w fun e w' => e = .returned (.int .i64 ((bitLen (orAll l) : Nat) : Int)) ∧ w' = w := by
  have HI := hide hin
  clear hin
  go_enter Try.func26, Try.ntmps26
  go_wp2_with fail
  go_loop [3, 8] (fun a i => ∃ k : Nat, k ≤ len ∧ i = .int .i64 k ∧ a = .int .u64 ((orAll (l.take k) : Nat) : Int)) (fun _ i => len - (intOf i).toNat)
  case atStart => exact ⟨0, Nat.zero_le _, rfl, rfl⟩
  case round =>
    obtain ⟨k, hk, rfl, rfl⟩ := hrel
    have hlt0 := orAll_lt (l.take k) (fun x hx => (HI.out x (List.mem_of_mem_take hx)).2)
    by_cases hlt : k < len
    · have hck := hc k hlt
      obtain ⟨h0, h1⟩ := HI.out.getD k
      have HE : Hid (orAll (l.take (k + 1)) = orAll (l.take k) ||| (l.getD k 0).toNat) := by rw [take_snocD l k (by omega)]; exact orAll_snoc _ _
      have HO := hide (or_all (orAll (l.take k)) (l.getD k 0) hlt0 h0 h1)
      clear hc
      generalize l.getD k 0 = x at *
      go_wp2
      go_round
      case rel => exact ⟨k + 1, by omega, by go_num, by rw [HE.out, ← HO.out]⟩
      case measure => simp [intOf]; omega
    · have hkl : k = len := by omega
      subst hkl
      clear hc
      rw [List.take_of_length_le (by omega)]
      rw [List.take_of_length_le (by omega)] at hlt0
      go_wp2_with (go_at_call 34; refine (len64_any _ _ (by omega) (by omega)).mono ?_; rintro e w' ⟨rfl, rfl⟩)
      go_ret
      exact ⟨by simp, rfl⟩

/-- Width: of whatever numbers. -/
theorem width_any (ao : Option Addr) (len cap : Nat) (l : List Int) (w : World) (h : Sl w .u64 ao len cap l) (hm : len ≤ 140737488355328) (hin : In64 l) :
    Calls Try.prog 26 #[.slice ao len cap] w fun e w' => e = .returned (.int .i64 ((bitLen (orAll l) : Nat) : Int)) ∧ w' = w := by
  obtain ⟨h1, h2, h3, h4, h5⟩ := h
  by_cases h0 : len = 0
  · subst h0
    obtain rfl : l = [] := List.eq_nil_of_length_eq_zero h1
    exact width_none ao cap w
  · rcases h5 with h5 | ⟨b, off, rfl, hlt, h5⟩
    · omega
    · exact width_some b off len cap l w h1 hm h5 hin
end Go.Proofs.Ytjhcfbofjnmeiaa

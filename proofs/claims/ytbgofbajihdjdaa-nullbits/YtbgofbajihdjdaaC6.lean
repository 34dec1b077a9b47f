/- The contracts of justBits and of Unpack. -/
import Derived.Test.YtbgofbajihdjdaaM
namespace Go.Proofs.Ytbgofbajihdjdaa
set_option linter.unusedVariables false
open Go.RowKit

/-- What is wrong with bytes as so many bits: 3: too few; 4: too many, or a bit behind them is set. -/
def jb (l : List Nat) (n : Nat) : Nat :=
  if l.length < (n + 7) / 8 then 3 else if (n + 7) / 8 < l.length then 4 else if n % 8 ≠ 0 ∧ l.getD ((n + 7) / 8 - 1) 0 / 2 ^ (n % 8) ≠ 0 then 4 else 0

set_option maxHeartbeats 400000 in
theorem just_any (ao : Option Addr) (len cap : Nat) (l : List Nat) (n : Nat) (w : World) (h : Sl w .u8 ao len cap (ints l)) (hm : len ≤ 140737488355328) (hn : n ≤ 1099511627776) :
    Calls Try.prog 32 #[.slice ao len cap, .int .i64 n] w fun e w' => e = .returned (.int .i64 ((jb l n : Nat) : Int)) ∧ w' = w := by
  have hlen : l.length = len := by rw [← h.1, ints_length]
  by_cases h1 : len < (n + 7) / 8
  · have hj : jb l n = 3 := by unfold jb; rw [hlen, if_pos h1]
    rw [hj]
    go_enter Try.func32, Try.ntmps32
    go_wp2
    go_ret
    exact ⟨rfl, rfl⟩
  · by_cases h2 : (n + 7) / 8 < len
    · have hj : jb l n = 4 := by unfold jb; rw [hlen, if_neg h1, if_pos h2]
      rw [hj]
      go_enter Try.func32, Try.ntmps32
      go_wp2
      go_ret
      exact ⟨rfl, rfl⟩
    · by_cases h3 : n % 8 = 0
      · have hj : jb l n = 0 := by unfold jb; rw [hlen, if_neg h1, if_neg h2, if_neg (by simp [h3])]
        rw [hj]
        have hb : ((n : Int) % 8 != 0) = false := by simp; omega
        go_enter Try.func32, Try.ntmps32
        go_wp2
        go_ret
        exact ⟨rfl, rfl⟩
      · have hb : ((n : Int) % 8 != 0) = true := by simp; omega
        obtain ⟨b, off, hao, hblt, hc⟩ : ∃ b off, ao = some ⟨b, off, none⟩ ∧ b < w.heap.size ∧ ∀ i, i < len → w.cell? ⟨b, off + i, none⟩ = some (.int .u8 ((ints l).getD i 0)) := by
          rcases h.2.2.2.2 with h | h
          · omega
          · exact h
        have hck := hc ((n + 7) / 8 - 1) (by omega)
        rw [ints_getD] at hck
        have hj : jb l n = if l.getD ((n + 7) / 8 - 1) 0 / 2 ^ (n % 8) ≠ 0 then 4 else 0 := by unfold jb; rw [hlen, if_neg h1, if_neg h2]; simp [h3]
        generalize l.getD ((n + 7) / 8 - 1) 0 = y at hck hj
        subst hao
        clear hc h
        by_cases h4 : y / 2 ^ (n % 8) = 0
        · have h5 : ((y : Int) / 2 ^ (n % 8) != 0) = false := by
            rw [← pow_int, ← Int.natCast_ediv, h4]; rfl
          rw [hj, if_neg (by simp [h4])]
          clear hj h4
          go_enter Try.func32, Try.ntmps32
          go_wp2
          go_ret
          exact ⟨rfl, rfl⟩
        · have h5 : ((y : Int) / 2 ^ (n % 8) != 0) = true := by
            rw [← pow_int, ← Int.natCast_ediv, bne_iff_ne]; omega
          rw [hj, if_pos h4]
          clear hj h4
          go_enter Try.func32, Try.ntmps32
          go_wp2
          go_ret
          exact ⟨rfl, rfl⟩

theorem jb_zero {l : List Nat} {n : Nat} (h : jb l n = 0) : l.length = (n + 7) / 8 ∧ (n % 8 ≠ 0 → l.getD ((n + 7) / 8 - 1) 0 / 2 ^ (n % 8) = 0) := by
  unfold jb at h
  split at h
  · omega
  · split at h
    · omega
    · split at h
      · omega
      · rename_i h1 h2 h3
        refine ⟨by omega, fun h4 => ?_⟩
        rcases Nat.eq_zero_or_pos (l.getD ((n + 7) / 8 - 1) 0 / 2 ^ (n % 8)) with h5 | h5
        · exact h5
        · exact absurd ⟨h4, by omega⟩ h3

set_option maxHeartbeats 400000 in
theorem unpack_arg (ao : Option Addr) (len cap : Nat) (n k : Int) (w : World) (h : k < 0 ∨ 64 < k ∨ n < 0 ∨ 1048576 < n) :
    Calls Try.prog 25 #[.slice ao len cap, .int .i64 n, .int .i64 k] w fun e w' => e = .returned (.tuple #[.slice none 0 0, .int .i64 1]) ∧ w' = w := by
  by_cases hk : k < 0 ∨ 64 < k
  · clear h
    go_enter Try.func25, Try.ntmps25
    go_wp2_with (go_at_call 31; refine (may_no _ _ hk).mono ?_; rintro e w' ⟨rfl, rfl⟩)
    go_ret2
    exact ⟨rfl, rfl⟩
  · have hk0 : 0 ≤ k := by omega
    have hk1 : k ≤ 64 := by omega
    rcases (show n < 0 ∨ (0 ≤ n ∧ 1048576 < n) by omega) with hn | ⟨hn0, hn⟩
    all_goals
      clear h hk
      go_enter Try.func25, Try.ntmps25
      go_wp2_with (go_at_call 31; refine (may_yes _ _ (by omega) (by omega)).mono ?_; rintro e w' ⟨rfl, rfl⟩)
      go_ret2
      exact ⟨rfl, rfl⟩

set_option maxHeartbeats 400000 in
theorem unpack_no (ao : Option Addr) (len cap : Nat) (l : List Nat) (n k : Nat) (w : World) (h : Sl w .u8 ao len cap (ints l)) (hm : len ≤ 140737488355328) (hn : n ≤ 1048576) (hk : k ≤ 64) (hj : jb l (n * k) ≠ 0) :
    Calls Try.prog 25 #[.slice ao len cap, .int .i64 n, .int .i64 k] w fun e w' => e = .returned (.tuple #[.slice none 0 0, .int .i64 ((jb l (n * k) : Nat) : Int)]) ∧ w' = w := by
  have hnk : n * k ≤ 1048576 * 64 := Nat.mul_le_mul hn hk
  have hb : (((jb l (n * k) : Nat) : Int) != 0) = true := by rw [bne_iff_ne]; omega
  have H := hide h
  have hi : (n : Int) * (k : Int) = ((n * k : Nat) : Int) := (Int.natCast_mul n k).symm
  clear h hj
  generalize hN : n * k = N at *
  clear hN
  go_enter Try.func25, Try.ntmps25
  go_wp2_with (go_at_call 31; refine (may_yes _ _ (by omega) (by omega)).mono ?_; rintro e w' ⟨rfl, rfl⟩)
  refine (just_any _ _ _ l N _ H.out hm (by omega)).mono ?_
  rintro e w1 ⟨rfl, rfl⟩
  go_wp2
  go_ret2
  exact ⟨rfl, rfl⟩

/-- The numbers that bytes are, of so many bits each; so many of them as cells, and zeros behind them. -/
def nums (l : List Nat) (n k : Nat) : List Int := (List.range n).map fun i => ((getV l (i * k) k : Nat) : Int)
def some0 (l : List Nat) (n k j : Nat) : List Value := (nums l j k).map (Value.int .u64) ++ List.replicate (n - j) (.int .u64 0)
theorem nums_length (l : List Nat) (n k : Nat) : (nums l n k).length = n := by simp [nums]
theorem nums_succ (l : List Nat) (n k : Nat) : nums l (n + 1) k = nums l n k ++ [((getV l (n * k) k : Nat) : Int)] := by simp [nums, List.range_succ]
theorem some0_zero (l : List Nat) (n k : Nat) : some0 l n k 0 = List.replicate n (.int .u64 0) := by simp [some0, nums]
theorem some0_all (l : List Nat) (n k : Nat) : some0 l n k n = (nums l n k).map (Value.int .u64) := by simp [some0]
theorem some0_set (l : List Nat) (n k j : Nat) (h : j < n) : (some0 l n k j).set j (.int .u64 ((getV l (j * k) k : Nat) : Int)) = some0 l n k (j + 1) := by
  unfold some0
  rw [List.set_append_right _ _ (by simp [nums_length]), nums_succ]
  simp only [List.length_map, nums_length, Nat.sub_self, List.map_append, List.append_assoc]
  rw [show n - j = (n - (j + 1)) + 1 by omega, List.replicate_succ, List.set_cons_zero]
  rfl

theorem some0_at (l : List Nat) (n k j : Nat) (h : j < n) : (some0 l n k j)[j]? = some (.int .u64 0) := by
  unfold some0
  rw [List.getElem?_append_right (by simp [nums_length])]
  simp only [List.length_map, nums_length, Nat.sub_self]
  rw [show n - j = (n - j - 1) + 1 by omega, List.replicate_succ]
  rfl

set_option maxHeartbeats 1000000 in
theorem unpack_yes (ao : Option Addr) (len cap : Nat) (l : List Nat) (n k : Nat) (w : World) (h : Sl w .u8 ao len cap (ints l)) (h256 : ∀ x ∈ l, x < 256) (hm : len ≤ 140737488355328) (hn : n ≤ 1048576) (hk : k ≤ 64) (hj : jb l (n * k) = 0) :
    Calls Try.prog 25 #[.slice ao len cap, .int .i64 n, .int .i64 k] w fun e w' => ∃ v', e = .returned (.tuple #[v', .int .i64 0]) ∧ w'.ownsRow w.heap.size 56 1 v' n ((nums l n k).map (Value.int .u64)) ∧ Below w.heap.size w w' := by
  have hnk : n * k ≤ 1048576 * 64 := Nat.mul_le_mul hn hk
  have hlen : l.length = len := by rw [← h.1, ints_length]
  have hfit : n * k ≤ 8 * l.length := by have := (jb_zero hj).1; omega
  have HFIT : Hid (∀ j, j < n → j * k + k ≤ 8 * l.length) := by
    intro j hj
    have : (j + 1) * k ≤ n * k := Nat.mul_le_mul_right k hj
    rw [Nat.add_mul] at this
    omega
  have H := hide h
  have H2 := hide h256
  have hd : decide ((n : Int) < 0) = false := by simp
  have hi : (n : Int) * (k : Int) = ((n * k : Nat) : Int) := (Int.natCast_mul n k).symm
  obtain ⟨i0, hi0, hz0, hz1, hz2⟩ := info_parts Try.infoU64
  have HI := hide hi
  clear h h256 hfit
  generalize hN : n * k = N at hnk hj hi
  clear hN
  go_enter Try.func25, Try.ntmps25
  go_wp2_with (go_at_call 31; refine (may_yes _ _ (by omega) (by omega)).mono ?_; rintro e w' ⟨rfl, rfl⟩)
  refine (just_any _ _ _ l N _ H.out hm (by omega)).mono ?_
  rintro e w1 ⟨rfl, rfl⟩
  rw [hj]
  clear hj hi
  go_wp2_with fail
  refine (from_any _ _ _ l _ H.out hm).mono ?_
  rintro e w2 ⟨p, v, rfl, hr, hp, hv, hb⟩
  have hs := hb.size
  go_wp2_with (at_make; refine wpList_make_full _ rfl _ _ 53 rfl w2.heap.size 56 i0 (.int .u64 0) 1 Try.underlying53 hi0 hz0 hz1 _ _ _ _ n rfl rfl rfl rfl (by rw [hz2]; omega) (by unfold maxLen; omega) (Nat.le_refl _) ?_)
  intro w3 ho hg
  have hr3 : Rd w3 p v l 0 := hr.kept ((Kept.refl (fun _ => False) _).grown hg (by simp)) (by simp) (by simp)
  have hb3 : Below w1.heap.size w1 w3 := hb.grown hg hs (by simp)
  have hpg := hr.lt
  have HVG : Hid (∀ g, v.ownBlock = some g → g ≠ w2.heap.size) := fun g hg => by have := (owns_lt hr.2.1 hg).2; omega
  have ho3 : w3.ownsRow w1.heap.size 56 1 (.slice (some ⟨w2.heap.size, 0, none⟩) n n) n (some0 l n k 0) := by
    rw [some0_zero]
    have h := owns_base (base' := w1.heap.size) ho (fun g hg => by have := (owns_lt ho hg).1; omega)
    rw [toList_madeCells_one] at h
    exact h
  clear hr hb ho hg hv
  go_wp2_with fail
  go_loopw [37] (fun i wr => ∃ j : Nat, j ≤ n ∧ i = .int .i64 j ∧ Rd wr p v l (j * k) ∧ wr.ownsRow w1.heap.size 56 1 (.slice (some ⟨w2.heap.size, 0, none⟩) n n) n (some0 l n k j) ∧ Below w1.heap.size w1 wr) (fun i _ => n - (intOf i).toNat)
  case atStart => exact ⟨0, Nat.zero_le _, rfl, by simpa using hr3, ho3, hb3⟩
  case round =>
    obtain ⟨j, hj, rfl, hrr, hor, hbr⟩ := hrel
    by_cases hlt : j < n
    · go_wp2_with fail
      refine (get_yes p v l (j * k) k wr hrr (by omega) H2.out hk (HFIT.out j hlt)).mono ?_
      rintro e w4 ⟨rfl, hr4, hk4⟩
      have ho4 := owns_of_block hor (fun g hg => hk4.block g (owns_lt hor hg).2 (by simp [Value.ownBlock] at hg; omega))
      have hb4 : Below w1.heap.size w1 w4 := hbr.trans (hk4.below (by have := hbr.size; omega) (by intro x hx; omega))
      have hc4 := ho4.cellAt j (by omega)
      rw [some0_at l n k j hlt] at hc4
      have hf4 := ho4.frozenAt j
      have HO := hide (ho4.stored j (.int .u64 ((getV l (j * k) k : Nat) : Int))).1
      have HB := hide hb4
      have HR := hide hr4
      clear ho4 hb4 hr4 hk4 hrr hor hbr
      go_wp2
      go_roundw
      case rel =>
        refine ⟨j + 1, by omega, by go_num, ?_, ?_, ?_⟩
        · rw [Nat.add_mul, Nat.one_mul]
          obtain ⟨h1, h2, h3⟩ := HR.out
          refine ⟨?_, ownsRow_setCell_other h2 (fun e => HVG.out _ e rfl) _, h3⟩
          rw [Below.heap_setCell _ _ _ _ (by show p ≠ w2.heap.size; omega)]; exact h1
        · rw [← some0_set l n k j hlt]; exact HO.out
        · exact HB.out.setCell (by show w1.heap.size ≤ w2.heap.size; omega) _
      case measure => simp [intOf]; omega
    · have hjn : j = n := by omega
      subst hjn
      go_wp2
      go_ret2
      rw [some0_all] at hor
      exact ⟨_, rfl, hor, hbr⟩
end Go.Proofs.Ytbgofbajihdjdaa

/- The contracts of justBits and of Unpack. -/
import Derived.Test.YtmhfpipeoojacaaBdB
import Derived.Test.YtmhfpipeoojacaaBdZB
import Derived.Test.YtmhfpipeoojacaaBdX
import Derived.Test.YtmhfpipeoojacaaBdZC
import Derived.Test.YtmhfpipeoojacaaBdDictBackE
namespace Go.Proofs.Ytmhfpipeoojacaa
set_option linter.unusedVariables false
set_option maxRecDepth 10000
open Go.RowKit

set_option maxHeartbeats 400000 in
theorem just_any (ao : Option Addr) (len cap : Nat) (l : List Nat) (n : Nat) (w : World) (h : Sl w .u8 ao len cap (ints l)) (hm : len ≤ 140737488355328) (hn : n ≤ 1099511627776) :
    Calls Try.prog 78 #[.slice ao len cap, .int .i64 n] w fun e w' => e = .returned (.int .i64 ((jb l n : Nat) : Int)) ∧ w' = w := by
  have hlen : l.length = len := by rw [← h.1, ints_length]
  by_cases h1 : len < (n + 7) / 8
  · have hj : jb l n = 3 := by unfold jb; rw [hlen, if_pos h1]
    rw [hj]
    go_enter Try.func78, Try.ntmps78
    go_wp2
    go_ret
    exact ⟨rfl, rfl⟩
  · by_cases h2 : (n + 7) / 8 < len
    · have hj : jb l n = 4 := by unfold jb; rw [hlen, if_neg h1, if_pos h2]
      rw [hj]
      go_enter Try.func78, Try.ntmps78
      go_wp2
      go_ret
      exact ⟨rfl, rfl⟩
    · by_cases h3 : n % 8 = 0
      · have hj : jb l n = 0 := by unfold jb; rw [hlen, if_neg h1, if_neg h2, if_neg (by simp [h3])]
        rw [hj]
        have hb : ((n : Int) % 8 != 0) = false := by simp; omega
        go_enter Try.func78, Try.ntmps78
        go_wp2
        go_ret
        exact ⟨rfl, rfl⟩
      · have hb : ((n : Int) % 8 != 0) = true := by simp; omega
        obtain ⟨b, off, hao, hblt, hc⟩ : ∃ b off, ao = some ⟨b, off, none⟩ ∧ b < w.heap.size ∧ ∀ i, i < len → w.cell? ⟨b, off + i, none⟩ = some (.int .u8 ((ints l).getD i 0)) := by
          rcases h.2.2.2.2 with h | h
          · omega
          · exact h
        have hck := hc ((n + 7) / 8 - 1) (by omega)
        rw [ints_getD] at hck
        have hj : jb l n = if l.getD ((n + 7) / 8 - 1) 0 / 2 ^ (n % 8) ≠ 0 then 4 else 0 := by unfold jb; rw [hlen, if_neg h1, if_neg h2]; simp [h3]
        generalize l.getD ((n + 7) / 8 - 1) 0 = y at hck hj
        subst hao
        clear hc h
        by_cases h4 : y / 2 ^ (n % 8) = 0
        · have h5 : ((y : Int) / 2 ^ (n % 8) != 0) = false := by
            rw [← pow_int, ← Int.natCast_ediv, h4]; rfl
          rw [hj, if_neg (by simp [h4])]
          clear hj h4
          go_enter Try.func78, Try.ntmps78
          go_wp2
          go_ret
          exact ⟨rfl, rfl⟩
        · have h5 : ((y : Int) / 2 ^ (n % 8) != 0) = true := by
            rw [← pow_int, ← Int.natCast_ediv, bne_iff_ne]; omega
          rw [hj, if_pos h4]
          clear hj h4
          go_enter Try.func78, Try.ntmps78
          go_wp2
          go_ret
          exact ⟨rfl, rfl⟩

set_option maxHeartbeats 400000 in
theorem unpack_arg (ao : Option Addr) (len cap : Nat) (n k : Int) (w : World) (h : k < 0 ∨ 64 < k ∨ n < 0 ∨ 1048576 < n) :
    Calls Try.prog 58 #[.slice ao len cap, .int .i64 n, .int .i64 k] w fun e w' => e = .returned (.tuple #[.slice none 0 0, .int .i64 1]) ∧ w' = w := by
  by_cases hk : k < 0 ∨ 64 < k
  · clear h
    go_enter Try.func58, Try.ntmps58
    go_wp2_with (go_at_call 51; refine (may_no _ _ hk).mono ?_; rintro e w' ⟨rfl, rfl⟩)
    go_ret2
    exact ⟨rfl, rfl⟩
  · have hk0 : 0 ≤ k := by omega
    have hk1 : k ≤ 64 := by omega
    rcases (show n < 0 ∨ (0 ≤ n ∧ 1048576 < n) by omega) with hn | ⟨hn0, hn⟩
    all_goals
      clear h hk
      go_enter Try.func58, Try.ntmps58
      go_wp2_with (go_at_call 51; refine (may_yes _ _ (by omega) (by omega)).mono ?_; rintro e w' ⟨rfl, rfl⟩)
      go_ret2
      exact ⟨rfl, rfl⟩

set_option maxHeartbeats 400000 in
theorem unpack_no (ao : Option Addr) (len cap : Nat) (l : List Nat) (n k : Nat) (w : World) (h : Sl w .u8 ao len cap (ints l)) (hm : len ≤ 140737488355328) (hn : n ≤ 1048576) (hk : k ≤ 64) (hj : jb l (n * k) ≠ 0) :
    Calls Try.prog 58 #[.slice ao len cap, .int .i64 n, .int .i64 k] w fun e w' => e = .returned (.tuple #[.slice none 0 0, .int .i64 ((jb l (n * k) : Nat) : Int)]) ∧ w' = w := by
  have hnk : n * k ≤ 1048576 * 64 := Nat.mul_le_mul hn hk
  have hb : (((jb l (n * k) : Nat) : Int) != 0) = true := by rw [bne_iff_ne]; omega
  have H := hide h
  have hi : (n : Int) * (k : Int) = ((n * k : Nat) : Int) := (Int.natCast_mul n k).symm
  clear h hj
  generalize hN : n * k = N at *
  clear hN
  go_enter Try.func58, Try.ntmps58
  go_wp2_with (go_at_call 51; refine (may_yes _ _ (by omega) (by omega)).mono ?_; rintro e w' ⟨rfl, rfl⟩)
  refine (just_any _ _ _ l N _ H.out hm (by omega)).mono ?_
  rintro e w1 ⟨rfl, rfl⟩
  go_wp2
  go_ret2
  exact ⟨rfl, rfl⟩

def some0 (l : List Nat) (n k j : Nat) : List Value := (nums l j k).map (Value.int .u64) ++ List.replicate (n - j) (.int .u64 0)
theorem some0_zero (l : List Nat) (n k : Nat) : some0 l n k 0 = List.replicate n (.int .u64 0) := by simp [some0, nums]
theorem some0_all (l : List Nat) (n k : Nat) : some0 l n k n = (nums l n k).map (Value.int .u64) := by simp [some0]
theorem some0_set (l : List Nat) (n k j : Nat) (h : j < n) : (some0 l n k j).set j (.int .u64 ((getV l (j * k) k : Nat) : Int)) = some0 l n k (j + 1) := by
  unfold some0
  rw [List.set_append_right _ _ (by simp [nums_length]), nums_succ]
  simp only [List.length_map, nums_length, Nat.sub_self, List.map_append, List.append_assoc]
  rw [show n - j = (n - (j + 1)) + 1 by omega, List.replicate_succ, List.set_cons_zero]
  rfl

theorem some0_at (l : List Nat) (n k j : Nat) (h : j < n) : (some0 l n k j)[j]? = some (.int .u64 0) := by
  unfold some0
  rw [List.getElem?_append_right (by simp [nums_length])]
  simp only [List.length_map, nums_length, Nat.sub_self]
  rw [show n - j = (n - j - 1) + 1 by omega, List.replicate_succ]
  rfl

set_option maxRecDepth 10000 in
set_option maxHeartbeats 1000000 in
theorem unpack_yes (ao : Option Addr) (len cap : Nat) (l : List Nat) (n k : Nat) (w : World) (h : Sl w .u8 ao len cap (ints l)) (h256 : ∀ x ∈ l, x < 256) (hm : len ≤ 140737488355328) (hn : n ≤ 1048576) (hk : k ≤ 64) (hj : jb l (n * k) = 0) :
    Calls Try.prog 58 #[.slice ao len cap, .int .i64 n, .int .i64 k] w fun e w' => ∃ v', e = .returned (.tuple #[v', .int .i64 0]) ∧ w'.ownsRow w.heap.size 44 1 v' n ((nums l n k).map (Value.int .u64)) ∧ Below w.heap.size w w' := by
  have hnk : n * k ≤ 67108864 := Nat.mul_le_mul hn hk
  have hlen : l.length = len := by rw [← h.1, ints_length]
  have hfit : n * k ≤ 8 * l.length := by have := (jb_zero hj).1; omega
  have HFIT : Hid (∀ j, j < n → j * k + k ≤ 8 * l.length) := by
    intro j hj
    have : (j + 1) * k ≤ n * k := Nat.mul_le_mul_right k hj
    rw [Nat.add_mul] at this
    omega
  have H := hide h
  have H2 := hide h256
  have hd : decide ((n : Int) < 0) = false := by simp
  have hi : (n : Int) * (k : Int) = ((n * k : Nat) : Int) := (Int.natCast_mul n k).symm
  obtain ⟨i0, hi0, hz0, hz1, hz2⟩ := info_parts Try.infoU64
  have HI := hide hi
  clear h h256 hfit
  generalize hN : n * k = N at hnk hj hi
  clear hN
  go_enter Try.func58, Try.ntmps58
  go_wp2_with (go_at_call 51; refine (may_yes _ _ (by omega) (by omega)).mono ?_; rintro e w' ⟨rfl, rfl⟩)
  refine (just_any _ _ _ l N _ H.out hm (by omega)).mono ?_
  rintro e w1 ⟨rfl, rfl⟩
  rw [hj]
  clear hj hi
  go_wp2_with fail
  refine (from_any _ _ _ l _ H.out hm).mono ?_
  rintro e w2 ⟨p, v, rfl, hr, hp, hv, hb⟩
  have hs := hb.size
  go_wp2_with (at_make; refine wpList_make_full _ rfl _ _ 27 rfl w2.heap.size 44 i0 (.int .u64 0) 1 Try.underlying27 hi0 hz0 hz1 _ _ _ _ n rfl rfl rfl rfl (by rw [hz2]; omega) (by unfold maxLen; omega) (Nat.le_refl _) ?_)
  intro w3 ho hg
  have hr3 : Rd w3 p v l 0 := hr.kept ((Kept.refl (fun _ => False) _).grown hg (by simp)) (by simp) (by simp)
  have hb3 : Below w1.heap.size w1 w3 := hb.grown hg hs (by simp)
  have hpg := hr.lt
  have HVG : Hid (∀ g, v.ownBlock = some g → g ≠ w2.heap.size) := fun g hg => by have := (owns_lt hr.2.1 hg).2; omega
  have ho3 : w3.ownsRow w1.heap.size 44 1 (.slice (some ⟨w2.heap.size, 0, none⟩) n n) n (some0 l n k 0) := by
    rw [some0_zero]
    have h := owns_base (base' := w1.heap.size) ho (fun g hg => by have := (owns_lt ho hg).1; omega)
    rw [toList_madeCells_one] at h
    exact h
  clear hr hb ho hg hv
  go_wp2_with fail
  go_loopw [37] (fun i wr => ∃ j : Nat, j ≤ n ∧ i = .int .i64 j ∧ Rd wr p v l (j * k) ∧ wr.ownsRow w1.heap.size 44 1 (.slice (some ⟨w2.heap.size, 0, none⟩) n n) n (some0 l n k j) ∧ Below w1.heap.size w1 wr) (fun i _ => n - (intOf i).toNat)
  case atStart => exact ⟨0, Nat.zero_le _, rfl, by simpa using hr3, ho3, hb3⟩
  case round =>
    obtain ⟨j, hj, rfl, hrr, hor, hbr⟩ := hrel
    by_cases hlt : j < n
    · go_wp2_with fail
      refine (get_yes p v l (j * k) k wr hrr (by omega) H2.out hk (HFIT.out j hlt)).mono ?_
      rintro e w4 ⟨rfl, hr4, hk4⟩
      have ho4 := owns_of_block hor (fun g hg => hk4.block g (owns_lt hor hg).2 (by simp [Value.ownBlock] at hg; omega))
      have hb4 : Below w1.heap.size w1 w4 := hbr.trans (hk4.below (by have := hbr.size; omega) (by intro x hx; omega))
      have hc4 := ho4.cellAt j (by omega)
      rw [some0_at l n k j hlt] at hc4
      have hf4 := ho4.frozenAt j
      have HO := hide (ho4.stored j (.int .u64 ((getV l (j * k) k : Nat) : Int))).1
      have HB := hide hb4
      have HR := hide hr4
      clear ho4 hb4 hr4 hk4 hrr hor hbr
      go_wp2
      go_roundw
      case rel =>
        refine ⟨j + 1, by omega, by go_num, ?_, ?_, ?_⟩
        · rw [Nat.add_mul, Nat.one_mul]
          obtain ⟨h1, h2, h3⟩ := HR.out
          refine ⟨?_, ownsRow_setCell_other h2 (fun e => HVG.out _ e rfl) _, h3⟩
          rw [Below.heap_setCell _ _ _ _ (by show p ≠ w2.heap.size; omega)]; exact h1
        · rw [← some0_set l n k j hlt]; exact HO.out
        · exact HB.out.setCell (by show w1.heap.size ≤ w2.heap.size; omega) _
      case measure => simp [intOf]; omega
    · have hjn : j = n := by omega
      subst hjn
      go_wp2
      go_ret2
      rw [some0_all] at hor
      exact ⟨_, rfl, hor, hbr⟩
end Go.Proofs.Ytmhfpipeoojacaa
/- The contracts of the document's answer for bits: Fits, Bytes, Bits. -/
namespace Go.Proofs.Ytmhfpipeoojacaa
set_option linter.unusedVariables false
set_option maxRecDepth 10000
open Go.RowKit
/-- A number without its lowest bits. -/
def sh (n j : Nat) : Nat := n / 2 ^ j
theorem sh_zero (n : Nat) : sh n 0 = n := by simp [sh]
theorem sh_succ (n j : Nat) : sh n (j + 1) = sh n j / 2 := by simp [sh, Nat.pow_succ, Nat.div_div_eq_div_mul]
theorem sh_le (n j : Nat) : sh n j ≤ n := Nat.div_le_self _ _
theorem sh_bit (n j : Nat) : A.bitsOf n (j + 1) = A.bitsOf n j ++ [sh n j % 2 == 1] := A.bitsOf_succ n j

/-- The bits of the first bytes, and some of the next one. -/
def bitsTo (l : List Nat) (j q : Nat) : List Bool := A.bitsB (l.take j) ++ A.bitsOf (l.getD j 0) q
theorem bitsTo_zero (l : List Nat) (j : Nat) : bitsTo l j 0 = A.bitsB (l.take j) := by simp [bitsTo, A.bitsOf]
theorem bitsTo_next (l : List Nat) (j : Nat) (h : j < l.length) : bitsTo l (j + 1) 0 = bitsTo l j 8 := by
  rw [bitsTo_zero, List.take_succ_eq_append_getElem h, A.bitsB_append]
  simp [bitsTo, A.bitsB, List.getD, h]
theorem bitsTo_succ (l : List Nat) (j q : Nat) : bitsTo l j (q + 1) = bitsTo l j q ++ [sh (l.getD j 0) q % 2 == 1] := by
  unfold bitsTo; rw [sh_bit, List.append_assoc]
theorem bitsTo_length (l : List Nat) (j q : Nat) (h : j ≤ l.length) : (bitsTo l j q).length = 8 * j + q := by
  unfold bitsTo; rw [List.length_append, A.bitsB_length, A.bitsOf_length, List.length_take]; omega

/-- The bytes of the first bits. -/
def bytesTo (bs : List Bool) (j : Nat) : List Nat := A.bytesOf (bs.take j)
theorem bytesTo_zero (bs : List Bool) : bytesTo bs 0 = [] := by simp [bytesTo, A.bytesOf]
theorem bytesTo_length (bs : List Bool) (j : Nat) (h : j ≤ bs.length) : (bytesTo bs j).length = (j + 7) / 8 := by
  unfold bytesTo; rw [A.bytesOf_length, List.length_take, Nat.min_eq_left h]
theorem bytesTo_new (bs : List Bool) (j : Nat) (h : j < bs.length) (h8 : j % 8 = 0) : bytesTo bs (j + 1) = bytesTo bs j ++ [(bs.getD j false).toNat] := by
  unfold bytesTo
  have hl : (bs.take j).length = j := by rw [List.length_take]; omega
  rw [take_snocB bs j h, A.bytesOf_snoc_new _ _ (by rw [hl]; exact h8)]
theorem bytesTo_old (bs : List Bool) (j : Nat) (h : j < bs.length) (h8 : j % 8 ≠ 0) : bytesTo bs (j + 1) = (bytesTo bs j).set (j / 8) ((bytesTo bs j).getD (j / 8) 0 + (bs.getD j false).toNat * 2 ^ (j % 8)) ∧ (bytesTo bs j).getD (j / 8) 0 < 2 ^ (j % 8) := by
  unfold bytesTo
  have hl : (bs.take j).length = j := by rw [List.length_take]; omega
  have e : (j + 7) / 8 - 1 = j / 8 := by omega
  have h1 := A.bytesOf_snoc_old (bs.take j) (bs.getD j false) (by rw [hl]; exact h8)
  have h2 := A.last_lt (bs.take j) (by rw [hl]; exact h8)
  rw [hl, e] at h1 h2
  rw [take_snocB bs j h]
  exact ⟨h1, h2⟩

theorem set_self (l : List Nat) (i : Nat) : l.set i (l.getD i 0) = l := by
  by_cases h : i < l.length
  · simp [List.getD, h]
  · exact List.set_eq_of_length_le (by omega)
theorem pow8 (p : Nat) (h : p < 8) : ((2 : Int) ^ p) ≤ 128 ∧ 1 ≤ ((2 : Int) ^ p) := by
  have h1 : 2 ^ p ≤ 2 ^ 7 := Nat.pow_le_pow_right (by omega) (by omega)
  have h2 : 1 ≤ 2 ^ p := Nat.one_le_two_pow
  rw [← pow_int]
  omega
theorem weight_next (j : Nat) (c : Int) (hc : j % 8 ≠ 0 → c = 2 ^ (j % 8)) (h : j % 8 ≠ 0) : (j + 1) % 8 ≠ 0 → IntKind.u8.wrap (c * 2) = 2 ^ ((j + 1) % 8) := by
  intro h1
  have e : (j + 1) % 8 = j % 8 + 1 := by omega
  have h2 := pow8 (j % 8 + 1) (by omega)
  rw [e, hc h]
  rw [Int.pow_succ] at h2 ⊢
  rw [IntKind.wrap_u8']
  omega

end Go.Proofs.Ytmhfpipeoojacaa
/- The contracts of the document's answer for bits: Width, Pack. -/
namespace Go.Proofs.Ytmhfpipeoojacaa
set_option linter.unusedVariables false
set_option maxRecDepth 10000
open Go.RowKit

theorem fits_iff (x : Int) (k : Nat) (h0 : 0 ≤ x) : (sh x.toNat k == 0) = decide (x < (2 : Int) ^ k) := by
  have hp : 0 < 2 ^ k := Nat.two_pow_pos k
  rw [Bool.eq_iff_iff, beq_iff_eq, decide_eq_true_iff, ← pow_int]
  unfold sh
  constructor
  · intro h
    rcases Nat.div_eq_zero_iff.1 h with h1 | h1 <;> omega
  · intro h
    exact Nat.div_eq_of_lt (by omega)

end Go.Proofs.Ytmhfpipeoojacaa
/- The contract of the document's answer for bits: Pack. -/
namespace Go.Proofs.Ytmhfpipeoojacaa
set_option linter.unusedVariables false
set_option maxRecDepth 10000
open Go.RowKit

/-- The bits of the first numbers, and some of the next one. -/
def bt (l : List Int) (k j q : Nat) : List Bool := bitsAll (l.take j) k ++ A.bitsOf (l.getD j 0).toNat q
theorem bt_zero (l : List Int) (k j : Nat) : bt l k j 0 = bitsAll (l.take j) k := by simp [bt, A.bitsOf]
theorem bt_next (l : List Int) (k j : Nat) (h : j < l.length) : bt l k (j + 1) 0 = bt l k j k := by
  rw [bt_zero, take_snocD l j h, bitsAll_snoc]; rfl
theorem bt_succ (l : List Int) (k j q : Nat) : bt l k j (q + 1) = bt l k j q ++ [sh (l.getD j 0).toNat q % 2 == 1] := by
  unfold bt; rw [sh_bit, List.append_assoc]
theorem bt_le (l : List Int) (k j q : Nat) (hk : k ≤ 64) (hq : q ≤ k) : (bt l k j q).length ≤ l.length * 64 + 64 := by
  unfold bt
  have := bitsAll_le l k j hk
  rw [List.length_append, A.bitsOf_length]; omega

end Go.Proofs.Ytmhfpipeoojacaa
/- The contracts of the document's answer for bits: Get, Unpack. -/
namespace Go.Proofs.Ytmhfpipeoojacaa
set_option linter.unusedVariables false
set_option maxRecDepth 10000
open Go.RowKit

/-- The number of so many bits' last ones. -/
def topV (bs : List Bool) (k j : Nat) : Nat := A.valOf ((bs.take k).drop (k - j))
theorem topV_zero (bs : List Bool) (k : Nat) : topV bs k 0 = 0 := by
  unfold topV; rw [List.drop_of_length_le (by rw [List.length_take]; omega)]; rfl
theorem topV_all (bs : List Bool) (k : Nat) : topV bs k k = A.valOf (bs.take k) := by unfold topV; simp
theorem topV_succ (bs : List Bool) (k j : Nat) (hk : k ≤ bs.length) (hj : j < k) : topV bs k (j + 1) = 2 * topV bs k j + (bs.getD (k - 1 - j) false).toNat := by
  unfold topV
  have hl : k - (j + 1) < (bs.take k).length := by rw [List.length_take]; omega
  rw [← List.getElem_cons_drop (h := hl), show k - (j + 1) + 1 = k - j by omega]
  simp only [A.valOf]
  have e : (bs.take k)[k - (j + 1)] = bs.getD (k - 1 - j) false := by
    simp [List.getD, show k - 1 - j < bs.length by omega, show k - (j + 1) = k - 1 - j by omega]
  rw [e]; omega
theorem topV_lt (bs : List Bool) (k j : Nat) (hj : j ≤ k) : topV bs k j < 2 ^ j := by
  unfold topV
  have h1 := A.valOf_lt ((bs.take k).drop (k - j))
  have h2 : ((bs.take k).drop (k - j)).length ≤ j := by rw [List.length_drop, List.length_take]; omega
  exact Nat.lt_of_lt_of_le h1 (Nat.pow_le_pow_right (by omega) h2)

end Go.Proofs.Ytmhfpipeoojacaa
/- The contract of the document's answer for bits: Unpack. -/
namespace Go.Proofs.Ytmhfpipeoojacaa
set_option linter.unusedVariables false
set_option maxRecDepth 10000
open Go.RowKit

theorem tail_false (l : List Nat) (n : Nat) (hl : l.length = (n + 7) / 8) (hj : jb l n = 0) (i : Nat) (h1 : n ≤ i) (h2 : i < 8 * l.length) : (A.bitsB l).getD i false = false := by
  have hz := (jb_zero hj).2 (by omega)
  have h3 := A.bitsB_getD l i h2
  have e1 : i / 8 = (n + 7) / 8 - 1 := by omega
  have e2 : i % 8 = n % 8 + (i - n) := by omega
  rw [e1, e2] at h3
  have h4 : l.getD ((n + 7) / 8 - 1) 0 < 2 ^ (n % 8) := by
    rcases Nat.lt_or_ge (l.getD ((n + 7) / 8 - 1) 0) (2 ^ (n % 8)) with h | h
    · exact h
    · have := Nat.div_pos h (Nat.two_pow_pos (n % 8)); omega
  have h5 : l.getD ((n + 7) / 8 - 1) 0 / 2 ^ (n % 8 + (i - n)) = 0 := Nat.div_eq_of_lt (Nat.lt_of_lt_of_le h4 (Nat.pow_le_pow_right (by omega) (by omega)))
  rw [h3, h5]; rfl

theorem tail_zero (l : List Nat) (n : Nat) (hl : l.length = (n + 7) / 8) (h256 : ∀ x ∈ l, x < 256) (h : ∀ i, n ≤ i → i < 8 * l.length → (A.bitsB l).getD i false = false) : jb l n = 0 := by
  unfold jb
  rw [if_neg (by omega), if_neg (by omega), if_neg]
  rintro ⟨h8, hy⟩
  have hlast : (n + 7) / 8 - 1 < l.length := by omega
  have hy256 : l.getD ((n + 7) / 8 - 1) 0 < 256 := by
    have : l.getD ((n + 7) / 8 - 1) 0 = l[(n + 7) / 8 - 1] := by simp [List.getD, hlast]
    rw [this]; exact h256 _ (List.getElem_mem _)
  generalize hY : l.getD ((n + 7) / 8 - 1) 0 = y at hy hy256
  have hge : 2 ^ (n % 8) ≤ y := by
    rcases Nat.lt_or_ge y (2 ^ (n % 8)) with h' | h'
    · exact absurd (Nat.div_eq_of_lt h') hy
    · exact h'
  have hy0 : y ≠ 0 := by have := Nat.two_pow_pos (n % 8); omega
  have hlog : y.log2 < 8 := (Nat.log2_lt hy0).2 (by omega)
  have hlg : n % 8 ≤ y.log2 := (Nat.le_log2 hy0).2 hge
  have hb := h (n - n % 8 + y.log2) (by omega) (by omega)
  rw [A.bitsB_getD l _ (by omega)] at hb
  have e1 : (n - n % 8 + y.log2) / 8 = (n + 7) / 8 - 1 := by omega
  have e2 : (n - n % 8 + y.log2) % 8 = y.log2 := by omega
  rw [e1, e2, hY] at hb
  have hs := Nat.log2_self_le hy0
  have ht : y < 2 ^ (y.log2 + 1) := Nat.lt_log2_self
  have hd : y / 2 ^ y.log2 = 1 := by
    rw [Nat.pow_succ] at ht
    have hp := Nat.two_pow_pos y.log2
    have h1 : 1 ≤ y / 2 ^ y.log2 := (Nat.le_div_iff_mul_le hp).2 (by omega)
    have h2 : y / 2 ^ y.log2 < 2 := (Nat.div_lt_iff_lt_mul hp).2 (by omega)
    omega
  rw [hd] at hb
  simp at hb

end Go.Proofs.Ytmhfpipeoojacaa
/- The contract of the document's answer for bits: Unpack, where the bytes are as many as needed. -/
namespace Go.Proofs.Ytmhfpipeoojacaa
set_option linter.unusedVariables false
set_option maxRecDepth 10000
open Go.RowKit

theorem getV_drop (l : List Nat) (pos k : Nat) : A.valOf (((A.bitsB l).drop pos).take k) = getV l pos k := rfl

/-- What stands from a place on. -/
theorem Sb.cut_end {w : World} {ao : Option Addr} {n M : Nat} {bs : List Bool} (h : Sb w ao n M bs) : Sb w ao (n - M) 0 (bs.drop M) := by
  obtain ⟨h1, h2, h3, h4, h5⟩ := h
  exact ⟨by rw [List.length_drop]; omega, by omega, by simp [maxLen], fun _ => rfl, .inl (by omega)⟩
theorem Sb.cut_in {w : World} {ao : Option Addr} {n cap M : Nat} {bs : List Bool} (h : Sb w ao n cap bs) (hM : M ≤ n) : Sb w (Option.map (fun x => x.add M) ao) (n - M) (cap - M) (bs.drop M) := by
  obtain ⟨h1, h2, h3, h4, h5⟩ := h
  refine ⟨by rw [List.length_drop]; omega, by omega, by omega, by intro h; cases ao with | none => have := h4 rfl; omega | some x => simp at h, ?_⟩
  by_cases h0 : n - M = 0
  · exact .inl h0
  · rcases h5 with h5 | ⟨b, off, rfl, hlt, h5⟩
    · omega
    · refine .inr ⟨b, off + M, by simp [Addr.add], hlt, fun i hi => ?_⟩
      rw [Nat.add_assoc, h5 (M + i) (by omega)]
      simp [List.getD]

end Go.Proofs.Ytmhfpipeoojacaa
/- Plain facts: what was packed is unpacked, what is unpacked is packed as the very bytes; the walks of the two statements that say so. -/
namespace Go.Proofs.Ytmhfpipeoojacaa
set_option linter.unusedVariables false
set_option maxRecDepth 10000
open Go.RowKit

end Go.Proofs.Ytmhfpipeoojacaa
/- The walk of the statement: what was packed is unpacked. -/
namespace Go.Proofs.Ytmhfpipeoojacaa
set_option linter.unusedVariables false
set_option maxRecDepth 10000
open Go.RowKit

/-- Pack, with a width that may be, as a whole number. -/
theorem pack_i (ao : Option Addr) (len cap : Nat) (l : List Int) (k : Int) (w : World) (h : Sl w .u64 ao len cap l) (hm : len * 64 + 64 < 1099511627776) (hin : In64 l) (hk0 : 0 ≤ k) (hk : k ≤ 64) :
    Calls Try.prog 27 #[.slice ao len cap, .int .i64 k] w fun e w' =>
      (Fit l k.toNat ∧ ∃ v', e = .returned (.tuple #[v', .int .i64 0]) ∧ w'.ownsRow w.heap.size 5 1 v' (A.bytesOf (bitsAll l k.toNat)).length (B8 (A.bytesOf (bitsAll l k.toNat))) ∧ Below w.heap.size w w') ∨
      (¬ Fit l k.toNat ∧ e = .returned (.tuple #[.slice none 0 0, .int .i64 1]) ∧ Below w.heap.size w w') := by
  obtain ⟨j, rfl⟩ := Int.eq_ofNat_of_zero_le hk0
  rw [Int.toNat_natCast]
  exact pack_any ao len cap l j w h hm hin (by omega)

/-- Unpack of what was packed. -/
theorem unpack_pack (ao : Option Addr) (len cap : Nat) (l : List Int) (n k : Int) (w : World) (h : Sl w .u8 ao len cap (ints (A.bytesOf (bitsAll l k.toNat)))) (hl : n = (l.length : Int)) (hm : l.length ≤ 1048576) (hin : In64 l) (hk0 : 0 ≤ k) (hk : k ≤ 64) (hf : Fit l k.toNat) :
    Calls Try.prog 58 #[.slice ao len cap, .int .i64 n, .int .i64 k] w fun e w' => ∃ v', e = .returned (.tuple #[v', .int .i64 0]) ∧ w'.ownsRow w.heap.size 44 1 v' l.length (l.map (Value.int .u64)) ∧ Below w.heap.size w w' := by
  subst hl
  obtain ⟨j, rfl⟩ := Int.eq_ofNat_of_zero_le hk0
  rw [Int.toNat_natCast] at h hf
  have hbl := bitsAll_length l j
  have hj : jb (A.bytesOf (bitsAll l j)) (l.length * j) = 0 := by rw [← hbl]; exact jb_bytes _
  have hlen : len = (A.bytesOf (bitsAll l j)).length := by rw [← h.1, ints_length]
  rw [A.bytesOf_length, hbl] at hlen
  have hmul : l.length * j ≤ 1048576 * 64 := Nat.mul_le_mul hm (by omega)
  have := unpack_yes ao len cap (A.bytesOf (bitsAll l j)) l.length j w h (A.bytesOf_lt _) (by omega) hm (by omega) hj
  rw [nums_pack l j hin hf] at this
  exact this

/-- Pack, with a bit less than the numbers need. -/
theorem pack_less (ao : Option Addr) (len cap : Nat) (l : List Int) (w : World) (h : Sl w .u64 ao len cap l) (hm : len * 64 + 64 < 1099511627776) (hin : In64 l) :
    Calls Try.prog 27 #[.slice ao len cap, .int .i64 ((wid l : Int) - 1)] w fun e w' => e = .returned (.tuple #[.slice none 0 0, .int .i64 1]) ∧ Below w.heap.size w w' := by
  have hw := wid_le l hin
  by_cases h0 : wid l = 0
  · refine (pack_arg ao len cap _ w (.inl (by omega))).mono ?_
    rintro e w' ⟨rfl, rfl⟩
    exact ⟨rfl, Below.refl _ _⟩
  · refine (pack_i ao len cap l _ w h hm hin (by omega) (by omega)).mono ?_
    rintro e w' (⟨hf, _⟩ | ⟨_, rfl, hb⟩)
    · have := (fit_wid l _ hin).1 hf
      omega
    · exact ⟨rfl, hb⟩

end Go.Proofs.Ytmhfpipeoojacaa
/- The walk of the statement: what is unpacked is packed as the very bytes. -/
namespace Go.Proofs.Ytmhfpipeoojacaa
set_option linter.unusedVariables false
set_option maxRecDepth 10000
open Go.RowKit

/-- Unpack, where the bytes aren't just so many bits. -/
theorem unpack_bad (ao : Option Addr) (len cap : Nat) (l : List Nat) (n k : Int) (w : World) (h : Sl w .u8 ao len cap (ints l)) (hm : len ≤ 140737488355328) (hn0 : 0 ≤ n) (hn : n ≤ 1048576) (hk0 : 0 ≤ k) (hk : k ≤ 64) (c : Int) (hj : ((jb l (n.toNat * k.toNat) : Nat) : Int) = c) (hc : c ≠ 0) :
    Calls Try.prog 58 #[.slice ao len cap, .int .i64 n, .int .i64 k] w fun e w' => e = .returned (.tuple #[.slice none 0 0, .int .i64 c]) ∧ w' = w := by
  obtain ⟨i, rfl⟩ := Int.eq_ofNat_of_zero_le hn0
  obtain ⟨j, rfl⟩ := Int.eq_ofNat_of_zero_le hk0
  rw [Int.toNat_natCast, Int.toNat_natCast] at hj
  rw [← hj]
  exact unpack_no ao len cap l i j w h hm (by omega) (by omega) (by omega)

/-- Unpack, where they are. -/
theorem unpack_good (ao : Option Addr) (len cap : Nat) (l : List Nat) (n k : Int) (w : World) (h : Sl w .u8 ao len cap (ints l)) (h256 : ∀ x ∈ l, x < 256) (hm : len ≤ 140737488355328) (hn0 : 0 ≤ n) (hn : n ≤ 1048576) (hk0 : 0 ≤ k) (hk : k ≤ 64) (hj : jb l (n.toNat * k.toNat) = 0) :
    Calls Try.prog 58 #[.slice ao len cap, .int .i64 n, .int .i64 k] w fun e w' => ∃ v', e = .returned (.tuple #[v', .int .i64 0]) ∧ w'.ownsRow w.heap.size 44 1 v' n.toNat ((nums l n.toNat k.toNat).map (Value.int .u64)) ∧ Below w.heap.size w w' := by
  obtain ⟨i, rfl⟩ := Int.eq_ofNat_of_zero_le hn0
  obtain ⟨j, rfl⟩ := Int.eq_ofNat_of_zero_le hk0
  rw [Int.toNat_natCast, Int.toNat_natCast] at hj
  rw [Int.toNat_natCast, Int.toNat_natCast]
  exact unpack_yes ao len cap l i j w h h256 hm (by omega) (by omega) hj

end Go.Proofs.Ytmhfpipeoojacaa
/- Pack and Unpack, the program's and the document's, each under one name; the walk of the statement that they are the same. -/
namespace Go.Proofs.Ytmhfpipeoojacaa
set_option linter.unusedVariables false
set_option maxRecDepth 10000
open Go.RowKit

theorem pack_u (ao : Option Addr) (len cap : Nat) (l : List Int) (k : Int) (w : World) (h : Sl w .u64 ao len cap l) (hm : len * 64 + 64 < 1099511627776) (hin : In64 l) :
    Calls Try.prog 27 #[.slice ao len cap, .int .i64 k] w fun e w' => ∃ v, e = .returned (.tuple #[v, .int .i64 (packC l k)]) ∧ w'.ownsRow w.heap.size 5 1 v (packB l k).length (B8 (packB l k)) ∧ Below w.heap.size w w' := by
  by_cases hk : 0 ≤ k ∧ k ≤ 64
  · refine (pack_i ao len cap l k w h hm hin hk.1 hk.2).mono ?_
    rintro e w' (⟨hf, v, rfl, ho, hb⟩ | ⟨hf, rfl, hb⟩)
    · rw [packC, packB, packOk_yes hk.1 hk.2 hf, if_pos rfl, if_pos rfl]
      exact ⟨v, rfl, ho, hb⟩
    · rw [packC, packB, packOk_no (.inr (.inr hf)), if_neg (by simp), if_neg (by simp)]
      exact ⟨_, rfl, World.ownsRow_nil _ _ _ _, hb⟩
  · refine (pack_arg ao len cap k w (by omega)).mono ?_
    rintro e w' ⟨rfl, rfl⟩
    rw [packC, packB, packOk_no (by omega), if_neg (by simp), if_neg (by simp)]
    exact ⟨_, rfl, World.ownsRow_nil _ _ _ _, Below.refl _ _⟩

theorem unpack_u (ao : Option Addr) (len cap : Nat) (l : List Nat) (n k : Int) (w : World) (h : Sl w .u8 ao len cap (ints l)) (h256 : ∀ x ∈ l, x < 256) (hm : len ≤ 140737488355328) :
    Calls Try.prog 58 #[.slice ao len cap, .int .i64 n, .int .i64 k] w fun e w' => ∃ v, e = .returned (.tuple #[v, .int .i64 (unpC l n k)]) ∧ w'.ownsRow w.heap.size 44 1 v (unpL l n k).length ((unpL l n k).map (Value.int .u64)) ∧ Below w.heap.size w w' := by
  by_cases ha : unpArg n k = true
  · obtain ⟨h0, h1, h2, h3⟩ := (unpArg_iff n k).1 ha
    by_cases hj : jb l (n.toNat * k.toNat) = 0
    · refine (unpack_good ao len cap l n k w h h256 (by omega) h2 h3 h0 h1 hj).mono ?_
      rintro e w' ⟨v, rfl, ho, hb⟩
      rw [unpC, unpL, ha, hj, if_pos rfl, if_pos (by simp), nums_length]
      exact ⟨v, rfl, ho, hb⟩
    · refine (unpack_bad ao len cap l n k w h (by omega) h2 h3 h0 h1 _ rfl (by omega)).mono ?_
      rintro e w' ⟨rfl, rfl⟩
      rw [unpC, unpL, ha, if_pos rfl, if_neg (by simp [hj])]
      exact ⟨_, rfl, World.ownsRow_nil _ _ _ _, Below.refl _ _⟩
  · have hn : ¬ (0 ≤ k ∧ k ≤ 64 ∧ 0 ≤ n ∧ n ≤ 1048576) := fun h => ha ((unpArg_iff n k).2 h)
    refine (unpack_arg ao len cap n k w (by omega)).mono ?_
    rintro e w' ⟨rfl, rfl⟩
    rw [unpC, unpL, if_neg ha, if_neg (by simp [ha])]
    exact ⟨_, rfl, World.ownsRow_nil _ _ _ _, Below.refl _ _⟩

end Go.Proofs.Ytmhfpipeoojacaa

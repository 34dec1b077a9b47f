/- Plain facts on widths; Width under one name; the reference's Same. -/
import Derived.Test.YtkcpfgjkplailaaBdB
import Derived.Test.YtkcpfgjkplailaaBdQ
import Derived.Test.YtkcpfgjkplailaaBdL
namespace Go.Proofs.Ytkcpfgjkplailaa
set_option linter.unusedVariables false
open Go.RowKit
theorem Try.infoU64 : (Try.prog.info? 48).map (fun i => (i.zero, i.size, i.bytes)) = some (some (.int .u64 0), 1, 8) := by kernel_rfl

/-- Width, its answer under one name. -/
theorem width_w (ao : Option Addr) (len cap : Nat) (l : List Int) (w : World) (h : Sl w .u64 ao len cap l) (hm : len ≤ 140737488355328) (hin : In64 l) :
    Calls Try.prog 21 #[.slice ao len cap] w fun e w' => e = .returned (.int .i64 ((wid l : Nat) : Int)) ∧ w' = w := width_any ao len cap l w h hm hin

set_option maxHeartbeats 400000 in
theorem u64same_none (ao bo : Option Addr) (ca cb : Nat) (w : World) :
    Calls Try.prog 14 #[.slice ao 0 ca, .slice bo 0 cb] w fun e w' => e = .returned (.bool true) ∧ Kept (fun _ => False) w w' := by
  go_enter Try.func14, Try.ntmps14
  go_wp2_with fail
  go_loopw [5] (fun i wr => i = .int .i64 0 ∧ wr = w) (fun _ _ => 0)
  case atStart => exact ⟨rfl, rfl⟩
  case round =>
    obtain ⟨rfl, rfl⟩ := hrel
    go_wp2
    go_ret
    exact ⟨rfl, Kept.refl _ _⟩

set_option maxHeartbeats 400000 in
theorem u64same_some (b1 o1 b2 o2 len ca cb : Nat) (l : List Int) (w : World) (hm : len ≤ 140737488355328) (h1 : b1 < w.heap.size) (h2 : b2 < w.heap.size) (hc1 : ∀ i, i < len → w.cell? ⟨b1, o1 + i, none⟩ = some (.int .u64 (l.getD i 0))) (hc2 : ∀ i, i < len → w.cell? ⟨b2, o2 + i, none⟩ = some (.int .u64 (l.getD i 0))) :
    Calls Try.prog 14 #[.slice (some ⟨b1, o1, none⟩) len ca, .slice (some ⟨b2, o2, none⟩) len cb] w fun e w' => e = .returned (.bool true) ∧ Kept (fun _ => False) w w' := by
  have hb : ((len : Int) != (len : Int)) = false := by simp
  go_enter Try.func14, Try.ntmps14
  go_wp2_with fail
  go_loopw [5] (fun i wr => ∃ k : Nat, k ≤ len ∧ i = .int .i64 k ∧ Kept (fun _ => False) w wr) (fun i _ => len - (intOf i).toNat)
  case atStart => exact ⟨0, Nat.zero_le _, rfl, Kept.refl _ _⟩
  case round =>
    obtain ⟨k, hk, rfl, hkr⟩ := hrel
    by_cases hlt : k < len
    · have e1 : wr.cell? ⟨b1, o1 + k, none⟩ = some (.int .u64 (l.getD k 0)) := by rw [hkr.cell (p := ⟨b1, o1 + k, none⟩) h1 (by simp)]; exact hc1 k hlt
      have e2 : wr.cell? ⟨b2, o2 + k, none⟩ = some (.int .u64 (l.getD k 0)) := by rw [hkr.cell (p := ⟨b2, o2 + k, none⟩) h2 (by simp)]; exact hc2 k hlt
      obtain ⟨x, hxe⟩ : ∃ x, l.getD k 0 = x := ⟨_, rfl⟩
      rw [hxe] at e1 e2
      have hx : (x != x) = false := by simp
      clear hc1 hc2 hxe
      go_wp2
      go_region
      all_goals go_wp2
      all_goals
        go_roundw
        case rel => exact ⟨k + 1, by omega, by go_num, hkr.drew⟩
        case measure => simp [intOf]; omega
    · clear hc1 hc2
      go_wp2
      go_ret
      exact ⟨rfl, hkr⟩

/-- The reference's Same, of two lists that are the same. -/
theorem u64same_yes (ao bo : Option Addr) (len ca cb : Nat) (l : List Int) (w : World) (h1 : Sl w .u64 ao len ca l) (h2 : Sl w .u64 bo len cb l) (hm : len ≤ 140737488355328) :
    Calls Try.prog 14 #[.slice ao len ca, .slice bo len cb] w fun e w' => e = .returned (.bool true) ∧ Kept (fun _ => False) w w' := by
  by_cases h0 : len = 0
  · subst h0; exact u64same_none ao bo ca cb w
  · rcases h1.2.2.2.2 with h | ⟨b1, o1, rfl, hb1, hc1⟩
    · omega
    · rcases h2.2.2.2.2 with h | ⟨b2, o2, rfl, hb2, hc2⟩
      · omega
      · exact u64same_some b1 o1 b2 o2 len ca cb l w hm hb1 hb2 hc1 hc2
end Go.Proofs.Ytkcpfgjkplailaa
/- The contracts of justBits and of Unpack. -/
namespace Go.Proofs.Ytkcpfgjkplailaa
set_option linter.unusedVariables false
set_option maxRecDepth 10000
open Go.RowKit

set_option maxHeartbeats 400000 in
theorem just_any (ao : Option Addr) (len cap : Nat) (l : List Nat) (n : Nat) (w : World) (h : Sl w .u8 ao len cap (ints l)) (hm : len ≤ 140737488355328) (hn : n ≤ 1099511627776) :
    Calls Try.prog 72 #[.slice ao len cap, .int .i64 n] w fun e w' => e = .returned (.int .i64 ((jb l n : Nat) : Int)) ∧ w' = w := by
  have hlen : l.length = len := by rw [← h.1, ints_length]
  by_cases h1 : len < (n + 7) / 8
  · have hj : jb l n = 3 := by unfold jb; rw [hlen, if_pos h1]
    rw [hj]
    go_enter Try.func72, Try.ntmps72
    go_wp2
    go_ret
    exact ⟨rfl, rfl⟩
  · by_cases h2 : (n + 7) / 8 < len
    · have hj : jb l n = 4 := by unfold jb; rw [hlen, if_neg h1, if_pos h2]
      rw [hj]
      go_enter Try.func72, Try.ntmps72
      go_wp2
      go_ret
      exact ⟨rfl, rfl⟩
    · by_cases h3 : n % 8 = 0
      · have hj : jb l n = 0 := by unfold jb; rw [hlen, if_neg h1, if_neg h2, if_neg (by simp [h3])]
        rw [hj]
        have hb : ((n : Int) % 8 != 0) = false := by simp; omega
        go_enter Try.func72, Try.ntmps72
        go_wp2
        go_ret
        exact ⟨rfl, rfl⟩
      · have hb : ((n : Int) % 8 != 0) = true := by simp; omega
        obtain ⟨b, off, hao, hblt, hc⟩ : ∃ b off, ao = some ⟨b, off, none⟩ ∧ b < w.heap.size ∧ ∀ i, i < len → w.cell? ⟨b, off + i, none⟩ = some (.int .u8 ((ints l).getD i 0)) := by
          rcases h.2.2.2.2 with h | h
          · omega
          · exact h
        have hck := hc ((n + 7) / 8 - 1) (by omega)
        rw [ints_getD] at hck
        have hj : jb l n = if l.getD ((n + 7) / 8 - 1) 0 / 2 ^ (n % 8) ≠ 0 then 4 else 0 := by unfold jb; rw [hlen, if_neg h1, if_neg h2]; simp [h3]
        generalize l.getD ((n + 7) / 8 - 1) 0 = y at hck hj
        subst hao
        clear hc h
        by_cases h4 : y / 2 ^ (n % 8) = 0
        · have h5 : ((y : Int) / 2 ^ (n % 8) != 0) = false := by
            rw [← pow_int, ← Int.natCast_ediv, h4]; rfl
          rw [hj, if_neg (by simp [h4])]
          clear hj h4
          go_enter Try.func72, Try.ntmps72
          go_wp2
          go_ret
          exact ⟨rfl, rfl⟩
        · have h5 : ((y : Int) / 2 ^ (n % 8) != 0) = true := by
            rw [← pow_int, ← Int.natCast_ediv, bne_iff_ne]; omega
          rw [hj, if_pos h4]
          clear hj h4
          go_enter Try.func72, Try.ntmps72
          go_wp2
          go_ret
          exact ⟨rfl, rfl⟩

set_option maxHeartbeats 400000 in
theorem unpack_arg (ao : Option Addr) (len cap : Nat) (n k : Int) (w : World) (h : k < 0 ∨ 64 < k ∨ n < 0 ∨ 1048576 < n) :
    Calls Try.prog 59 #[.slice ao len cap, .int .i64 n, .int .i64 k] w fun e w' => e = .returned (.tuple #[.slice none 0 0, .int .i64 1]) ∧ w' = w := by
  by_cases hk : k < 0 ∨ 64 < k
  · clear h
    go_enter Try.func59, Try.ntmps59
    go_wp2_with (go_at_call 47; refine (may_no _ _ hk).mono ?_; rintro e w' ⟨rfl, rfl⟩)
    go_ret2
    exact ⟨rfl, rfl⟩
  · have hk0 : 0 ≤ k := by omega
    have hk1 : k ≤ 64 := by omega
    rcases (show n < 0 ∨ (0 ≤ n ∧ 1048576 < n) by omega) with hn | ⟨hn0, hn⟩
    all_goals
      clear h hk
      go_enter Try.func59, Try.ntmps59
      go_wp2_with (go_at_call 47; refine (may_yes _ _ (by omega) (by omega)).mono ?_; rintro e w' ⟨rfl, rfl⟩)
      go_ret2
      exact ⟨rfl, rfl⟩

set_option maxHeartbeats 400000 in
theorem unpack_no (ao : Option Addr) (len cap : Nat) (l : List Nat) (n k : Nat) (w : World) (h : Sl w .u8 ao len cap (ints l)) (hm : len ≤ 140737488355328) (hn : n ≤ 1048576) (hk : k ≤ 64) (hj : jb l (n * k) ≠ 0) :
    Calls Try.prog 59 #[.slice ao len cap, .int .i64 n, .int .i64 k] w fun e w' => e = .returned (.tuple #[.slice none 0 0, .int .i64 ((jb l (n * k) : Nat) : Int)]) ∧ w' = w := by
  have hnk : n * k ≤ 1048576 * 64 := Nat.mul_le_mul hn hk
  have hb : (((jb l (n * k) : Nat) : Int) != 0) = true := by rw [bne_iff_ne]; omega
  have H := hide h
  have hi : (n : Int) * (k : Int) = ((n * k : Nat) : Int) := (Int.natCast_mul n k).symm
  clear h hj
  generalize hN : n * k = N at *
  clear hN
  go_enter Try.func59, Try.ntmps59
  go_wp2_with (go_at_call 47; refine (may_yes _ _ (by omega) (by omega)).mono ?_; rintro e w' ⟨rfl, rfl⟩)
  refine (just_any _ _ _ l N _ H.out hm (by omega)).mono ?_
  rintro e w1 ⟨rfl, rfl⟩
  go_wp2
  go_ret2
  exact ⟨rfl, rfl⟩

def some0 (l : List Nat) (n k j : Nat) : List Value := (nums l j k).map (Value.int .u64) ++ List.replicate (n - j) (.int .u64 0)
theorem some0_zero (l : List Nat) (n k : Nat) : some0 l n k 0 = List.replicate n (.int .u64 0) := by simp [some0, nums]
theorem some0_all (l : List Nat) (n k : Nat) : some0 l n k n = (nums l n k).map (Value.int .u64) := by simp [some0]
theorem some0_set (l : List Nat) (n k j : Nat) (h : j < n) : (some0 l n k j).set j (.int .u64 ((getV l (j * k) k : Nat) : Int)) = some0 l n k (j + 1) := by
  unfold some0
  rw [List.set_append_right _ _ (by simp [nums_length]), nums_succ]
  simp only [List.length_map, nums_length, Nat.sub_self, List.map_append, List.append_assoc]
  rw [show n - j = (n - (j + 1)) + 1 by omega, List.replicate_succ, List.set_cons_zero]
  rfl

theorem some0_at (l : List Nat) (n k j : Nat) (h : j < n) : (some0 l n k j)[j]? = some (.int .u64 0) := by
  unfold some0
  rw [List.getElem?_append_right (by simp [nums_length])]
  simp only [List.length_map, nums_length, Nat.sub_self]
  rw [show n - j = (n - j - 1) + 1 by omega, List.replicate_succ]
  rfl

set_option maxRecDepth 10000 in
set_option maxHeartbeats 1000000 in
theorem unpack_yes (ao : Option Addr) (len cap : Nat) (l : List Nat) (n k : Nat) (w : World) (h : Sl w .u8 ao len cap (ints l)) (h256 : ∀ x ∈ l, x < 256) (hm : len ≤ 140737488355328) (hn : n ≤ 1048576) (hk : k ≤ 64) (hj : jb l (n * k) = 0) :
    Calls Try.prog 59 #[.slice ao len cap, .int .i64 n, .int .i64 k] w fun e w' => ∃ v', e = .returned (.tuple #[v', .int .i64 0]) ∧ w'.ownsRow w.heap.size 48 1 v' n ((nums l n k).map (Value.int .u64)) ∧ Below w.heap.size w w' := by
  have hnk : n * k ≤ 67108864 := Nat.mul_le_mul hn hk
  have hlen : l.length = len := by rw [← h.1, ints_length]
  have hfit : n * k ≤ 8 * l.length := by have := (jb_zero hj).1; omega
  have HFIT : Hid (∀ j, j < n → j * k + k ≤ 8 * l.length) := by
    intro j hj
    have : (j + 1) * k ≤ n * k := Nat.mul_le_mul_right k hj
    rw [Nat.add_mul] at this
    omega
  have H := hide h
  have H2 := hide h256
  have hd : decide ((n : Int) < 0) = false := by simp
  have hi : (n : Int) * (k : Int) = ((n * k : Nat) : Int) := (Int.natCast_mul n k).symm
  obtain ⟨i0, hi0, hz0, hz1, hz2⟩ := info_parts Try.infoU64
  have HI := hide hi
  clear h h256 hfit
  generalize hN : n * k = N at hnk hj hi
  clear hN
  go_enter Try.func59, Try.ntmps59
  go_wp2_with (go_at_call 47; refine (may_yes _ _ (by omega) (by omega)).mono ?_; rintro e w' ⟨rfl, rfl⟩)
  refine (just_any _ _ _ l N _ H.out hm (by omega)).mono ?_
  rintro e w1 ⟨rfl, rfl⟩
  rw [hj]
  clear hj hi
  go_wp2_with fail
  refine (from_any _ _ _ l _ H.out hm).mono ?_
  rintro e w2 ⟨p, v, rfl, hr, hp, hv, hb⟩
  have hs := hb.size
  go_wp2_with (at_make; refine wpList_make_full _ rfl _ _ 36 rfl w2.heap.size 48 i0 (.int .u64 0) 1 Try.underlying36 hi0 hz0 hz1 _ _ _ _ n rfl rfl rfl rfl (by rw [hz2]; omega) (by unfold maxLen; omega) (Nat.le_refl _) ?_)
  intro w3 ho hg
  have hr3 : Rd w3 p v l 0 := hr.kept ((Kept.refl (fun _ => False) _).grown hg (by simp)) (by simp) (by simp)
  have hb3 : Below w1.heap.size w1 w3 := hb.grown hg hs (by simp)
  have hpg := hr.lt
  have HVG : Hid (∀ g, v.ownBlock = some g → g ≠ w2.heap.size) := fun g hg => by have := (owns_lt hr.2.1 hg).2; omega
  have ho3 : w3.ownsRow w1.heap.size 48 1 (.slice (some ⟨w2.heap.size, 0, none⟩) n n) n (some0 l n k 0) := by
    rw [some0_zero]
    have h := owns_base (base' := w1.heap.size) ho (fun g hg => by have := (owns_lt ho hg).1; omega)
    rw [toList_madeCells_one] at h
    exact h
  clear hr hb ho hg hv
  go_wp2_with fail
  go_loopw [37] (fun i wr => ∃ j : Nat, j ≤ n ∧ i = .int .i64 j ∧ Rd wr p v l (j * k) ∧ wr.ownsRow w1.heap.size 48 1 (.slice (some ⟨w2.heap.size, 0, none⟩) n n) n (some0 l n k j) ∧ Below w1.heap.size w1 wr) (fun i _ => n - (intOf i).toNat)
  case atStart => exact ⟨0, Nat.zero_le _, rfl, by simpa using hr3, ho3, hb3⟩
  case round =>
    obtain ⟨j, hj, rfl, hrr, hor, hbr⟩ := hrel
    by_cases hlt : j < n
    · go_wp2_with fail
      refine (get_yes p v l (j * k) k wr hrr (by omega) H2.out hk (HFIT.out j hlt)).mono ?_
      rintro e w4 ⟨rfl, hr4, hk4⟩
      have ho4 := owns_of_block hor (fun g hg => hk4.block g (owns_lt hor hg).2 (by simp [Value.ownBlock] at hg; omega))
      have hb4 : Below w1.heap.size w1 w4 := hbr.trans (hk4.below (by have := hbr.size; omega) (by intro x hx; omega))
      have hc4 := ho4.cellAt j (by omega)
      rw [some0_at l n k j hlt] at hc4
      have hf4 := ho4.frozenAt j
      have HO := hide (ho4.stored j (.int .u64 ((getV l (j * k) k : Nat) : Int))).1
      have HB := hide hb4
      have HR := hide hr4
      clear ho4 hb4 hr4 hk4 hrr hor hbr
      go_wp2
      go_roundw
      case rel =>
        refine ⟨j + 1, by omega, by go_num, ?_, ?_, ?_⟩
        · rw [Nat.add_mul, Nat.one_mul]
          obtain ⟨h1, h2, h3⟩ := HR.out
          refine ⟨?_, ownsRow_setCell_other h2 (fun e => HVG.out _ e rfl) _, h3⟩
          rw [Below.heap_setCell _ _ _ _ (by show p ≠ w2.heap.size; omega)]; exact h1
        · rw [← some0_set l n k j hlt]; exact HO.out
        · exact HB.out.setCell (by show w1.heap.size ≤ w2.heap.size; omega) _
      case measure => simp [intOf]; omega
    · have hjn : j = n := by omega
      subst hjn
      go_wp2
      go_ret2
      rw [some0_all] at hor
      exact ⟨_, rfl, hor, hbr⟩
end Go.Proofs.Ytkcpfgjkplailaa
/- The contracts of the document's answer for bits: Fits, Bytes, Bits. -/
namespace Go.Proofs.Ytkcpfgjkplailaa
set_option linter.unusedVariables false
set_option maxRecDepth 10000
open Go.RowKit
/-- A number without its lowest bits. -/
def sh (n j : Nat) : Nat := n / 2 ^ j
theorem sh_zero (n : Nat) : sh n 0 = n := by simp [sh]
theorem sh_succ (n j : Nat) : sh n (j + 1) = sh n j / 2 := by simp [sh, Nat.pow_succ, Nat.div_div_eq_div_mul]
theorem sh_le (n j : Nat) : sh n j ≤ n := Nat.div_le_self _ _
theorem sh_bit (n j : Nat) : A.bitsOf n (j + 1) = A.bitsOf n j ++ [sh n j % 2 == 1] := A.bitsOf_succ n j

set_option maxHeartbeats 400000 in
theorem rfits_any (n : Nat) (k : Nat) (b : Bool) (w : World) (hn : (n : Int) < 18446744073709551616) (hk : k ≤ 64) (hb : (sh n k == 0) = b) :
    Calls Try.prog 54 #[.int .u64 n, .int .i64 k] w fun e w' => e = .returned (.bool b) ∧ w' = w := by
  have HB := hide hb
  clear hb
  go_enter Try.func54, Try.ntmps54
  go_wp2_with fail
  go_loop [0, 5] (fun v0 v5 => ∃ j : Nat, j ≤ k ∧ v5 = .int .i64 j ∧ v0 = .int .u64 ((sh n j : Nat) : Int)) (fun _ v5 => k - (intOf v5).toNat)
  case atStart => exact ⟨0, Nat.zero_le _, rfl, by rw [sh_zero]⟩
  case round =>
    obtain ⟨j, hj, rfl, rfl⟩ := hrel
    have hsl := sh_le n j
    by_cases hlt : j < k
    · have HS := hide (sh_succ n j)
      go_wp2
      go_round
      case rel => exact ⟨j + 1, by omega, by go_num, by rw [HS.out]; go_num⟩
      case measure => simp [intOf]; omega
    · have hjk : j = k := by omega
      subst hjk
      go_wp2
      go_ret
      refine ⟨congrArg (fun b => Ending.returned (Value.bool b)) ?_, rfl⟩
      rw [← HB.out, Bool.eq_iff_iff, beq_iff_eq, beq_iff_eq]
      omega

/-- The bits of the first bytes, and some of the next one. -/
def bitsTo (l : List Nat) (j q : Nat) : List Bool := A.bitsB (l.take j) ++ A.bitsOf (l.getD j 0) q
theorem bitsTo_zero (l : List Nat) (j : Nat) : bitsTo l j 0 = A.bitsB (l.take j) := by simp [bitsTo, A.bitsOf]
theorem bitsTo_next (l : List Nat) (j : Nat) (h : j < l.length) : bitsTo l (j + 1) 0 = bitsTo l j 8 := by
  rw [bitsTo_zero, List.take_succ_eq_append_getElem h, A.bitsB_append]
  simp [bitsTo, A.bitsB, List.getD, h]
theorem bitsTo_succ (l : List Nat) (j q : Nat) : bitsTo l j (q + 1) = bitsTo l j q ++ [sh (l.getD j 0) q % 2 == 1] := by
  unfold bitsTo; rw [sh_bit, List.append_assoc]
theorem bitsTo_length (l : List Nat) (j q : Nat) (h : j ≤ l.length) : (bitsTo l j q).length = 8 * j + q := by
  unfold bitsTo; rw [List.length_append, A.bitsB_length, A.bitsOf_length, List.length_take]; omega

set_option maxHeartbeats 400000 in
theorem brbits_none (ao : Option Addr) (cap : Nat) (w : World) :
    Calls Try.prog 60 #[.slice ao 0 cap] w fun e w' => e = .returned (.slice none 0 0) ∧ w' = w := by
  go_enter Try.func60, Try.ntmps60
  go_wp2_with fail
  go_loopw [3, 4] (fun v3 v4 wr => v3 = .slice none 0 0 ∧ v4 = .int .i64 0 ∧ wr = w) (fun _ _ _ => 0)
  case atStart => exact ⟨rfl, rfl, rfl⟩
  case round =>
    obtain ⟨rfl, rfl, rfl⟩ := hrel
    go_wp2
    go_ret
    exact ⟨rfl, rfl⟩

set_option maxHeartbeats 1000000 in
theorem brbits_some (b off len cap : Nat) (l : List Nat) (w : World) (hl : l.length = len) (hm : len ≤ 1099511627776) (hb : b < w.heap.size) (hc : ∀ i, i < len → w.cell? ⟨b, off + i, none⟩ = some (.int .u8 ((ints l).getD i 0))) (h256 : ∀ x ∈ l, x < 256) :
    Calls Try.prog 60 #[.slice (some ⟨b, off, none⟩) len cap] w fun e w' => ∃ v', e = .returned v' ∧ w'.ownsRow w.heap.size 4 1 v' (A.bitsB l).length (Vb (A.bitsB l)) ∧ Below w.heap.size w w' := by
  obtain ⟨i0, hi, hz0, hz1, hz2⟩ := info_parts Try.infoBool
  have H2 : Hid (∀ j, l.getD j 0 < 256) := by
    intro j
    by_cases hj : j < l.length
    · have : l.getD j 0 = l[j] := by simp [List.getD, hj]
      rw [this]; exact h256 _ (List.getElem_mem _)
    · simp [List.getD, Nat.le_of_not_lt hj]
  have HL := hide hl
  clear hl h256
  go_enter Try.func60, Try.ntmps60
  go_wp2_with fail
  go_loopw [3, 4] (fun v3 v4 wr => ∃ j : Nat, j ≤ len ∧ v4 = .int .i64 j ∧ wr.ownsRow w.heap.size 4 1 v3 (8 * j) (Vb (bitsTo l j 0)) ∧ Below w.heap.size w wr) (fun _ v4 _ => len - (intOf v4).toNat)
  case atStart => exact ⟨0, Nat.zero_le _, rfl, World.ownsRow_nil _ _ _ _, Below.refl _ _⟩
  case round =>
    obtain ⟨j, hj, rfl, hown, hbr⟩ := hrel
    by_cases hlt : j < len
    · have hck : wr.cell? ⟨b, off + j, none⟩ = some (.int .u8 ((ints l).getD j 0)) := by rw [hbr.cell (p := ⟨b, off + j, none⟩) hb]; exact hc j hlt
      rw [ints_getD] at hck
      have hx := H2.out j
      have HT : Hid (∀ q, bitsTo l j (q + 1) = bitsTo l j q ++ [sh (l.getD j 0) q % 2 == 1]) := bitsTo_succ l j
      have HN := hide (bitsTo_next l j (by have := HL.out; omega))
      obtain ⟨x, hxe⟩ : ∃ x, l.getD j 0 = x := ⟨_, rfl⟩
      rw [hxe] at hck hx HT
      clear hc hxe
      go_wp2_with fail
      go_loopw [3, 5, 6] (fun v3 v5 v6 wq => ∃ q : Nat, q ≤ 8 ∧ v6 = .int .i64 q ∧ v5 = .int .u8 ((sh x q : Nat) : Int) ∧ wq.ownsRow w.heap.size 4 1 v3 (8 * j + q) (Vb (bitsTo l j q)) ∧ Below w.heap.size w wq) (fun _ _ v6 _ => 8 - (intOf v6).toNat)
      case atStart => exact ⟨0, by omega, rfl, by rw [sh_zero], hown, hbr⟩
      case round =>
        obtain ⟨q, hq, rfl, rfl, hown2, hbr2⟩ := hrel
        have hsz := hbr2.size
        have hsl := sh_le x q
        by_cases hq8 : q < 8
        · have HQ := hide (HT.out q)
          have HS := hide (sh_succ x q)
          obtain ⟨c, hce⟩ : ∃ c : Bool, (((sh x q : Nat) : Int) % 2 == 1) = c := ⟨_, rfl⟩
          have HC : Hid ((sh x q % 2 == 1) = c) := by
            show _ = _
            rw [← hce, Bool.eq_iff_iff, beq_iff_eq, beq_iff_eq]; omega
          go_wp2_with (at_builtin; refine wpList_append_to rfl (.tmp 21) (.tmp 25) 84 rfl w.heap.size 4 i0 (.bool false) 1 1 Try.underlying84 hi hz0 hz1 hz2 rfl (by decide) _ _ _ rfl (hown2.alloc _) (some ⟨wr.heap.size, 0, none⟩) 1 1 [.bool c] rfl (by simp) rfl (newsB _ _) (oneB _) (by unfold maxLen; omega) (by omega) (by simp; omega) ?_)
          intro v' w' hown' has'
          have hbn : Below w.heap.size w w' := (hbr2.alloc hsz _).trans (has'.below (by simp; omega) (fun k hk => (owns_lt hown2 hk).1))
          clear has' hce
          go_wp2
          go_roundw
          case rel => exact ⟨q + 1, by omega, by go_num, by rw [HS.out]; go_num, by rw [HQ.out, HC.out, Vb_append]; exact hown', hbn⟩
          case measure => simp [intOf]; omega
        · have hq' : q = 8 := by omega
          subst hq'
          go_wp2
          go_roundw
          case rel => exact ⟨j + 1, by omega, by go_num, by rw [HN.out]; exact hown2, hbr2⟩
          case measure => simp [intOf]; omega
    · have hjl : j = len := by omega
      subst hjl
      clear hc
      rw [bitsTo_zero, List.take_of_length_le (by have := HL.out; omega)] at hown
      have e : (A.bitsB l).length = 8 * j := by rw [A.bitsB_length, HL.out]
      have HE := hide e
      clear e
      go_wp2
      go_ret
      exact ⟨_, rfl, by rw [HE.out]; exact hown, hbr⟩

/-- The document's Bits. -/
theorem brbits_any (ao : Option Addr) (len cap : Nat) (l : List Nat) (w : World) (h : Sl w .u8 ao len cap (ints l)) (hm : len ≤ 1099511627776) (h256 : ∀ x ∈ l, x < 256) :
    Calls Try.prog 60 #[.slice ao len cap] w fun e w' => ∃ v', e = .returned v' ∧ w'.ownsRow w.heap.size 4 1 v' (A.bitsB l).length (Vb (A.bitsB l)) ∧ Below w.heap.size w w' := by
  obtain ⟨h1, h2, h3, h4, h5⟩ := h
  rw [ints_length] at h1
  by_cases h0 : len = 0
  · subst h0
    obtain rfl : l = [] := List.eq_nil_of_length_eq_zero h1
    refine (brbits_none ao cap w).mono ?_
    rintro e w' ⟨rfl, rfl⟩
    exact ⟨_, rfl, World.ownsRow_nil _ _ _ _, Below.refl _ _⟩
  · rcases h5 with h5 | ⟨b, off, rfl, hlt, h5⟩
    · omega
    · exact brbits_some b off len cap l w h1 hm hlt h5 h256

set_option maxHeartbeats 400000 in
theorem brbytes_none (ao : Option Addr) (cap : Nat) (w : World) :
    Calls Try.prog 55 #[.slice ao 0 cap] w fun e w' => e = .returned (.slice none 0 0) ∧ w' = w := by
  go_enter Try.func55, Try.ntmps55
  go_wp2_with fail
  go_loopw [3, 5] (fun v3 v5 wr => v3 = .slice none 0 0 ∧ v5 = .int .i64 0 ∧ wr = w) (fun _ _ _ => 0)
  case atStart => exact ⟨rfl, rfl, rfl⟩
  case round =>
    obtain ⟨rfl, rfl, rfl⟩ := hrel
    go_wp2
    go_ret
    exact ⟨rfl, rfl⟩

/-- The bytes of the first bits. -/
def bytesTo (bs : List Bool) (j : Nat) : List Nat := A.bytesOf (bs.take j)
theorem bytesTo_zero (bs : List Bool) : bytesTo bs 0 = [] := by simp [bytesTo, A.bytesOf]
theorem bytesTo_length (bs : List Bool) (j : Nat) (h : j ≤ bs.length) : (bytesTo bs j).length = (j + 7) / 8 := by
  unfold bytesTo; rw [A.bytesOf_length, List.length_take, Nat.min_eq_left h]
theorem bytesTo_new (bs : List Bool) (j : Nat) (h : j < bs.length) (h8 : j % 8 = 0) : bytesTo bs (j + 1) = bytesTo bs j ++ [(bs.getD j false).toNat] := by
  unfold bytesTo
  have hl : (bs.take j).length = j := by rw [List.length_take]; omega
  rw [take_snocB bs j h, A.bytesOf_snoc_new _ _ (by rw [hl]; exact h8)]
theorem bytesTo_old (bs : List Bool) (j : Nat) (h : j < bs.length) (h8 : j % 8 ≠ 0) : bytesTo bs (j + 1) = (bytesTo bs j).set (j / 8) ((bytesTo bs j).getD (j / 8) 0 + (bs.getD j false).toNat * 2 ^ (j % 8)) ∧ (bytesTo bs j).getD (j / 8) 0 < 2 ^ (j % 8) := by
  unfold bytesTo
  have hl : (bs.take j).length = j := by rw [List.length_take]; omega
  have e : (j + 7) / 8 - 1 = j / 8 := by omega
  have h1 := A.bytesOf_snoc_old (bs.take j) (bs.getD j false) (by rw [hl]; exact h8)
  have h2 := A.last_lt (bs.take j) (by rw [hl]; exact h8)
  rw [hl, e] at h1 h2
  rw [take_snocB bs j h]
  exact ⟨h1, h2⟩

theorem set_self (l : List Nat) (i : Nat) : l.set i (l.getD i 0) = l := by
  by_cases h : i < l.length
  · simp [List.getD, h]
  · exact List.set_eq_of_length_le (by omega)
theorem pow8 (p : Nat) (h : p < 8) : ((2 : Int) ^ p) ≤ 128 ∧ 1 ≤ ((2 : Int) ^ p) := by
  have h1 : 2 ^ p ≤ 2 ^ 7 := Nat.pow_le_pow_right (by omega) (by omega)
  have h2 : 1 ≤ 2 ^ p := Nat.one_le_two_pow
  rw [← pow_int]
  omega
theorem weight_next (j : Nat) (c : Int) (hc : j % 8 ≠ 0 → c = 2 ^ (j % 8)) (h : j % 8 ≠ 0) : (j + 1) % 8 ≠ 0 → IntKind.u8.wrap (c * 2) = 2 ^ ((j + 1) % 8) := by
  intro h1
  have e : (j + 1) % 8 = j % 8 + 1 := by omega
  have h2 := pow8 (j % 8 + 1) (by omega)
  rw [e, hc h]
  rw [Int.pow_succ] at h2 ⊢
  rw [IntKind.wrap_u8']
  omega

set_option maxHeartbeats 1000000 in
theorem brbytes_some (b off len cap : Nat) (bs : List Bool) (w : World) (hl : bs.length = len) (hm : len ≤ 1099511627776) (hb : b < w.heap.size) (hc : ∀ i, i < len → w.cell? ⟨b, off + i, none⟩ = some (.bool (bs.getD i false))) :
    Calls Try.prog 55 #[.slice (some ⟨b, off, none⟩) len cap] w fun e w' => ∃ v', e = .returned v' ∧ w'.ownsRow w.heap.size 5 1 v' (A.bytesOf bs).length (B8 (A.bytesOf bs)) ∧ Below w.heap.size w w' := by
  obtain ⟨i0, hi, hz0, hz1, hz2⟩ := info_parts Try.infoU8
  have HL := hide hl
  clear hl
  go_enter Try.func55, Try.ntmps55
  go_wp2_with fail
  go_loopw [3, 4, 5] (fun v3 v4 v5 wr => ∃ j : Nat, j ≤ len ∧ v5 = .int .i64 j ∧ (∃ c : Int, v4 = .int .u8 c ∧ (j % 8 ≠ 0 → c = 2 ^ (j % 8))) ∧ wr.ownsRow w.heap.size 5 1 v3 ((j + 7) / 8) (B8 (bytesTo bs j)) ∧ Below w.heap.size w wr) (fun _ _ v5 _ => len - (intOf v5).toNat)
  case atStart => exact ⟨0, Nat.zero_le _, rfl, ⟨1, rfl, by simp⟩, by rw [bytesTo_zero]; exact World.ownsRow_nil _ _ _ _, Below.refl _ _⟩
  case round =>
    obtain ⟨j, hj, rfl, ⟨c, rfl, hcc⟩, hown, hbr⟩ := hrel
    have hsz := hbr.size
    by_cases hlt : j < len
    · have hck : wr.cell? ⟨b, off + j, none⟩ = some (.bool (bs.getD j false)) := by rw [hbr.cell (p := ⟨b, off + j, none⟩) hb]; exact hc j hlt
      have hjl : j < bs.length := by rw [HL.out]; exact hlt
      by_cases h8 : j % 8 = 0
      · have hm8 : ((j : Int) % 8 == 0) = true := by simp; omega
        have HN := hide (bytesTo_new bs j hjl h8)
        have HBL := hide (bytesTo_length bs j (by omega))
        obtain ⟨t, hte⟩ : ∃ t, bs.getD j false = t := ⟨_, rfl⟩
        rw [hte] at hck HN
        clear hc hte hcc hjl
        go_wp2_with (at_builtin; refine wpList_append_to rfl (.tmp 15) (.tmp 16) 23 rfl w.heap.size 5 i0 (.int .u8 0) 1 1 Try.underlying23 hi hz0 hz1 hz2 rfl (by decide) _ _ _ rfl (hown.alloc _) (some ⟨wr.heap.size, 0, none⟩) 1 1 [.int .u8 0] rfl (by simp) rfl (Sl.news1 _ _) (one_oneCell _ _) (by unfold maxLen; omega) (by omega) (by simp; omega) ?_)
        intro v' w' hown' has'
        have hbn : Below w.heap.size w w' := (hbr.alloc hsz _).trans (has'.below (by simp; omega) (fun k hk => (owns_lt hown hk).1))
        have hckn : w'.cell? ⟨b, off + j, none⟩ = some (.bool t) := by rw [hbn.cell (p := ⟨b, off + j, none⟩) hb, ← hbr.cell (p := ⟨b, off + j, none⟩) hb]; exact hck
        obtain ⟨g, cap', hv, hg, hglt, hcap⟩ := owns_pos hown' (by omega)
        have HO := hide hown'
        have HB := hide hbn
        have hj8 : (j + 7) / 8 = j / 8 := by omega
        rw [hj8] at hv HO
        clear has' hown hbr hck hbn hown'
        subst hv
        cases t with
        | false =>
          go_wp2
          go_roundw
          case rel => exact ⟨j + 1, by omega, by go_num, ⟨2, rfl, fun _ => by rw [show (j + 1) % 8 = 1 by omega]; rfl⟩, by rw [show (j + 1 + 7) / 8 = j / 8 + 1 by omega, HN.out, B8_append]; exact HO.out, HB.out⟩
          case measure => simp [intOf]; omega
        | true =>
          have hcl : w'.cell? ⟨g, j / 8, none⟩ = some (.int .u8 0) := by
            rw [HO.out.cellAt _ (by omega), List.getElem?_append_right (by rw [B8_length, HBL.out]; omega), B8_length, HBL.out, hj8, Nat.sub_self]; rfl
          have hfl := HO.out.frozenAt (j / 8)
          have HST := hide (HO.out.stored (j / 8) (.int .u8 1)).1
          go_wp2
          go_roundw
          case rel =>
            refine ⟨j + 1, by omega, by go_num, ⟨2, rfl, fun _ => by rw [show (j + 1) % 8 = 1 by omega]; rfl⟩, ?_, HB.out.setCell hg _⟩
            have h := HST.out
            rw [List.set_append_right _ _ (by rw [B8_length, HBL.out]; omega), B8_length, HBL.out, hj8, Nat.sub_self] at h
            rw [show (j + 1 + 7) / 8 = j / 8 + 1 by omega, HN.out, B8_append]
            exact h
          case measure => simp [intOf]; omega
      · have hm8 : ((j : Int) % 8 == 0) = false := by simp; omega
        obtain ⟨hbo, hby⟩ := bytesTo_old bs j hjl h8
        have HBL := hide (bytesTo_length bs j (by omega))
        have HWN := hide (weight_next j c hcc h8)
        have hce := hcc h8
        obtain ⟨hc1, hc2⟩ := pow8 (j % 8) (by omega)
        obtain ⟨g, cap', hv, hg, hglt, hcap⟩ := owns_pos hown (by omega)
        subst hv
        have hcl : wr.cell? ⟨g, j / 8, none⟩ = some (.int .u8 (((bytesTo bs j).getD (j / 8) 0 : Nat) : Int)) := by
          have hlt8 : j / 8 < (bytesTo bs j).length := by rw [HBL.out]; omega
          rw [hown.cellAt _ (by omega)]
          simp [B8, List.getD, hlt8]
        have hfl := hown.frozenAt (j / 8)
        obtain ⟨t, hte⟩ : ∃ t, bs.getD j false = t := ⟨_, rfl⟩
        obtain ⟨y, hye⟩ : ∃ y, (bytesTo bs j).getD (j / 8) 0 = y := ⟨_, rfl⟩
        rw [hte] at hck hbo
        rw [hye] at hby hcl hbo
        rw [← hce] at hc1 hc2
        have hyc : (y : Int) < c := by
          have : ((y : Nat) : Int) < ((2 ^ (j % 8) : Nat) : Int) := by omega
          rw [pow_int] at this
          rw [hce]; exact this
        have HSET : Hid (t = false → bytesTo bs (j + 1) = bytesTo bs j) := by
          intro h
          rw [hbo, h, ← hye, show Bool.toNat false = 0 from rfl, Nat.zero_mul, Nat.add_zero, set_self]
        have HSET2 : Hid (t = true → B8 (bytesTo bs (j + 1)) = (B8 (bytesTo bs j)).set (j / 8) (.int .u8 ((y : Int) + c))) := by
          intro h
          rw [hbo, h, ← B8_set]
          congr 2
          rw [hce]
          simp
        have HO := hide hown
        have HB := hide hbr
        have HST := hide (hown.stored (j / 8) (.int .u8 ((y : Int) + c))).1
        clear hc hte hye hcc hjl hbo hce hby hown hbr
        cases t with
        | false =>
          go_wp2
          go_roundw
          case rel => exact ⟨j + 1, by omega, by go_num, ⟨_, rfl, HWN.out⟩, by rw [show (j + 1 + 7) / 8 = (j + 7) / 8 by omega, HSET.out rfl]; exact HO.out, HB.out⟩
          case measure => simp [intOf]; omega
        | true =>
          go_wp2
          go_roundw
          case rel => exact ⟨j + 1, by omega, by go_num, ⟨_, rfl, HWN.out⟩, by rw [show (j + 1 + 7) / 8 = (j + 7) / 8 by omega, HSET2.out rfl]; exact HST.out, HB.out.setCell hg _⟩
          case measure => simp [intOf]; omega
    · have hjl : j = len := by omega
      subst hjl
      clear hc
      have hbl := bytesTo_length bs j (by rw [HL.out]; exact Nat.le_refl _)
      have he : bytesTo bs j = A.bytesOf bs := by unfold bytesTo; rw [List.take_of_length_le (by rw [HL.out]; exact Nat.le_refl _)]
      rw [← hbl, he] at hown
      clear hbl he
      go_wp2
      go_ret
      exact ⟨_, rfl, hown, hbr⟩

/-- The document's Bytes. -/
theorem brbytes_any (ao : Option Addr) (len cap : Nat) (bs : List Bool) (w : World) (h : Sb w ao len cap bs) (hm : len ≤ 1099511627776) :
    Calls Try.prog 55 #[.slice ao len cap] w fun e w' => ∃ v', e = .returned v' ∧ w'.ownsRow w.heap.size 5 1 v' (A.bytesOf bs).length (B8 (A.bytesOf bs)) ∧ Below w.heap.size w w' := by
  obtain ⟨h1, h2, h3, h4, h5⟩ := h
  by_cases h0 : len = 0
  · subst h0
    obtain rfl : bs = [] := List.eq_nil_of_length_eq_zero h1
    refine (brbytes_none ao cap w).mono ?_
    rintro e w' ⟨rfl, rfl⟩
    exact ⟨_, rfl, World.ownsRow_nil _ _ _ _, Below.refl _ _⟩
  · rcases h5 with h5 | ⟨b, off, rfl, hlt, h5⟩
    · omega
    · exact brbytes_some b off len cap bs w h1 hm hlt h5
end Go.Proofs.Ytkcpfgjkplailaa

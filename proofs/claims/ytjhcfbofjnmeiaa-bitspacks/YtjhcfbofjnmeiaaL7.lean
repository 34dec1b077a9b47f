/- Pack and Unpack, the program's and the document's, each under one name; the walk of the statement that they are the same. -/
import Derived.Test.YtjhcfbofjnmeiaaF6
import Derived.Test.YtjhcfbofjnmeiaaL5
namespace Go.Proofs.Ytjhcfbofjnmeiaa
set_option linter.unusedVariables false
open Go.RowKit

def packOk (l : List Int) (k : Int) : Bool := decide (0 ≤ k) && decide (k ≤ 64) && allFit l k.toNat l.length
def packB (l : List Int) (k : Int) : List Nat := if packOk l k then A.bytesOf (bitsAll l k.toNat) else []
def packC (l : List Int) (k : Int) : Int := if packOk l k then 0 else 1
theorem packOk_yes {l : List Int} {k : Int} (h0 : 0 ≤ k) (h1 : k ≤ 64) (hf : Fit l k.toNat) : packOk l k = true := by
  unfold packOk; rw [(allFit_all l k.toNat).2 hf]; simp [h0, h1]
theorem packOk_no {l : List Int} {k : Int} (h : k < 0 ∨ 64 < k ∨ ¬ Fit l k.toNat) : packOk l k = false := by
  unfold packOk
  rcases h with h | h | h
  · rw [decide_eq_false (show ¬ 0 ≤ k by omega)]; rfl
  · rw [decide_eq_false (show ¬ k ≤ 64 by omega)]; simp
  · rw [show allFit l k.toNat l.length = false by rw [← Bool.not_eq_true]; exact fun h' => h ((allFit_all l k.toNat).1 h')]; simp

theorem packB_le (l : List Int) (k : Int) : (packB l k).length ≤ l.length * 8 + 1 := by
  unfold packB
  split
  · rename_i h
    have hk : k.toNat ≤ 64 := by simp [packOk] at h; omega
    rw [A.bytesOf_length, bitsAll_length]
    have : l.length * k.toNat ≤ l.length * 64 := Nat.mul_le_mul_left _ hk
    omega
  · simp

theorem pack_u (ao : Option Addr) (len cap : Nat) (l : List Int) (k : Int) (w : World) (h : Sl w .u64 ao len cap l) (hm : len * 64 + 64 < 1099511627776) (hin : In64 l) :
    Calls Try.prog 21 #[.slice ao len cap, .int .i64 k] w fun e w' => ∃ v, e = .returned (.tuple #[v, .int .i64 (packC l k)]) ∧ w'.ownsRow w.heap.size 5 1 v (packB l k).length (B8 (packB l k)) ∧ Below w.heap.size w w' := by
  by_cases hk : 0 ≤ k ∧ k ≤ 64
  · refine (pack_i ao len cap l k w h hm hin hk.1 hk.2).mono ?_
    rintro e w' (⟨hf, v, rfl, ho, hb⟩ | ⟨hf, rfl, hb⟩)
    · rw [packC, packB, packOk_yes hk.1 hk.2 hf, if_pos rfl, if_pos rfl]
      exact ⟨v, rfl, ho, hb⟩
    · rw [packC, packB, packOk_no (.inr (.inr hf)), if_neg (by simp), if_neg (by simp)]
      exact ⟨_, rfl, World.ownsRow_nil _ _ _ _, hb⟩
  · refine (pack_arg ao len cap k w (by omega)).mono ?_
    rintro e w' ⟨rfl, rfl⟩
    rw [packC, packB, packOk_no (by omega), if_neg (by simp), if_neg (by simp)]
    exact ⟨_, rfl, World.ownsRow_nil _ _ _ _, Below.refl _ _⟩

theorem rpack_u (ao : Option Addr) (len cap : Nat) (l : List Int) (k : Int) (w : World) (h : Sl w .u64 ao len cap l) (hm : len * 64 + 64 < 1099511627776) (hin : In64 l) :
    Calls Try.prog 22 #[.slice ao len cap, .int .i64 k] w fun e w' => ∃ v, e = .returned (.tuple #[v, .int .i64 (packC l k)]) ∧ w'.ownsRow w.heap.size 5 1 v (packB l k).length (B8 (packB l k)) ∧ Below w.heap.size w w' := by
  by_cases hk : 0 ≤ k ∧ k ≤ 64
  · obtain ⟨j, hj⟩ := Int.eq_ofNat_of_zero_le hk.1
    have hj' : k.toNat = j := by omega
    have hp := rpack_any ao len cap l j w h hm hin (by omega)
    rw [← hj] at hp
    refine hp.mono ?_
    rintro e w' (⟨hf, v, rfl, ho, hb⟩ | ⟨hf, rfl, hb⟩)
    · rw [packC, packB, packOk_yes hk.1 hk.2 (by rw [hj']; exact hf), if_pos rfl, if_pos rfl, hj']
      exact ⟨v, rfl, ho, hb⟩
    · rw [packC, packB, packOk_no (.inr (.inr (by rw [hj']; exact hf))), if_neg (by simp), if_neg (by simp)]
      exact ⟨_, rfl, World.ownsRow_nil _ _ _ _, hb⟩
  · refine (rpack_arg ao len cap k w (by omega)).mono ?_
    rintro e w' ⟨rfl, rfl⟩
    rw [packC, packB, packOk_no (by omega), if_neg (by simp), if_neg (by simp)]
    exact ⟨_, rfl, World.ownsRow_nil _ _ _ _, Below.refl _ _⟩

def unpArg (n k : Int) : Bool := decide (0 ≤ k) && decide (k ≤ 64) && decide (0 ≤ n) && decide (n ≤ 1048576)
def unpC (l : List Nat) (n k : Int) : Int := if unpArg n k then ((jb l (n.toNat * k.toNat) : Nat) : Int) else 1
def unpL (l : List Nat) (n k : Int) : List Int := if unpArg n k && jb l (n.toNat * k.toNat) == 0 then nums l n.toNat k.toNat else []
theorem unpArg_iff (n k : Int) : unpArg n k = true ↔ 0 ≤ k ∧ k ≤ 64 ∧ 0 ≤ n ∧ n ≤ 1048576 := by simp [unpArg, and_assoc]
theorem unpL_le (l : List Nat) (n k : Int) : (unpL l n k).length ≤ 1048576 := by
  unfold unpL
  split
  · rename_i h
    rw [Bool.and_eq_true, unpArg_iff] at h
    rw [nums_length]; omega
  · simp

theorem unpack_u (ao : Option Addr) (len cap : Nat) (l : List Nat) (n k : Int) (w : World) (h : Sl w .u8 ao len cap (ints l)) (h256 : ∀ x ∈ l, x < 256) (hm : len ≤ 1099511627776) :
    Calls Try.prog 23 #[.slice ao len cap, .int .i64 n, .int .i64 k] w fun e w' => ∃ v, e = .returned (.tuple #[v, .int .i64 (unpC l n k)]) ∧ w'.ownsRow w.heap.size 32 1 v (unpL l n k).length ((unpL l n k).map (Value.int .u64)) ∧ Below w.heap.size w w' := by
  by_cases ha : unpArg n k = true
  · obtain ⟨h0, h1, h2, h3⟩ := (unpArg_iff n k).1 ha
    by_cases hj : jb l (n.toNat * k.toNat) = 0
    · refine (unpack_good ao len cap l n k w h h256 (by omega) h2 h3 h0 h1 hj).mono ?_
      rintro e w' ⟨v, rfl, ho, hb⟩
      rw [unpC, unpL, ha, hj, if_pos rfl, if_pos (by simp), nums_length]
      exact ⟨v, rfl, ho, hb⟩
    · refine (unpack_bad ao len cap l n k w h (by omega) h2 h3 h0 h1 _ rfl (by omega)).mono ?_
      rintro e w' ⟨rfl, rfl⟩
      rw [unpC, unpL, ha, if_pos rfl, if_neg (by simp [hj])]
      exact ⟨_, rfl, World.ownsRow_nil _ _ _ _, Below.refl _ _⟩
  · have hn : ¬ (0 ≤ k ∧ k ≤ 64 ∧ 0 ≤ n ∧ n ≤ 1048576) := fun h => ha ((unpArg_iff n k).2 h)
    refine (unpack_arg ao len cap n k w (by omega)).mono ?_
    rintro e w' ⟨rfl, rfl⟩
    rw [unpC, unpL, if_neg ha, if_neg (by simp [ha])]
    exact ⟨_, rfl, World.ownsRow_nil _ _ _ _, Below.refl _ _⟩

theorem runpack_u (ao : Option Addr) (len cap : Nat) (l : List Nat) (n k : Int) (w : World) (h : Sl w .u8 ao len cap (ints l)) (h256 : ∀ x ∈ l, x < 256) (hm : len ≤ 1099511627776) :
    Calls Try.prog 24 #[.slice ao len cap, .int .i64 n, .int .i64 k] w fun e w' => ∃ v, e = .returned (.tuple #[v, .int .i64 (unpC l n k)]) ∧ w'.ownsRow w.heap.size 32 1 v (unpL l n k).length ((unpL l n k).map (Value.int .u64)) ∧ Below w.heap.size w w' := by
  by_cases ha : unpArg n k = true
  · obtain ⟨h0, h1, h2, h3⟩ := (unpArg_iff n k).1 ha
    obtain ⟨i, rfl⟩ := Int.eq_ofNat_of_zero_le h2
    obtain ⟨j, rfl⟩ := Int.eq_ofNat_of_zero_le h0
    refine (runpack_any ao len cap l i j w h h256 hm (by omega) (by omega)).mono ?_
    rintro e w' (⟨hj, v, rfl, ho, hb⟩ | ⟨hj, rfl, hb⟩)
    · rw [unpC, unpL, ha, Int.toNat_natCast, Int.toNat_natCast, hj, if_pos rfl, if_pos (by simp), nums_length]
      exact ⟨v, rfl, ho, hb⟩
    · rw [unpC, unpL, ha, Int.toNat_natCast, Int.toNat_natCast, if_pos rfl, if_neg (by simp [hj])]
      exact ⟨_, rfl, World.ownsRow_nil _ _ _ _, hb⟩
  · have hn : ¬ (0 ≤ k ∧ k ≤ 64 ∧ 0 ≤ n ∧ n ≤ 1048576) := fun h => ha ((unpArg_iff n k).2 h)
    refine (runpack_arg ao len cap n k w (by omega)).mono ?_
    rintro e w' ⟨rfl, rfl⟩
    rw [unpC, unpL, if_neg ha, if_neg (by simp [ha])]
    exact ⟨_, rfl, World.ownsRow_nil _ _ _ _, Below.refl _ _⟩

set_option maxHeartbeats 400000 in
theorem bitsPacks_big (w : World) (a : Option Addr) (len cap : Nat) (k : Int) (a2 : Option Addr) (len2 cap2 : Nat) (n : Int) (h : 1000 < len ∨ 5000 < len2) (hr : cap * 8 ≤ 140737488351232) (hl : len ≤ cap) (hr2 : cap2 * 1 ≤ 140737488351232) (hl2 : len2 ≤ cap2) :
    Calls Try.prog 4 #[.slice a len cap, .int .i64 k, .slice a2 len2 cap2, .int .i64 n] w fun e w' => e = .returned (.bool true) ∧ Below w.heap.size w w' := by
  rcases (show 1000 < len ∨ (len ≤ 1000 ∧ 5000 < len2) by omega) with h1 | ⟨h1, h2⟩
  all_goals
    clear h
    go_enter Try.func4, Try.ntmps4
    go_wp2_with fail
    refine (shown_any w).mono ?_
    rintro e w2 ⟨rfl, hb⟩
    go_wp2
    go_ret
    exact ⟨rfl, hb⟩

set_option maxHeartbeats 1000000 in
theorem bitsPacks_small (w : World) (a : Option Addr) (len cap : Nat) (l : List Int) (hsl : Sl w .u64 a len cap l) (hin : In64 l) (k : Int) (a2 : Option Addr) (len2 cap2 : Nat) (b : List Nat) (hsb : Sl w .u8 a2 len2 cap2 (ints b)) (h256 : ∀ x ∈ b, x < 256) (n : Int) (h1 : len ≤ 1000) (h2 : len2 ≤ 5000) :
    Calls Try.prog 4 #[.slice a len cap, .int .i64 k, .slice a2 len2 cap2, .int .i64 n] w fun e w' => e = .returned (.bool true) ∧ Below w.heap.size w w' := by
  have HSL := hide hsl
  have HIN := hide hin
  have HSB := hide hsb
  have H2 := hide h256
  have HLL := hide hsl.1
  have HPL := hide (packB_le l k)
  have HUL := hide (unpL_le b n k)
  clear hsl hin hsb h256
  go_enter Try.func4, Try.ntmps4
  go_wp2_with fail
  refine (shown_any w).mono ?_
  rintro e w2 ⟨rfl, hb⟩
  have hs := hb.size
  go_wp2_with fail
  refine (pack_u _ _ _ l _ _ (HSL.out.below hb) (by omega) HIN.out).mono ?_
  rintro e w3 ⟨v1, rfl, ho1, hb3⟩
  have hb4 := hb.trans (hb3.mono hs)
  have hs4 := hb4.size
  obtain ⟨ao1, cap1, hv1, hsl1, _⟩ := Sl.of_bytes ho1
  have HS1 := hide hsl1
  clear hb hs hb3 ho1 hsl1
  subst hv1
  go_wp2_with fail
  refine (rpack_u _ _ _ l _ _ (HSL.out.below hb4) (by omega) HIN.out).mono ?_
  rintro e w5 ⟨v2, rfl, ho2, hb5⟩
  have hb6 := hb4.trans (hb5.mono hs4)
  have hs6 := hb6.size
  obtain ⟨ao2, cap2', hv2, hsl2, _⟩ := Sl.of_bytes ho2
  have HS2 := hide hsl2
  have HS1' := hide (HS1.out.below hb5)
  clear hb4 hs4 hb5 ho2 hsl2 HS1
  subst hv2
  go_wp2_with fail
  refine (unpack_u _ _ _ b _ _ _ (HSB.out.below hb6) H2.out (by omega)).mono ?_
  rintro e w7 ⟨v3, rfl, ho3, hb7⟩
  have hb8 := hb6.trans (hb7.mono hs6)
  have hs8 := hb8.size
  obtain ⟨ao3, cap3, hv3, hsl3, _⟩ := Sl.of_owns ho3
  have HS3 := hide hsl3
  have HS1'' := hide (HS1'.out.below hb7)
  have HS2' := hide (HS2.out.below hb7)
  clear hb6 hs6 hb7 ho3 hsl3 HS1' HS2
  subst hv3
  go_wp2_with fail
  refine (runpack_u _ _ _ b _ _ _ (HSB.out.below hb8) H2.out (by omega)).mono ?_
  rintro e w9 ⟨v4, rfl, ho4, hb9⟩
  have hb10 := hb8.trans (hb9.mono hs8)
  have hs10 := hb10.size
  obtain ⟨ao4, cap4, hv4, hsl4, _⟩ := Sl.of_owns ho4
  have HS4 := hide hsl4
  have HS3' := hide (HS3.out.below hb9)
  have hcv1 := str_of (HS1''.out.below hb9)
  have hcv2 := str_of (HS2'.out.below hb9)
  clear hb8 hs8 hb9 ho4 hsl4 HS1'' HS2' HS3
  subst hv4
  go_wp2_with fail
  refine (same_yes _ _ _ _ _ _ _ HS3'.out HS4.out (by have := HUL.out; omega)).mono ?_
  rintro e w11 ⟨rfl, hk11⟩
  have hb11 : Below w.heap.size w w11 := hb10.trans (hk11.below hs10 (by simp))
  clear hcv1 hcv2 hk11
  go_wp2_with fail
  refine (width_w _ _ _ _ _ (HSL.out.below hb11) (by omega) HIN.out).mono ?_
  rintro e w12 ⟨rfl, rfl⟩
  go_wp2_with fail
  refine (rwidth_any _ _ _ _ _ (HSL.out.below hb11) (by omega) HIN.out).mono ?_
  rintro e w13 ⟨rfl, rfl⟩
  go_wp2
  go_ret
  exact ⟨rfl, hb11⟩

theorem bitsPacks_walk (w : World) (a : Option Addr) (len cap : Nat) (l : List Int) (c : Came .u64 w a len cap l) (hr : cap * 8 ≤ 140737488351232) (k : Int) (wk : (Lit.int .i64 k).wf = true) (a2 : Option Addr) (len2 cap2 : Nat) (z : List Int) (c2 : Came .u8 w a2 len2 cap2 z) (hr2 : cap2 * 1 ≤ 140737488351232) (n : Int) (wn : (Lit.int .i64 n).wf = true) :
    Calls Try.prog 4 #[.slice a len cap, .int .i64 k, .slice a2 len2 cap2, .int .i64 n] w fun e w' => e = .returned (.bool true) ∧ Below w.heap.size w w' := by
  obtain ⟨b, rfl, h256⟩ := came_bytes c2
  by_cases h : len ≤ 1000 ∧ len2 ≤ 5000
  · exact bitsPacks_small w a len cap l c.1 (fun x hx => wf_u64 (c.2 x hx)) k a2 len2 cap2 b c2.1 h256 n h.1 h.2
  · exact bitsPacks_big w a len cap k a2 len2 cap2 n (by omega) hr c.1.2.1 hr2 c2.1.2.1
end Go.Proofs.Ytjhcfbofjnmeiaa

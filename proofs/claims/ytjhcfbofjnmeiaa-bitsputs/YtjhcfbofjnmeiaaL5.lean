/- The walk of the statement: what is unpacked is packed as the very bytes. -/
import Derived.Test.YtjhcfbofjnmeiaaL4
namespace Go.Proofs.Ytjhcfbofjnmeiaa
set_option linter.unusedVariables false
open Go.RowKit

/-- Bytes that came in. -/
theorem came_bytes {w : World} {a : Option Addr} {len cap : Nat} {z : List Int} (h : Came .u8 w a len cap z) : ∃ l : List Nat, z = ints l ∧ (∀ x ∈ l, x < 256) := by
  refine ⟨z.map Int.toNat, ?_, ?_⟩
  · simp only [ints, List.map_map]
    conv => lhs; rw [← List.map_id z]
    apply List.map_congr_left
    intro x hx
    have := wf_u8 (h.2 x hx)
    simp; omega
  · intro x hx
    obtain ⟨y, hy, rfl⟩ := List.mem_map.1 hx
    have := wf_u8 (h.2 y hy)
    omega

/-- Unpack, where the bytes aren't just so many bits. -/
theorem unpack_bad (ao : Option Addr) (len cap : Nat) (l : List Nat) (n k : Int) (w : World) (h : Sl w .u8 ao len cap (ints l)) (hm : len ≤ 140737488355328) (hn0 : 0 ≤ n) (hn : n ≤ 1048576) (hk0 : 0 ≤ k) (hk : k ≤ 64) (c : Int) (hj : ((jb l (n.toNat * k.toNat) : Nat) : Int) = c) (hc : c ≠ 0) :
    Calls Try.prog 23 #[.slice ao len cap, .int .i64 n, .int .i64 k] w fun e w' => e = .returned (.tuple #[.slice none 0 0, .int .i64 c]) ∧ w' = w := by
  obtain ⟨i, rfl⟩ := Int.eq_ofNat_of_zero_le hn0
  obtain ⟨j, rfl⟩ := Int.eq_ofNat_of_zero_le hk0
  rw [Int.toNat_natCast, Int.toNat_natCast] at hj
  rw [← hj]
  exact unpack_no ao len cap l i j w h hm (by omega) (by omega) (by omega)

/-- Unpack, where they are. -/
theorem unpack_good (ao : Option Addr) (len cap : Nat) (l : List Nat) (n k : Int) (w : World) (h : Sl w .u8 ao len cap (ints l)) (h256 : ∀ x ∈ l, x < 256) (hm : len ≤ 140737488355328) (hn0 : 0 ≤ n) (hn : n ≤ 1048576) (hk0 : 0 ≤ k) (hk : k ≤ 64) (hj : jb l (n.toNat * k.toNat) = 0) :
    Calls Try.prog 23 #[.slice ao len cap, .int .i64 n, .int .i64 k] w fun e w' => ∃ v', e = .returned (.tuple #[v', .int .i64 0]) ∧ w'.ownsRow w.heap.size 32 1 v' n.toNat ((nums l n.toNat k.toNat).map (Value.int .u64)) ∧ Below w.heap.size w w' := by
  obtain ⟨i, rfl⟩ := Int.eq_ofNat_of_zero_le hn0
  obtain ⟨j, rfl⟩ := Int.eq_ofNat_of_zero_le hk0
  rw [Int.toNat_natCast, Int.toNat_natCast] at hj
  rw [Int.toNat_natCast, Int.toNat_natCast]
  exact unpack_yes ao len cap l i j w h h256 hm (by omega) (by omega) hj

set_option maxHeartbeats 400000 in
theorem bitsOnes_big (w : World) (a : Option Addr) (len cap : Nat) (n m : Int) (h : 2000 < len) (hc : len ≤ cap) (hr : cap * 1 ≤ 140737488351232) :
    Calls Try.prog 6 #[.slice a len cap, .int .u16 n, .int .u8 m] w fun e w' => e = .returned (.bool true) ∧ Below w.heap.size w w' := by
  go_enter Try.func6, Try.ntmps6
  go_wp2_with fail
  refine (shown_any w).mono ?_
  rintro e w2 ⟨rfl, hb⟩
  go_wp2
  go_ret
  exact ⟨rfl, hb⟩

set_option maxHeartbeats 400000 in
theorem bitsOnes_bad (w : World) (a : Option Addr) (len cap : Nat) (l : List Nat) (hsl : Sl w .u8 a len cap (ints l)) (n m : Int) (hn0 : 0 ≤ n) (hn1 : n < 65536) (hm0 : 0 ≤ m) (hm1 : m < 256) (h : len ≤ 2000) (hj : jb l (n.toNat * (m % 65).toNat) ≠ 0) :
    Calls Try.prog 6 #[.slice a len cap, .int .u16 n, .int .u8 m] w fun e w' => e = .returned (.bool true) ∧ Below w.heap.size w w' := by
  obtain ⟨c, hc⟩ : ∃ c, ((jb l (n.toNat * (m % 65).toNat) : Nat) : Int) = c := ⟨_, rfl⟩
  have hc0 : c ≠ 0 := by omega
  have hcb : (c != 0) = true := by simpa using hc0
  have HC := hide hc
  have HSL := hide hsl
  have HC0 := hide hc0
  clear hc hj hsl hc0
  go_enter Try.func6, Try.ntmps6
  go_wp2_with fail
  refine (shown_any w).mono ?_
  rintro e w2 ⟨rfl, hb⟩
  go_wp2_with fail
  refine (unpack_bad _ _ _ l _ _ _ (HSL.out.below hb) (by omega) (by omega) (by omega) (by omega) (by omega) c HC.out HC0.out).mono ?_
  rintro e w3 ⟨rfl, rfl⟩
  go_wp2
  go_ret
  exact ⟨rfl, hb⟩

theorem jb_more (l : List Nat) (n : Nat) (h : jb l n = 0) : jb (l ++ [0]) n = 4 := by
  have := (jb_zero h).1
  unfold jb
  rw [if_neg (by simp; omega), if_pos (by simp; omega)]

set_option maxHeartbeats 1000000 in
theorem bitsOnes_good (w : World) (a : Option Addr) (len cap : Nat) (l : List Nat) (hsl : Sl w .u8 a len cap (ints l)) (h256 : ∀ x ∈ l, x < 256) (n m : Int) (hn0 : 0 ≤ n) (hn1 : n < 65536) (hm0 : 0 ≤ m) (hm1 : m < 256) (h : len ≤ 2000) (hj : jb l (n.toNat * (m % 65).toNat) = 0) :
    Calls Try.prog 6 #[.slice a len cap, .int .u16 n, .int .u8 m] w fun e w' => e = .returned (.bool true) ∧ Below w.heap.size w w' := by
  obtain ⟨i0, hi, hz0, hz1, hz2⟩ := info_parts Try.infoU8
  obtain ⟨N, rfl⟩ := Int.eq_ofNat_of_zero_le hn0
  obtain ⟨K, hK⟩ : ∃ K, m % 65 = K := ⟨_, rfl⟩
  have hK0 : 0 ≤ K := by omega
  have hK1 : K ≤ 64 := by omega
  rw [hK, Int.toNat_natCast] at hj
  have HK := hide hK
  have HJ := hide hj
  have HJM : Hid (((jb (l ++ [0]) (N * K.toNat) : Nat) : Int) = 4) := by show _ = _; rw [jb_more _ _ hj]; rfl
  have HSL := hide hsl
  have H2 := hide h256
  have hll : l.length = len := by rw [← hsl.1, ints_length]
  have hcap := hsl.2.1
  have HLL := hide hll
  have HBN := hide (bytes_nums l N K.toNat h256 hj)
  have HIF := hide (In64_nums l N K.toNat (by omega))
  have HNL := hide (nums_length l N K.toNat)
  have hd : decide ((2000 : Int) < (len : Int)) = false := by simp; omega
  clear hj hsl h256 hK hll
  go_enter Try.func6, Try.ntmps6
  go_wp2_with fail
  refine (shown_any w).mono ?_
  rintro e w2 ⟨rfl, hb⟩
  go_wp2_with fail
  rw [HK.out]
  refine (unpack_good _ _ _ l _ _ _ (HSL.out.below hb) H2.out (by omega) (by omega) (by omega) hK0 hK1 (by rw [Int.toNat_natCast]; exact HJ.out)).mono ?_
  rintro e w3 ⟨v1, rfl, ho1, hb3⟩
  have hb4 := hb.trans (hb3.mono hb.size)
  have hs4 := hb4.size
  rw [Int.toNat_natCast] at ho1
  obtain ⟨ao1, cap1, hv1, hsl1, _⟩ := Sl.of_owns (l := nums l N K.toNat) (k := .u64) (by rw [HNL.out]; exact ho1)
  rw [HNL.out] at hv1 hsl1
  have HS1 := hide hsl1
  clear ho1 hsl1 hb hb3
  subst hv1
  go_wp2_with fail
  refine (pack_i _ _ _ (nums l N K.toNat) _ _ HS1.out (by omega) HIF.out.1 hK0 hK1).mono ?_
  rintro e w5 (⟨_, v2, rfl, ho2, hb5⟩ | ⟨hn, _⟩)
  case inr => exact absurd HIF.out.2 hn
  rw [HBN.out] at ho2
  have hb6 := hb4.trans (hb5.mono hs4)
  have hs6 := hb6.size
  obtain ⟨ao2, cap2, hv2, hsl2, hob2⟩ := Sl.of_bytes ho2
  rw [HLL.out] at hv2 hsl2
  have HS2 := hide hsl2
  clear ho2 hsl2 hb5 hb4 hs4
  subst hv2
  go_wp2_with (at_builtin; refine wpList_append_to rfl (.tmp 46) (.tmp 47) 23 rfl w5.heap.size 5 i0 (.int .u8 0) 1 1 Try.underlying23 hi hz0 hz1 hz2 rfl (by decide) _ 0 [] rfl (World.ownsRow_lit w5 #[] 0 (Nat.le_refl _) (by decide) rfl) a len cap ((ints l).map (Value.int .u8)) rfl ?c0 ?c6 ?c1 (ints_oneCell _ _) ?c3 ?c4 (by simp) ?_)
  case c0 => intro h; have := HSL.out.2.2.2.1 h; omega
  case c6 => simpa using HSL.out.1
  case c1 => exact (HSL.out.below (hb6.alloc hs6 _)).news
  case c3 => unfold maxLen; omega
  case c4 => omega
  intro v3 w7 ho3 has3
  have hb7 : Below w5.heap.size w5 w7 := ((Below.refl _ _).alloc (Nat.le_refl _) _).trans (has3.below (by simp) (by simp [Value.ownBlock]))
  have hs7 := hb7.size
  clear has3
  go_wp2_with (at_builtin; refine wpList_append_to rfl (.tmp 48) (.tmp 49) 23 rfl w5.heap.size 5 i0 (.int .u8 0) 1 1 Try.underlying23 hi hz0 hz1 hz2 rfl (by decide) _ _ _ rfl (ho3.alloc _) (some ⟨w7.heap.size, 0, none⟩) 1 1 [.int .u8 0] rfl (by simp) rfl (Sl.news1 _ _) (one_oneCell _ _) (by unfold maxLen; omega) (by omega) (by simp; omega) ?_)
  intro v4 w8 ho4 has4
  have hb8 : Below w5.heap.size w5 w8 := (hb7.alloc hs7 _).trans (has4.below (by simp; omega) (fun k hk => (owns_lt ho3 hk).1))
  have hs8 := hb8.size
  clear has4
  obtain ⟨ao4, cap4, hv4, hsl4, _⟩ := Sl.of_bytes (l := l ++ [0]) (by rw [List.length_append, HLL.out, B8_append, B8_ints]; exact ho4)
  have hl4 : (l ++ [0]).length = len + 1 := by rw [List.length_append, HLL.out]; rfl
  rw [hl4] at hv4 hsl4
  have HS4 := hide hsl4
  clear ho3 ho4 hsl4 hb7 hs7 hl4
  subst hv4
  have hb9 := hb6.trans (hb8.mono hs6)
  have hcv1 := str_of (HS2.out.below hb8)
  have hcv2 := str_of (HSL.out.below hb9)
  have HB9 := hide hb9
  clear hb6 hb8 hb9
  go_wp2_with fail
  refine (unpack_bad _ _ _ (l ++ [0]) _ _ _ HS4.out (by omega) (by omega) (by omega) hK0 hK1 4 (by rw [Int.toNat_natCast]; exact HJM.out) (by omega)).mono ?_
  rintro e w9 ⟨rfl, rfl⟩
  go_wp2
  go_ret
  exact ⟨rfl, HB9.out⟩

theorem bitsOnes_walk (w : World) (a : Option Addr) (len cap : Nat) (z : List Int) (c : Came .u8 w a len cap z) (hr : cap * 1 ≤ 140737488351232) (n : Int) (w1 : (Lit.int .u16 n).wf = true) (m : Int) (w2 : (Lit.int .u8 m).wf = true) :
    Calls Try.prog 6 #[.slice a len cap, .int .u16 n, .int .u8 m] w fun e w' => e = .returned (.bool true) ∧ Below w.heap.size w w' := by
  obtain ⟨l, rfl, h256⟩ := came_bytes c
  obtain ⟨h0, h1⟩ := wf_u16 w1
  obtain ⟨h2, h3⟩ := wf_u8 w2
  by_cases h : len ≤ 2000
  · by_cases hj : jb l (n.toNat * (m % 65).toNat) = 0
    · exact bitsOnes_good w a len cap l c.1 h256 n m h0 h1 h2 h3 h hj
    · exact bitsOnes_bad w a len cap l c.1 n m h0 h1 h2 h3 h hj
  · exact bitsOnes_big w a len cap n m (by omega) c.1.2.1 hr
end Go.Proofs.Ytjhcfbofjnmeiaa

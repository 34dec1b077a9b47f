/- The contract of the document's answer for bits: Put. -/
import Derived.Test.YtjhcfbofjnmeiaaF6
import Derived.Test.YtjhcfbofjnmeiaaQ
namespace Go.Proofs.Ytjhcfbofjnmeiaa
set_option linter.unusedVariables false
open Go.RowKit

theorem Sb.news {w : World} {ao : Option Addr} {len cap : Nat} {l : List Bool} (h : Sb w ao len cap l) : ∀ ad, ao = some ad → ∀ j u, (Vb l)[j]? = some u → w.cell? (ad.add j) = some u := by
  obtain ⟨h1, h2, h3, h4, h5⟩ := h
  intro ad had j u hu
  have hj : j < l.length := by have := (List.getElem?_eq_some_iff.1 hu).1; simpa [Vb] using this
  rcases h5 with h5 | ⟨b, off, hao, hlt, h5⟩
  · omega
  · rw [hao] at had
    obtain rfl := Option.some.inj had
    rw [Addr.add_lit, h5 j (by omega)]
    simpa [Vb, List.getD, hj] using hu
theorem Vb_one (l : List Bool) : ∀ u ∈ Vb l, u.oneCell' = true := by
  intro u hu
  obtain ⟨_, _, rfl⟩ := List.mem_map.1 hu
  rfl

set_option maxHeartbeats 400000 in
theorem rput_no (ao : Option Addr) (len cap : Nat) (n k : Int) (w : World) (hn0 : 0 ≤ n) (hn1 : n < 18446744073709551616) (ho : okP (n, k) = false) :
    Calls Try.prog 12 #[.slice ao len cap, .int .u64 n, .int .i64 k] w fun e w' => e = .returned (.tuple #[.slice ao len cap, .int .i64 1]) ∧ w' = w := by
  have h : ¬ (0 ≤ k ∧ k ≤ 64 ∧ n < (2 : Int) ^ k.toNat) := fun h => by rw [(okP_iff n k).2 h] at ho; exact absurd ho (by simp)
  rcases (show k < 0 ∨ (0 ≤ k ∧ 64 < k) ∨ (0 ≤ k ∧ k ≤ 64) by omega) with h1 | ⟨h1, h2⟩ | ⟨h1, h2⟩
  · clear h ho
    go_enter Try.func12, Try.ntmps12
    go_wp2
    go_ret2
    exact ⟨rfl, rfl⟩
  · clear h ho
    go_enter Try.func12, Try.ntmps12
    go_wp2
    go_ret2
    exact ⟨rfl, rfl⟩
  · have HD : Hid (decide (n < (2 : Int) ^ k.toNat) = false) := decide_eq_false (fun hh => h ⟨h1, h2, hh⟩)
    clear h ho
    go_enter Try.func12, Try.ntmps12
    go_wp2_with fail
    refine (rfits_i n k false w hn0 hn1 h1 h2 HD.out).mono ?_
    rintro e w' ⟨rfl, rfl⟩
    go_wp2
    go_ret2
    exact ⟨rfl, rfl⟩

set_option maxHeartbeats 1000000 in
theorem rput_yes (ao : Option Addr) (len cap : Nat) (bs : List Bool) (n : Int) (k : Nat) (w : World) (h : Sb w ao len cap bs) (hm : len + 64 ≤ 1099511627776) (hn0 : 0 ≤ n) (hn1 : n < 18446744073709551616) (hk : k ≤ 64) (hf : n < (2 : Int) ^ k) :
    Calls Try.prog 12 #[.slice ao len cap, .int .u64 n, .int .i64 k] w fun e w' => ∃ v', e = .returned (.tuple #[v', .int .i64 0]) ∧ w'.ownsRow w.heap.size 4 1 v' (bs ++ A.bitsOf n.toNat k).length (Vb (bs ++ A.bitsOf n.toNat k)) ∧ Below w.heap.size w w' := by
  obtain ⟨i0, hi, hz0, hz1, hz2⟩ := info_parts Try.infoBool
  have HD : Hid (decide (n < (2 : Int) ^ (k : Int).toNat) = true) := by show _ = _; rw [Int.toNat_natCast]; exact decide_eq_true hf
  have hd : decide ((k : Int) < 0) = false := by simp
  have hd2 : decide ((64 : Int) < (k : Int)) = false := by simp; omega
  have H := hide h
  have HL := hide h.1
  have hlc := h.2.1
  clear h hf
  go_enter Try.func12, Try.ntmps12
  go_wp2_with fail
  refine (rfits_i n k true w hn0 hn1 (by omega) (by omega) HD.out).mono ?_
  rintro e w' ⟨rfl, rfl⟩
  go_wp2_with (at_builtin; refine wpList_append_to rfl (.tmp 23) (.tmp 24) 29 rfl w'.heap.size 4 i0 (.bool false) 1 1 Try.underlying29 hi hz0 hz1 hz2 rfl (by decide) _ 0 [] rfl (World.ownsRow_lit w' #[] 0 (Nat.le_refl _) (by decide) rfl) ao len cap (Vb bs) rfl ?c0 ?c6 ?c1 (Vb_one _) ?c3 ?c4 (by simp) ?_)
  case c0 => intro h; have := H.out.2.2.2.1 h; omega
  case c6 => rw [Vb_length, HL.out]; omega
  case c1 => exact (H.out.below ((Below.refl _ _).alloc (Nat.le_refl _) _)).news
  case c3 => unfold maxLen; omega
  case c4 => omega
  intro v1 w1 ho1 has1
  have hb1 : Below w'.heap.size w' w1 := ((Below.refl _ _).alloc (Nat.le_refl _) _).trans (has1.below (by simp) (by simp [Value.ownBlock]))
  clear has1
  go_wp2_with fail
  go_loopw [1, 8, 9] (fun u1 u8 u9 wr => ∃ q : Nat, q ≤ k ∧ u9 = .int .i64 q ∧ u1 = .int .u64 ((sh n.toNat q : Nat) : Int) ∧ wr.ownsRow w'.heap.size 4 1 u8 (len + q) (Vb (bs ++ A.bitsOf n.toNat q)) ∧ Below w'.heap.size w' wr) (fun _ _ u9 _ => k - (intOf u9).toNat)
  case atStart => exact ⟨0, Nat.zero_le _, rfl, by rw [sh_zero]; go_num, by simpa [A.bitsOf] using ho1, hb1⟩
  case round =>
    obtain ⟨q, hq, rfl, rfl, hown, hbr⟩ := hrel
    have hsz := hbr.size
    have hsl := sh_le n.toNat q
    by_cases hlt : q < k
    · have HQ := hide (sh_bit n.toNat q)
      have HSH := hide (sh_succ n.toNat q)
      obtain ⟨c, hce⟩ : ∃ c : Bool, (((sh n.toNat q : Nat) : Int) % 2 == 1) = c := ⟨_, rfl⟩
      have HC : Hid ((sh n.toNat q % 2 == 1) = c) := by
        show _ = _
        rw [← hce, Bool.eq_iff_iff, beq_iff_eq, beq_iff_eq]; omega
      go_wp2_with (at_builtin; refine wpList_append_to rfl (.tmp 31) (.tmp 35) 29 rfl w'.heap.size 4 i0 (.bool false) 1 1 Try.underlying29 hi hz0 hz1 hz2 rfl (by decide) _ _ _ rfl (hown.alloc _) (some ⟨wr.heap.size, 0, none⟩) 1 1 [.bool c] rfl (by simp) rfl (newsB _ _) (oneB _) (by unfold maxLen; omega) (by omega) (by simp; omega) ?_)
      intro v2 w2 hown2 has2
      have hbn : Below w'.heap.size w' w2 := (hbr.alloc hsz _).trans (has2.below (by simp; omega) (fun k hk => (owns_lt hown hk).1))
      clear has2 hce
      go_wp2
      go_roundw
      case rel => exact ⟨q + 1, by omega, by go_num, by rw [HSH.out]; go_num, by rw [HQ.out, HC.out, ← List.append_assoc, Vb_append]; exact hown2, hbn⟩
      case measure => simp [intOf]; omega
    · have hqk : q = k := by omega
      subst hqk
      have hl : (bs ++ A.bitsOf n.toNat q).length = len + q := by rw [List.length_append, A.bitsOf_length, HL.out]
      have HLL := hide hl
      clear hl
      go_wp2
      go_ret2
      exact ⟨_, rfl, by rw [HLL.out]; exact hown, hbr⟩

theorem rput_i (ao : Option Addr) (len cap : Nat) (bs : List Bool) (n k : Int) (w : World) (h : Sb w ao len cap bs) (hm : len + 64 ≤ 1099511627776) (hn0 : 0 ≤ n) (hn1 : n < 18446744073709551616) (ho : okP (n, k) = true) :
    Calls Try.prog 12 #[.slice ao len cap, .int .u64 n, .int .i64 k] w fun e w' => ∃ v', e = .returned (.tuple #[v', .int .i64 0]) ∧ w'.ownsRow w.heap.size 4 1 v' (bs ++ A.bitsOf n.toNat k.toNat).length (Vb (bs ++ A.bitsOf n.toNat k.toNat)) ∧ Below w.heap.size w w' := by
  obtain ⟨h0, h1, h2⟩ := (okP_iff n k).1 ho
  obtain ⟨j, rfl⟩ := Int.eq_ofNat_of_zero_le h0
  rw [Int.toNat_natCast] at h2 ⊢
  exact rput_yes ao len cap bs n j w h hm hn0 hn1 (by omega) h2
end Go.Proofs.Ytjhcfbofjnmeiaa

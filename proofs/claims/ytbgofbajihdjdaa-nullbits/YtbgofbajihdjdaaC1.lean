/- The contracts of package bits' Writer: add, Put, Len, Bytes (and slices.Clone at bytes). -/
import Derived.Test.YtbgofbajihdjdaaW
namespace Go.Proofs.Ytbgofbajihdjdaa
set_option linter.unusedVariables false
open Go.RowKit
theorem or_last (y k : Nat) (x : Int) (hk : k < 8) (hy : y < 2 ^ k) (hx0 : 0 ≤ x) (hx1 : x ≤ 1) : bits .or .u8 (y : Int) (x * 2 ^ k % 256) = ((y + (x == 1).toNat * 2 ^ k : Nat) : Int) := by
  have hp : 2 ^ k ≤ 2 ^ 7 := Nat.pow_le_pow_right (by omega) (by omega)
  have hy2 : y < 256 := by omega
  rcases (show x = 0 ∨ x = 1 by omega) with rfl | rfl
  · have := u8_or_nat y 0 hy2 (by omega)
    simpa using this
  · have e : (1 : Int) * 2 ^ k % 256 = ((2 ^ k : Nat) : Int) := by
      rw [Int.one_mul, ← pow_int]; omega
    rw [e, u8_or_nat y (2 ^ k) hy2 (by omega), Nat.or_comm, nat_join k (2 ^ k) y (by simp) hy]
    simp [Nat.add_comm]

theorem or_first (x : Int) (hx0 : 0 ≤ x) (hx1 : x ≤ 1) : bits .or .u8 0 (x % 256) = (((x == 1).toNat : Nat) : Int) := by
  have := or_last 0 0 x (by omega) (by simp) hx0 hx1
  simpa using this

/-- A byte of the Writer's row is stored, and its count of bits. -/
theorem wr_store {w : World} {p g k cap j : Nat} {xs : List Value} {v n : Value} {t e : TypeId} (m u : Value) (hb : w.heap[p]? = some (.cells #[v, n] t (0, 0))) (ho : w.ownsRow (p + 1) e 1 (.slice (some ⟨g, 0, none⟩) k cap) k xs) :
    ((w.setCell ⟨g, j, none⟩ u).setCell ⟨p, 1, none⟩ m).heap[p]? = some (.cells #[v, m] t (0, 0)) ∧ ((w.setCell ⟨g, j, none⟩ u).setCell ⟨p, 1, none⟩ m).ownsRow (p + 1) e 1 (.slice (some ⟨g, 0, none⟩) k cap) k (xs.set j u) := by
  have hg : p + 1 ≤ g := (owns_lt ho rfl).1
  have h1 : (w.setCell ⟨g, j, none⟩ u).heap[p]? = some (.cells #[v, n] t (0, 0)) := by rw [Below.heap_setCell _ _ _ _ (by show p ≠ g; omega)]; exact hb
  refine ⟨(heap_setCell_two h1 m).2, ?_⟩
  exact ownsRow_setCell_below (ho.stored j u).1 (by simp) m

theorem B8_set (l : List Nat) (j y : Nat) : (B8 l).set j (.int .u8 (y : Int)) = B8 (l.set j y) := by simp [B8, List.map_set]

set_option maxHeartbeats 400000 in
theorem add_new (p : Nat) (v : Value) (bs : List Bool) (x : Int) (w : World) (hw : Wr w p v bs) (hl : bs.length < 1099511627776) (hx0 : 0 ≤ x) (hx1 : x ≤ 1) (h8 : bs.length % 8 = 0) :
    Calls Try.prog 42 #[.pointer (some ⟨p, 0, none⟩), .int .u8 x] w fun e w' => e = .returned (.tuple #[]) ∧ ∃ v', Wr w' p v' (bs ++ [x == 1]) ∧ WS p w v w' v' := by
  obtain ⟨hc0, hc1, hf0, hf1⟩ := hw.cells
  obtain ⟨i0, hi, hz0, hz1, hz2⟩ := info_parts Try.infoU8
  have hbl := A.bytesOf_length bs
  have hm : ((bs.length : Int) % 8 == 0) = true := by simp; omega
  have hown := hw.2
  have hplt := hw.lt
  go_enter Try.func42, Try.ntmps42
  go_wp2_with (first
      | (at_builtin; refine wpList_append_to rfl _ _ 36 rfl (p + 1) 5 i0 (.int .u8 0) 1 1 Try.underlying36 hi hz0 hz1 hz2 rfl (by decide) _ _ _ rfl (hown.alloc _) (some ⟨w.heap.size, 0, none⟩) 1 1 [.int .u8 0] rfl ?c0 rfl ?c1 ?c2 ?c3 ?c4 ?c5 ?_)
      | go_in)
  case c0 => simp
  case c1 =>
    intro ad had j u hj
    obtain rfl := Option.some.inj had
    match j, hj with
    | 0, hj => simp at hj; subst hj; simp [Addr.add]
  case c2 => intro u hu; simp at hu; subst hu; rfl
  case c3 => unfold maxLen; omega
  case c4 => omega
  case c5 => simp; omega
  intro v' w1 hown' has
  obtain ⟨g, cap, hv, hg, hglt, hcap⟩ := owns_pos hown' (by omega)
  have hbp : w1.heap[p]? = some (.cells #[v, .int .i64 (bs.length : Int)] 73 (0, 0)) := by
    rw [has.1.block p (by simp; omega) (fun e => by have := (owns_lt hown e).1; omega), Below.heap_alloc _ _ _ hplt]
    exact hw.1
  have hd0 : w1.cell? ⟨p, 0, none⟩ = some v := by simp [World.cell?, hbp]
  have hd1 : w1.cell? ⟨p, 1, none⟩ = some (.int .i64 (bs.length : Int)) := by simp [World.cell?, hbp]
  have he0 : w1.frozen? ⟨p, 0, none⟩ = false := by simp [World.frozen?, hbp]
  have he1 : w1.frozen? ⟨p, 1, none⟩ = false := by simp [World.frozen?, hbp]
  have HA := AS.pre ((Kept.refl _ w).alloc _) has
  have HB := hide hbp
  have HO := hide hown'
  subst hv
  have hlast : w1.cell? ⟨g, (bs.length + 7) / 8, none⟩ = some (.int .u8 0) := by
    rw [hown'.cellAt _ (by omega)]
    rw [List.getElem?_append_right (by simp [B8, hbl])]; simp [B8, hbl]
  have hfl := hown'.frozenAt ((bs.length + 7) / 8)
  clear hc0 hc1 hf0 hf1 hown' has hbp hown
  go_wp2
  go_region
  go_wp2
  go_end0
  refine ⟨rfl, .slice (some ⟨g, 0, none⟩) ((bs.length + 7) / 8 + 1) cap, ?_, ?_⟩
  · rw [or_first x hx0 hx1]
    have s1 := (heap_setCell_two HB.out (.slice (some ⟨g, 0, none⟩) ((bs.length + 7) / 8 + 1) cap)).1
    have s2 := ownsRow_setCell_below HO.out (a := ⟨p, 0, none⟩) (by simp) (.slice (some ⟨g, 0, none⟩) ((bs.length + 7) / 8 + 1) cap)
    have s3 := wr_store (j := (bs.length + 7) / 8) (.int .i64 ((bs.length : Int) + 1)) (.int .u8 (((x == 1).toNat : Nat) : Int)) s1 s2
    refine ⟨?_, ?_⟩
    · rw [show (((bs ++ [x == 1]).length : Nat) : Int) = (bs.length : Int) + 1 by simp]; exact s3.1
    · have e : (B8 (A.bytesOf bs) ++ [Value.int .u8 0]).set ((bs.length + 7) / 8) (Value.int .u8 (((x == 1).toNat : Nat) : Int)) = B8 (A.bytesOf (bs ++ [x == 1])) := by
        rw [A.bytesOf_snoc_new _ _ h8, B8_append, ← hbl, ← B8_length, List.set_append_right _ _ (Nat.le_refl _), Nat.sub_self]; rfl
      have e2 : (A.bytesOf (bs ++ [x == 1])).length = (bs.length + 7) / 8 + 1 := by rw [A.bytesOf_snoc_new _ _ h8]; simp [hbl]
      rw [e2, ← e]
      exact s3.2
  · refine ⟨Kept.drew (Kept.setCell (Kept.setCell (Kept.setCell (HA.1.mono fun k hk => .inl (.inr hk)) ?_ _) ?_ _) ?_ _), HA.2⟩
    · exact .inl (.inl rfl)
    · rcases HA.2 with h2 | h2
      · exact .inl (.inr (h2 ▸ rfl))
      · exact .inr (h2 g rfl)
    · exact .inl (.inl rfl)

set_option maxHeartbeats 400000 in
theorem add_old (p : Nat) (v : Value) (bs : List Bool) (x : Int) (w : World) (hw : Wr w p v bs) (hl : bs.length < 1099511627776) (hx0 : 0 ≤ x) (hx1 : x ≤ 1) (h8 : bs.length % 8 ≠ 0) :
    Calls Try.prog 42 #[.pointer (some ⟨p, 0, none⟩), .int .u8 x] w fun e w' => e = .returned (.tuple #[]) ∧ ∃ v', Wr w' p v' (bs ++ [x == 1]) ∧ WS p w v w' v' := by
  obtain ⟨hc0, hc1, hf0, hf1⟩ := hw.cells
  have hbl := A.bytesOf_length bs
  have hm : ((bs.length : Int) % 8 == 0) = false := by simp; omega
  have hown := hw.2
  have hplt := hw.lt
  obtain ⟨g, cap, hv, hg, hglt, hcap⟩ := owns_pos hown (by omega)
  subst hv
  rw [hbl] at hc0
  have hlast : w.cell? ⟨g, (bs.length + 7) / 8 - 1, none⟩ = some (.int .u8 (((A.bytesOf bs).getD ((bs.length + 7) / 8 - 1) 0 : Nat) : Int)) := by
    rw [hown.cellAt _ (by omega)]
    simp [B8, hbl, List.getD, show (bs.length + 7) / 8 - 1 < (bs.length + 7) / 8 by omega]
  have hfl := hown.frozenAt ((bs.length + 7) / 8 - 1)
  have hll := A.last_lt bs h8
  obtain ⟨y, hy⟩ : ∃ y, y = (A.bytesOf bs).getD ((bs.length + 7) / 8 - 1) 0 := ⟨_, rfl⟩
  rw [← hy] at hlast hll
  have HY := hide hy
  have HO := hide hown
  have HL := hide hbl
  clear hown hy hbl
  go_enter Try.func42, Try.ntmps42
  go_wp2
  go_region
  go_wp2
  go_end0
  refine ⟨rfl, .slice (some ⟨g, 0, none⟩) (A.bytesOf bs).length cap, ?_, ?_⟩
  · rw [or_last y _ x (by omega) hll hx0 hx1]
    have s3 := wr_store (j := (bs.length + 7) / 8 - 1) (.int .i64 ((bs.length : Int) + 1)) (.int .u8 ((y + (x == 1).toNat * 2 ^ (bs.length % 8) : Nat) : Int)) hw.1 HO.out
    refine ⟨?_, ?_⟩
    · rw [show (((bs ++ [x == 1]).length : Nat) : Int) = (bs.length : Int) + 1 by simp]; exact s3.1
    · have e : A.bytesOf (bs ++ [x == 1]) = (A.bytesOf bs).set ((bs.length + 7) / 8 - 1) (y + (x == 1).toNat * 2 ^ (bs.length % 8)) := by rw [A.bytesOf_snoc_old _ _ h8, ← HY.out]
      rw [e, List.length_set, ← B8_set]
      exact s3.2
  · refine ⟨Kept.drew (Kept.setCell (Kept.setCell (Kept.refl _ _) ?_ _) ?_ _), .inl rfl⟩
    · exact .inl (.inr rfl)
    · exact .inl (.inl rfl)

/-- (*Writer).add: a bit more. -/
theorem add_any (p : Nat) (v : Value) (bs : List Bool) (x : Int) (w : World) (hw : Wr w p v bs) (hl : bs.length < 1099511627776) (hx0 : 0 ≤ x) (hx1 : x ≤ 1) :
    Calls Try.prog 42 #[.pointer (some ⟨p, 0, none⟩), .int .u8 x] w fun e w' => e = .returned (.tuple #[]) ∧ ∃ v', Wr w' p v' (bs ++ [x == 1]) ∧ WS p w v w' v' := by
  by_cases h8 : bs.length % 8 = 0
  · exact add_new p v bs x w hw hl hx0 hx1 h8
  · exact add_old p v bs x w hw hl hx0 hx1 h8

set_option maxHeartbeats 400000 in
theorem may_yes (n : Int) (w : World) (h0 : 0 ≤ n) (h1 : n ≤ 64) :
    Calls Try.prog 31 #[.int .i64 n] w fun e w' => e = .returned (.bool true) ∧ w' = w := by
  go_enter Try.func31, Try.ntmps31
  go_wp2
  go_ret
  exact ⟨rfl, rfl⟩

set_option maxHeartbeats 400000 in
theorem may_no (n : Int) (w : World) (h : n < 0 ∨ 64 < n) :
    Calls Try.prog 31 #[.int .i64 n] w fun e w' => e = .returned (.bool false) ∧ w' = w := by
  rcases h with h | h
  · go_enter Try.func31, Try.ntmps31
    go_wp2
    go_ret
    exact ⟨rfl, rfl⟩
  · have h0 : 0 ≤ n := by omega
    have h1 : decide (n ≤ 64) = false := by simp; omega
    go_enter Try.func31, Try.ntmps31
    go_wp2
    go_ret
    exact ⟨rfl, rfl⟩

theorem one_le_div (n b : Int) (hb : 0 < b) (h : b ≤ n) : 1 ≤ n / b := by
  rw [Int.le_ediv_iff_mul_le hb]; omega

theorem and_one (x : Int) (h0 : 0 ≤ x) (h1 : x < 256) : bits .and .u8 x 1 = x % 2 := by
  have := u8_and x 1 h0 h1 (by omega) (by omega)
  rw [this, show (1 : Int).toNat = 1 from rfl, nat_mask1]; omega

theorem and_bit (n : Int) (j : Nat) (h0 : 0 ≤ n) :
    0 ≤ bits .and .u8 (n / 2 ^ j % 256) 1 ∧ bits .and .u8 (n / 2 ^ j % 256) 1 ≤ 1 ∧ (bits .and .u8 (n / 2 ^ j % 256) 1 == 1) = (n.toNat / 2 ^ j % 2 == 1) := by
  rw [and_one _ (by omega) (by omega)]
  refine ⟨by omega, by omega, ?_⟩
  obtain ⟨m, rfl⟩ := Int.eq_ofNat_of_zero_le h0
  rw [← pow_int, Int.toNat_natCast, Bool.eq_iff_iff, beq_iff_eq, beq_iff_eq, ← Int.natCast_ediv]
  omega

set_option maxHeartbeats 400000 in
/-- (*Writer).Put, where the number has room: its bits stand behind those that are there. -/
theorem put_yes (p : Nat) (v : Value) (bs : List Bool) (n : Int) (k : Nat) (w : World) (hw : Wr w p v bs) (hl : bs.length + 64 < 1099511627776) (hn0 : 0 ≤ n) (hn1 : n < 2 ^ k) (hn2 : n < 18446744073709551616) (hk : k ≤ 64) :
    Calls Try.prog 37 #[.pointer (some ⟨p, 0, none⟩), .int .u64 n, .int .i64 k] w fun e w' => e = .returned (.int .i64 0) ∧ ∃ v', Wr w' p v' (bs ++ A.bitsOf n.toNat k) ∧ WS p w v w' v' := by
  have hd : (n / 2 ^ k != 0) = false := by rw [Int.ediv_eq_zero_of_lt hn0 hn1]; rfl
  clear hn1
  go_enter Try.func37, Try.ntmps37
  go_wp2_with (go_at_call 31; refine (may_yes _ _ (by omega) (by omega)).mono ?_; rintro e w' ⟨rfl, rfl⟩)
  go_loopw [22] (fun i wr => ∃ j : Nat, j ≤ k ∧ i = .int .i64 j ∧ ∃ v1, Wr wr p v1 (bs ++ A.bitsOf n.toNat j) ∧ WS p w' v wr v1) (fun i _ => k - (intOf i).toNat)
  case atStart => exact ⟨0, Nat.zero_le _, rfl, v, by simpa [A.bitsOf] using hw, WS.refl _ _ _⟩
  case round =>
    obtain ⟨j, hj, rfl, v1, hw1, hs1⟩ := hrel
    by_cases hlt : j < k
    · have HA := hide (and_bit n j hn0)
      go_wp2_with fail
      refine (add_any p v1 _ _ wr hw1 (by simp [A.bitsOf_length]; omega) HA.out.1 HA.out.2.1).mono ?_
      rintro e w2 ⟨rfl, v2, hw2, hs2⟩
      go_wp2
      go_roundw
      case rel => exact ⟨j + 1, by omega, by go_num, v2, by rw [A.bitsOf_succ, ← HA.out.2.2, ← List.append_assoc]; exact hw2, hs1.trans hs2⟩
      case measure => simp [intOf]; omega
    · have hjk : j = k := by omega
      subst hjk
      go_wp2
      go_ret
      exact ⟨rfl, v1, hw1, hs1⟩

set_option maxHeartbeats 400000 in
/-- (*Writer).Put, where the number has no room, or the width may not be: ErrArg, and nothing is changed. -/
theorem put_no (p : Nat) (n k : Int) (w : World) (hn0 : 0 ≤ n) (hn2 : n < 18446744073709551616) (h : k < 0 ∨ 64 < k ∨ (2 : Int) ^ k.toNat ≤ n) :
    Calls Try.prog 37 #[.pointer (some ⟨p, 0, none⟩), .int .u64 n, .int .i64 k] w fun e w' => e = .returned (.int .i64 1) ∧ w' = w := by
  by_cases hm : k < 0 ∨ 64 < k
  · clear h
    go_enter Try.func37, Try.ntmps37
    go_wp2_with (go_at_call 31; refine (may_no _ _ hm).mono ?_; rintro e w' ⟨rfl, rfl⟩)
    go_ret
    exact ⟨rfl, rfl⟩
  · obtain ⟨j, rfl⟩ := Int.eq_ofNat_of_zero_le (show 0 ≤ k by omega)
    have hd : (n / 2 ^ j != 0) = true := by
      rw [bne_iff_ne]; intro e
      have h2 : (2 : Int) ^ j ≤ n := by simp only [Int.toNat_natCast] at h; omega
      have h3 := one_le_div n (2 ^ j) (Int.pow_pos (by omega)) h2
      omega
    have h0 : j ≤ 64 := by omega
    clear h hm
    go_enter Try.func37, Try.ntmps37
    go_wp2_with (go_at_call 31; refine (may_yes _ _ (by omega) (by omega)).mono ?_; rintro e w' ⟨rfl, rfl⟩)
    go_ret
    exact ⟨rfl, rfl⟩

set_option maxHeartbeats 400000 in
theorem put_nil (n k : Int) (w : World) :
    Calls Try.prog 37 #[.pointer none, .int .u64 n, .int .i64 k] w fun e w' => e = .returned (.int .i64 1) ∧ w' = w := by
  go_enter Try.func37, Try.ntmps37
  go_wp2
  go_ret
  exact ⟨rfl, rfl⟩

set_option maxHeartbeats 400000 in
theorem bytes_nil (w : World) : Calls Try.prog 38 #[.pointer none] w fun e w' => e = .returned (.slice none 0 0) ∧ w' = w := by
  go_enter Try.func38, Try.ntmps38
  go_wp2
  go_ret
  exact ⟨rfl, rfl⟩

end Go.Proofs.Ytbgofbajihdjdaa

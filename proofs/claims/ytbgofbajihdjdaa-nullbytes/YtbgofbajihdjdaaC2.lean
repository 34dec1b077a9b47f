/- The contracts of slices.Clone at bytes, Bytes, From, Left, next, Get. -/
import Derived.Test.YtbgofbajihdjdaaC1
import Derived.Lib.SliceRun
namespace Go.Proofs.Ytbgofbajihdjdaa
set_option linter.unusedVariables false
open Go.RowKit

set_option maxHeartbeats 400000 in
theorem clone_nil (w : World) : Calls Try.prog 39 #[.slice none 0 0] w fun e w' => e = .returned (.slice none 0 0) ∧ w' = w := by
  have hq := fun (w : World) (a : Option Addr) (n c : Nat) => Lib.run_eql_slice_nil (P := Try.prog) w 36 5 a n c 0 0 Try.underlying36
  go_enter Try.func39, Try.ntmps39
  go_wp2
  go_ret
  exact ⟨rfl, rfl⟩

set_option maxHeartbeats 400000 in
theorem clone_some (x : Addr) (len cap : Nat) (l : List Int) (w : World) (h : Sl w .u8 (some x) len cap l) (hb : len ≤ 140737488355328) :
    Calls Try.prog 39 #[.slice (some x) len cap] w fun e w' => ∃ v', e = .returned v' ∧ w'.ownsRow w.heap.size 5 1 v' len (l.map (Value.int .u8)) ∧ Below w.heap.size w w' := by
  obtain ⟨i0, hi, hz0, hz1, hz2⟩ := info_parts Try.infoU8
  have hq := fun (w : World) (a : Option Addr) (n c : Nat) => Lib.run_eql_slice_nil (P := Try.prog) w 36 5 a n c 0 0 Try.underlying36
  go_enter Try.func39, Try.ntmps39
  go_wp2_with (at_builtin; refine wpList_append_to rfl _ _ 36 rfl w.heap.size 5 i0 (.int .u8 0) 1 1 Try.underlying36 hi hz0 hz1 hz2 rfl (by decide) _ 0 [] rfl (World.ownsRow_lit w #[] 0 (Nat.le_refl _) (by decide) rfl) (some x) len cap (l.map (Value.int .u8)) rfl ?c0 ?c6 ?c1 ?c2 ?c3 ?c4 ?c5 ?_)
  case c0 => simp
  case c6 => simpa using h.1
  case c1 => exact (h.below ((Below.refl _ _).alloc (Nat.le_refl _) _)).news
  case c2 => exact ints_oneCell _ _
  case c3 => have := h.2.1; have := h.2.2.1; omega
  case c4 => omega
  case c5 => simp
  intro v' w1 hown has
  go_wp2
  go_ret
  refine ⟨v', rfl, by simpa using hown, ?_⟩
  have hk := Kept.below (((Kept.refl _ w).alloc _).trans' (F := fun k => w.heap.size ≤ k) has.1 (fun k hk => ?_)) (Nat.le_refl _) (fun k hk => hk)
  · exact hk
  · exact .inl (owns_lt (World.ownsRow_lit (base := w.heap.size) (e := 5) (size := 1) w #[] 0 (Nat.le_refl _) (by decide) rfl) hk).1

/-- slices.Clone at bytes. -/
theorem clone_any (ao : Option Addr) (len cap : Nat) (l : List Int) (w : World) (h : Sl w .u8 ao len cap l) (hb : len ≤ 140737488355328) :
    Calls Try.prog 39 #[.slice ao len cap] w fun e w' => ∃ v', e = .returned v' ∧ w'.ownsRow w.heap.size 5 1 v' len (l.map (Value.int .u8)) ∧ Below w.heap.size w w' := by
  cases ao with
  | some x => exact clone_some x len cap l w h hb
  | none =>
    obtain ⟨h1, h2, h3, h4, h5⟩ := h
    obtain rfl := h4 rfl
    obtain rfl : len = 0 := by omega
    obtain rfl : l = [] := List.eq_nil_of_length_eq_zero h1
    refine (clone_nil w).mono ?_
    rintro e w' ⟨rfl, rfl⟩
    exact ⟨_, rfl, World.ownsRow_nil _ _ _ _, Below.refl _ _⟩

set_option maxHeartbeats 400000 in
/-- (*Writer).Bytes: the bits, the last byte filled with zeros, in memory of its own. -/
theorem bytes_any (p : Nat) (v : Value) (bs : List Bool) (w : World) (hw : Wr w p v bs) (hl : bs.length < 1099511627776) :
    Calls Try.prog 38 #[.pointer (some ⟨p, 0, none⟩)] w fun e w' => ∃ v', e = .returned v' ∧ w'.ownsRow w.heap.size 5 1 v' (A.bytesOf bs).length (B8 (A.bytesOf bs)) ∧ Below w.heap.size w w' := by
  obtain ⟨hc0, hc1, hf0, hf1⟩ := hw.cells
  obtain ⟨ao, cap, hv, hsl, _⟩ := Sl.of_bytes hw.2
  have hbl := A.bytesOf_length bs
  rw [B8_ints]
  have hb : (A.bytesOf bs).length ≤ 140737488355328 := by omega
  clear hbl hf0 hf1 hc1 hw
  subst hv
  go_enter Try.func38, Try.ntmps38
  go_wp2_with fail
  refine (clone_any _ _ _ _ _ hsl hb).mono ?_
  rintro e w' ⟨v', rfl, hown, hbel⟩
  go_wp2
  go_ret
  exact ⟨v', rfl, hown, hbel⟩

set_option maxHeartbeats 400000 in
/-- From: a reader of a copy of b. -/
theorem from_any (ao : Option Addr) (len cap : Nat) (l : List Nat) (w : World) (h : Sl w .u8 ao len cap (ints l)) (hb : len ≤ 140737488355328) :
    Calls Try.prog 33 #[.slice ao len cap] w fun e w' => ∃ p v, e = .returned (.pointer (some ⟨p, 0, none⟩)) ∧ Rd w' p v l 0 ∧ w.heap.size ≤ p ∧ (∀ g, v.ownBlock = some g → w.heap.size ≤ g) ∧ Below w.heap.size w w' := by
  go_enter Try.func33, Try.ntmps33
  go_wp2_with fail
  refine (clone_any _ _ _ _ _ h hb).mono ?_
  rintro e w1 ⟨v, rfl, hown, hbel⟩
  have hs := hbel.size
  have hlen : len = l.length := by rw [← h.1, ints_length]
  subst hlen
  rw [← B8_ints] at hown
  have HO := hide hown
  obtain ⟨ao', cap', hv, _, _⟩ := Sl.of_bytes hown
  clear hown
  subst hv
  go_wp2
  go_ret
  have ho := HO.out
  refine ⟨w1.heap.size, .slice ao' l.length cap', rfl, ⟨heap_alloc_new w1 _, owns_base (ho.alloc _) (by simp), ?_⟩, hs, fun g hg => (owns_lt ho hg).1, hbel.alloc hs _⟩
  intro e
  have := (owns_lt ho e).2
  omega

set_option maxHeartbeats 400000 in
theorem left_nil (w : World) : Calls Try.prog 40 #[.pointer none] w fun e w' => e = .returned (.int .i64 0) ∧ w' = w := by
  go_enter Try.func40, Try.ntmps40
  go_wp2
  go_ret
  exact ⟨rfl, rfl⟩

set_option maxHeartbeats 400000 in
theorem get_nil (k : Int) (w : World) : Calls Try.prog 34 #[.pointer none, .int .i64 k] w fun e w' => e = .returned (.tuple #[.int .u64 0, .int .i64 1]) ∧ w' = w := by
  go_enter Try.func34, Try.ntmps34
  go_wp2
  go_ret2
  exact ⟨rfl, rfl⟩

set_option maxHeartbeats 400000 in
/-- (*Reader).Left. -/
theorem left_any (p : Nat) (v : Value) (l : List Nat) (pos : Nat) (w : World) (hr : Rd w p v l pos) (hp : pos ≤ 8 * l.length) (hl : l.length ≤ 140737488355328) :
    Calls Try.prog 40 #[.pointer (some ⟨p, 0, none⟩)] w fun e w' => e = .returned (.int .i64 ((8 * l.length - pos : Nat) : Int)) ∧ Rd w' p v l pos ∧ Kept (fun _ => False) w w' := by
  obtain ⟨hc0, hc1, hf1⟩ := hr.cells
  obtain ⟨ao, cap, hv, hsl, _⟩ := Sl.of_bytes hr.2.1
  have HR := hide hr
  clear hsl hr
  subst hv
  go_enter Try.func40, Try.ntmps40
  go_wp2
  go_region
  go_wp2
  go_ret
  refine ⟨?_, HR.out, (Kept.refl _ _).drew⟩
  refine congrArg (fun x => Ending.returned (Value.int .i64 x)) ?_
  show (l.length : Int) * 8 - pos = _
  omega

/-- The bit at a place of bytes, as a number; the number of so many bits from a place on. -/
def bitAt (l : List Nat) (pos : Nat) : Nat := ((A.bitsB l).getD pos false).toNat
def getV (l : List Nat) (pos k : Nat) : Nat := A.valOf (((A.bitsB l).drop pos).take k)
theorem bitAt_le (l : List Nat) (pos : Nat) : bitAt l pos ≤ 1 := by unfold bitAt; cases (A.bitsB l).getD pos false <;> simp

theorem next_bit (l : List Nat) (pos : Nat) (hp : pos < 8 * l.length) (h256 : ∀ x ∈ l, x < 256) :
    bits .and .u8 (((l.getD (pos / 8) 0 : Nat) : Int) / 2 ^ (pos % 8)) 1 = ((bitAt l pos : Nat) : Int) := by
  unfold bitAt
  rw [A.bitsB_getD _ _ hp]
  have hx : l.getD (pos / 8) 0 < 256 := by
    have h1 : pos / 8 < l.length := by omega
    have : l.getD (pos / 8) 0 = l[pos / 8] := by simp [List.getD, h1]
    rw [this]; exact h256 _ (List.getElem_mem h1)
  generalize l.getD (pos / 8) 0 = x at hx ⊢
  rw [← pow_int, ← Int.natCast_ediv]
  have h1 : x / 2 ^ (pos % 8) ≤ x := Nat.div_le_self _ _
  generalize x / 2 ^ (pos % 8) = y at h1 ⊢
  rw [and_one _ (by omega) (by omega)]
  rcases Nat.mod_two_eq_zero_or_one y with h | h <;> simp [h] <;> omega

set_option maxHeartbeats 400000 in
/-- (*Reader).next: the next bit. -/
theorem next_any (p : Nat) (v : Value) (l : List Nat) (pos : Nat) (w : World) (hr : Rd w p v l pos) (hp : pos < 8 * l.length) (hl : l.length ≤ 140737488355328) (h256 : ∀ x ∈ l, x < 256) :
    Calls Try.prog 41 #[.pointer (some ⟨p, 0, none⟩)] w fun e w' => e = .returned (.int .u8 ((bitAt l pos : Nat) : Int)) ∧ Rd w' p v l (pos + 1) ∧ Kept (fun k => k = p) w w' := by
  obtain ⟨hc0, hc1, hf1⟩ := hr.cells
  obtain ⟨g, cap, hv, _, hglt, hcap⟩ := owns_pos hr.2.1 (by omega)
  have hx : w.cell? ⟨g, pos / 8, none⟩ = some (.int .u8 ((l.getD (pos / 8) 0 : Nat) : Int)) := by
    have h := hr.2.1
    rw [hv] at h
    rw [h.cellAt _ (by omega)]
    simp [B8, List.getD, show pos / 8 < l.length by omega]
  have HR := hide hr
  have HX := hide (next_bit l pos hp h256)
  have hpos : pos / 8 < l.length := by omega
  clear hr h256
  subst hv
  generalize ((l.getD (pos / 8) 0 : Nat) : Int) = x at hx HX
  go_enter Try.func41, Try.ntmps41
  go_wp2
  go_region
  go_wp2
  go_ret
  refine ⟨congrArg (fun x => Ending.returned (Value.int .u8 x)) HX.out, ?_, Kept.drew (Kept.setCell (F := fun k => k = p) (Kept.refl _ _) (.inl rfl) _)⟩
  obtain ⟨h1, h2, h3⟩ := HR.out
  have hpg : g ≠ p := fun e => h3 (by rw [e]; rfl)
  refine ⟨?_, ?_, h3⟩
  · have := (heap_setCell_two h1 (.int .i64 ((pos : Int) + 1))).2
    rw [show (((pos + 1 : Nat)) : Int) = (pos : Int) + 1 by omega]
    exact this
  · exact ownsRow_setCell_other h2 (a := ⟨p, 1, none⟩) (by intro e; exact h3 e) _

theorem or_get (a b : Nat) (j : Nat) (ha : a < 2 ^ j) (hb : b ≤ 1) (hj : j < 64) :
    bits .or .u64 (a : Int) (IntKind.u64.wrap ((b : Int) * 2 ^ j)) = ((a + 2 ^ j * b : Nat) : Int) := by
  rw [show ∀ n : Int, IntKind.u64.wrap n = n % 18446744073709551616 from fun n => by simp [IntKind.wrap, IntKind.bits, IntKind.signed]]
  have hp : 2 ^ j ≤ 2 ^ 63 := Nat.pow_le_pow_right (by omega) (by omega)
  rw [← pow_int, ← Int.natCast_mul]
  have e : ((b * 2 ^ j : Nat) : Int) % 18446744073709551616 = ((b * 2 ^ j : Nat) : Int) := by
    rcases (show b = 0 ∨ b = 1 by omega) with rfl | rfl
    · simp
    · rw [Nat.one_mul]; omega
  rw [e]
  have hb2 : b * 2 ^ j ≤ 2 ^ j := by
    rcases (show b = 0 ∨ b = 1 by omega) with rfl | rfl <;> simp
  rw [u64_or_nat a (b * 2 ^ j) (by omega) (by omega), Nat.or_comm, nat_join j (b * 2 ^ j) a (by simp) ha, Nat.mul_comm b, Nat.add_comm]

theorem take_drop_succ (l : List Bool) (pos j : Nat) (h : pos + j < l.length) : (l.drop pos).take (j + 1) = (l.drop pos).take j ++ [l.getD (pos + j) false] := by
  rw [List.take_succ_eq_append_getElem (by simp; omega)]
  simp [List.getD, h]

theorem getV_succ (l : List Nat) (pos j : Nat) (h : pos + j < 8 * l.length) : getV l pos (j + 1) = getV l pos j + 2 ^ j * bitAt l (pos + j) := by
  unfold getV bitAt
  have hl : (((A.bitsB l).drop pos).take j).length = j := by simp [A.bitsB_length]; omega
  rw [take_drop_succ _ _ _ (by rw [A.bitsB_length]; omega), A.valOf_append, hl]
  simp [A.valOf]

theorem getV_lt (l : List Nat) (pos j : Nat) : getV l pos j < 2 ^ j := by
  unfold getV
  have h1 := A.valOf_lt (((A.bitsB l).drop pos).take j)
  have h2 : (((A.bitsB l).drop pos).take j).length ≤ j := List.length_take_le _ _
  exact Nat.lt_of_lt_of_le h1 (Nat.pow_le_pow_right (by omega) h2)

set_option maxHeartbeats 400000 in
theorem get_no (p : Nat) (k : Int) (w : World) (h : k < 0 ∨ 64 < k) :
    Calls Try.prog 34 #[.pointer (some ⟨p, 0, none⟩), .int .i64 k] w fun e w' => e = .returned (.tuple #[.int .u64 0, .int .i64 1]) ∧ w' = w := by
  go_enter Try.func34, Try.ntmps34
  go_wp2_with (go_at_call 31; refine (may_no _ _ h).mono ?_; rintro e w' ⟨rfl, rfl⟩)
  go_ret2
  exact ⟨rfl, rfl⟩

set_option maxHeartbeats 400000 in
theorem get_short (p : Nat) (v : Value) (l : List Nat) (pos k : Nat) (w : World) (hr : Rd w p v l pos) (hp : pos ≤ 8 * l.length) (hl : l.length ≤ 140737488355328) (hk : k ≤ 64) (hs : 8 * l.length < pos + k) :
    Calls Try.prog 34 #[.pointer (some ⟨p, 0, none⟩), .int .i64 k] w fun e w' => e = .returned (.tuple #[.int .u64 0, .int .i64 3]) ∧ Rd w' p v l pos ∧ Kept (fun _ => False) w w' := by
  go_enter Try.func34, Try.ntmps34
  go_wp2_with (first
    | (go_at_call 31; refine (may_yes _ _ (by omega) (by omega)).mono ?_; rintro e w' ⟨rfl, rfl⟩)
    | (go_at_call 40; refine (left_any p v l pos _ hr hp hl).mono ?_; rintro e w1 ⟨rfl, hr1, hk1⟩))
  go_ret2
  exact ⟨rfl, hr1, hk1⟩

set_option maxHeartbeats 400000 in
theorem get_yes (p : Nat) (v : Value) (l : List Nat) (pos k : Nat) (w : World) (hr : Rd w p v l pos) (hl : l.length ≤ 140737488355328) (h256 : ∀ x ∈ l, x < 256) (hk : k ≤ 64) (hs : pos + k ≤ 8 * l.length) :
    Calls Try.prog 34 #[.pointer (some ⟨p, 0, none⟩), .int .i64 k] w fun e w' => e = .returned (.tuple #[.int .u64 ((getV l pos k : Nat) : Int), .int .i64 0]) ∧ Rd w' p v l (pos + k) ∧ Kept (fun x => x = p) w w' := by
  have H2 := hide h256
  have hd : decide (8 * l.length - pos < k) = false := by simp; omega
  clear h256
  go_enter Try.func34, Try.ntmps34
  go_wp2_with (first
    | (go_at_call 31; refine (may_yes _ _ (by omega) (by omega)).mono ?_; rintro e w' ⟨rfl, rfl⟩)
    | (go_at_call 40; refine (left_any p v l pos _ hr (by omega) hl).mono ?_; rintro e w1 ⟨rfl, hr1, hk1⟩))
  go_loopw [6, 20] (fun n i wr => ∃ j : Nat, j ≤ k ∧ i = .int .i64 j ∧ n = .int .u64 ((getV l pos j : Nat) : Int) ∧ Rd wr p v l (pos + j) ∧ Kept (fun x => x = p) w' wr) (fun _ i _ => k - (intOf i).toNat)
  case atStart => exact ⟨0, Nat.zero_le _, rfl, rfl, hr1, hk1.mono fun _ hx => hx.elim⟩
  case round =>
    obtain ⟨j, hj, rfl, rfl, hr2, hk2⟩ := hrel
    by_cases hlt : j < k
    · have HE := hide (getV_succ l pos j (by omega))
      have hb1 := bitAt_le l (pos + j)
      have HO := hide (or_get (getV l pos j) (bitAt l (pos + j)) j (getV_lt _ _ _) hb1 (by omega))
      go_wp2_with fail
      refine (next_any p v l (pos + j) wr hr2 (by omega) hl H2.out).mono ?_
      rintro e w2 ⟨rfl, hr3, hk3⟩
      go_wp2
      go_roundw
      case rel => exact ⟨j + 1, by omega, by go_num, by rw [HE.out, ← HO.out], hr3, hk2.trans hk3⟩
      case measure => simp [intOf]; omega
    · have hjk : j = k := by omega
      subst hjk
      go_wp2
      go_ret2
      exact ⟨rfl, hr2, hk2⟩
end Go.Proofs.Ytbgofbajihdjdaa

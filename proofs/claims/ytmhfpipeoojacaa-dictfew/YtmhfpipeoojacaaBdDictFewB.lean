/- The contract of the document's answer for bits: Pack. -/
import Derived.Test.YtmhfpipeoojacaaBdDictFewA
import Derived.Test.YtmhfpipeoojacaaBdB
import Derived.Test.YtmhfpipeoojacaaBdZC
import Derived.Test.YtmhfpipeoojacaaBdN
import Derived.Test.YtmhfpipeoojacaaBdY
namespace Go.Proofs.Ytmhfpipeoojacaa
set_option linter.unusedVariables false
set_option maxRecDepth 10000
open Go.RowKit

/-- The bits of the first numbers, and some of the next one. -/
def bt (l : List Int) (k j q : Nat) : List Bool := bitsAll (l.take j) k ++ A.bitsOf (l.getD j 0).toNat q
theorem bt_zero (l : List Int) (k j : Nat) : bt l k j 0 = bitsAll (l.take j) k := by simp [bt, A.bitsOf]
theorem bt_next (l : List Int) (k j : Nat) (h : j < l.length) : bt l k (j + 1) 0 = bt l k j k := by
  rw [bt_zero, take_snocD l j h, bitsAll_snoc]; rfl
theorem bt_succ (l : List Int) (k j q : Nat) : bt l k j (q + 1) = bt l k j q ++ [sh (l.getD j 0).toNat q % 2 == 1] := by
  unfold bt; rw [sh_bit, List.append_assoc]
theorem bt_le (l : List Int) (k j q : Nat) (hk : k ≤ 64) (hq : q ≤ k) : (bt l k j q).length ≤ l.length * 64 + 64 := by
  unfold bt
  have := bitsAll_le l k j hk
  rw [List.length_append, A.bitsOf_length]; omega

end Go.Proofs.Ytmhfpipeoojacaa
/- The contracts of the document's answer for bits: Get, Unpack. -/
namespace Go.Proofs.Ytmhfpipeoojacaa
set_option linter.unusedVariables false
set_option maxRecDepth 10000
open Go.RowKit

/-- The number of so many bits' last ones. -/
def topV (bs : List Bool) (k j : Nat) : Nat := A.valOf ((bs.take k).drop (k - j))
theorem topV_zero (bs : List Bool) (k : Nat) : topV bs k 0 = 0 := by
  unfold topV; rw [List.drop_of_length_le (by rw [List.length_take]; omega)]; rfl
theorem topV_all (bs : List Bool) (k : Nat) : topV bs k k = A.valOf (bs.take k) := by unfold topV; simp
theorem topV_succ (bs : List Bool) (k j : Nat) (hk : k ≤ bs.length) (hj : j < k) : topV bs k (j + 1) = 2 * topV bs k j + (bs.getD (k - 1 - j) false).toNat := by
  unfold topV
  have hl : k - (j + 1) < (bs.take k).length := by rw [List.length_take]; omega
  rw [← List.getElem_cons_drop (h := hl), show k - (j + 1) + 1 = k - j by omega]
  simp only [A.valOf]
  have e : (bs.take k)[k - (j + 1)] = bs.getD (k - 1 - j) false := by
    simp [List.getD, show k - 1 - j < bs.length by omega, show k - (j + 1) = k - 1 - j by omega]
  rw [e]; omega
theorem topV_lt (bs : List Bool) (k j : Nat) (hj : j ≤ k) : topV bs k j < 2 ^ j := by
  unfold topV
  have h1 := A.valOf_lt ((bs.take k).drop (k - j))
  have h2 : ((bs.take k).drop (k - j)).length ≤ j := by rw [List.length_drop, List.length_take]; omega
  exact Nat.lt_of_lt_of_le h1 (Nat.pow_le_pow_right (by omega) h2)

end Go.Proofs.Ytmhfpipeoojacaa
/- The contract of the document's answer for bits: Unpack. -/
namespace Go.Proofs.Ytmhfpipeoojacaa
set_option linter.unusedVariables false
set_option maxRecDepth 10000
open Go.RowKit

theorem tail_false (l : List Nat) (n : Nat) (hl : l.length = (n + 7) / 8) (hj : jb l n = 0) (i : Nat) (h1 : n ≤ i) (h2 : i < 8 * l.length) : (A.bitsB l).getD i false = false := by
  have hz := (jb_zero hj).2 (by omega)
  have h3 := A.bitsB_getD l i h2
  have e1 : i / 8 = (n + 7) / 8 - 1 := by omega
  have e2 : i % 8 = n % 8 + (i - n) := by omega
  rw [e1, e2] at h3
  have h4 : l.getD ((n + 7) / 8 - 1) 0 < 2 ^ (n % 8) := by
    rcases Nat.lt_or_ge (l.getD ((n + 7) / 8 - 1) 0) (2 ^ (n % 8)) with h | h
    · exact h
    · have := Nat.div_pos h (Nat.two_pow_pos (n % 8)); omega
  have h5 : l.getD ((n + 7) / 8 - 1) 0 / 2 ^ (n % 8 + (i - n)) = 0 := Nat.div_eq_of_lt (Nat.lt_of_lt_of_le h4 (Nat.pow_le_pow_right (by omega) (by omega)))
  rw [h3, h5]; rfl

theorem tail_zero (l : List Nat) (n : Nat) (hl : l.length = (n + 7) / 8) (h256 : ∀ x ∈ l, x < 256) (h : ∀ i, n ≤ i → i < 8 * l.length → (A.bitsB l).getD i false = false) : jb l n = 0 := by
  unfold jb
  rw [if_neg (by omega), if_neg (by omega), if_neg]
  rintro ⟨h8, hy⟩
  have hlast : (n + 7) / 8 - 1 < l.length := by omega
  have hy256 : l.getD ((n + 7) / 8 - 1) 0 < 256 := by
    have : l.getD ((n + 7) / 8 - 1) 0 = l[(n + 7) / 8 - 1] := by simp [List.getD, hlast]
    rw [this]; exact h256 _ (List.getElem_mem _)
  generalize hY : l.getD ((n + 7) / 8 - 1) 0 = y at hy hy256
  have hge : 2 ^ (n % 8) ≤ y := by
    rcases Nat.lt_or_ge y (2 ^ (n % 8)) with h' | h'
    · exact absurd (Nat.div_eq_of_lt h') hy
    · exact h'
  have hy0 : y ≠ 0 := by have := Nat.two_pow_pos (n % 8); omega
  have hlog : y.log2 < 8 := (Nat.log2_lt hy0).2 (by omega)
  have hlg : n % 8 ≤ y.log2 := (Nat.le_log2 hy0).2 hge
  have hb := h (n - n % 8 + y.log2) (by omega) (by omega)
  rw [A.bitsB_getD l _ (by omega)] at hb
  have e1 : (n - n % 8 + y.log2) / 8 = (n + 7) / 8 - 1 := by omega
  have e2 : (n - n % 8 + y.log2) % 8 = y.log2 := by omega
  rw [e1, e2, hY] at hb
  have hs := Nat.log2_self_le hy0
  have ht : y < 2 ^ (y.log2 + 1) := Nat.lt_log2_self
  have hd : y / 2 ^ y.log2 = 1 := by
    rw [Nat.pow_succ] at ht
    have hp := Nat.two_pow_pos y.log2
    have h1 : 1 ≤ y / 2 ^ y.log2 := (Nat.le_div_iff_mul_le hp).2 (by omega)
    have h2 : y / 2 ^ y.log2 < 2 := (Nat.div_lt_iff_lt_mul hp).2 (by omega)
    omega
  rw [hd] at hb
  simp at hb

end Go.Proofs.Ytmhfpipeoojacaa
/- The contract of the document's answer for bits: Unpack, where the bytes are as many as needed. -/
namespace Go.Proofs.Ytmhfpipeoojacaa
set_option linter.unusedVariables false
set_option maxRecDepth 10000
open Go.RowKit

theorem getV_drop (l : List Nat) (pos k : Nat) : A.valOf (((A.bitsB l).drop pos).take k) = getV l pos k := rfl

/-- What stands from a place on. -/
theorem Sb.cut_end {w : World} {ao : Option Addr} {n M : Nat} {bs : List Bool} (h : Sb w ao n M bs) : Sb w ao (n - M) 0 (bs.drop M) := by
  obtain ⟨h1, h2, h3, h4, h5⟩ := h
  exact ⟨by rw [List.length_drop]; omega, by omega, by simp [maxLen], fun _ => rfl, .inl (by omega)⟩
theorem Sb.cut_in {w : World} {ao : Option Addr} {n cap M : Nat} {bs : List Bool} (h : Sb w ao n cap bs) (hM : M ≤ n) : Sb w (Option.map (fun x => x.add M) ao) (n - M) (cap - M) (bs.drop M) := by
  obtain ⟨h1, h2, h3, h4, h5⟩ := h
  refine ⟨by rw [List.length_drop]; omega, by omega, by omega, by intro h; cases ao with | none => have := h4 rfl; omega | some x => simp at h, ?_⟩
  by_cases h0 : n - M = 0
  · exact .inl h0
  · rcases h5 with h5 | ⟨b, off, rfl, hlt, h5⟩
    · omega
    · refine .inr ⟨b, off + M, by simp [Addr.add], hlt, fun i hi => ?_⟩
      rw [Nat.add_assoc, h5 (M + i) (by omega)]
      simp [List.getD]

end Go.Proofs.Ytmhfpipeoojacaa
/- Plain facts: what was packed is unpacked, what is unpacked is packed as the very bytes; the walks of the two statements that say so. -/
namespace Go.Proofs.Ytmhfpipeoojacaa
set_option linter.unusedVariables false
set_option maxRecDepth 10000
open Go.RowKit

end Go.Proofs.Ytmhfpipeoojacaa
/- The walk of the statement: what was packed is unpacked. -/
namespace Go.Proofs.Ytmhfpipeoojacaa
set_option linter.unusedVariables false
set_option maxRecDepth 10000
open Go.RowKit

/-- Pack, with a width that may be, as a whole number. -/
theorem pack_i (ao : Option Addr) (len cap : Nat) (l : List Int) (k : Int) (w : World) (h : Sl w .u64 ao len cap l) (hm : len * 64 + 64 < 1099511627776) (hin : In64 l) (hk0 : 0 ≤ k) (hk : k ≤ 64) :
    Calls Try.prog 27 #[.slice ao len cap, .int .i64 k] w fun e w' =>
      (Fit l k.toNat ∧ ∃ v', e = .returned (.tuple #[v', .int .i64 0]) ∧ w'.ownsRow w.heap.size 5 1 v' (A.bytesOf (bitsAll l k.toNat)).length (B8 (A.bytesOf (bitsAll l k.toNat))) ∧ Below w.heap.size w w') ∨
      (¬ Fit l k.toNat ∧ e = .returned (.tuple #[.slice none 0 0, .int .i64 1]) ∧ Below w.heap.size w w') := by
  obtain ⟨j, rfl⟩ := Int.eq_ofNat_of_zero_le hk0
  rw [Int.toNat_natCast]
  exact pack_any ao len cap l j w h hm hin (by omega)

/-- Unpack of what was packed. -/
theorem unpack_pack (ao : Option Addr) (len cap : Nat) (l : List Int) (n k : Int) (w : World) (h : Sl w .u8 ao len cap (ints (A.bytesOf (bitsAll l k.toNat)))) (hl : n = (l.length : Int)) (hm : l.length ≤ 1048576) (hin : In64 l) (hk0 : 0 ≤ k) (hk : k ≤ 64) (hf : Fit l k.toNat) :
    Calls Try.prog 58 #[.slice ao len cap, .int .i64 n, .int .i64 k] w fun e w' => ∃ v', e = .returned (.tuple #[v', .int .i64 0]) ∧ w'.ownsRow w.heap.size 44 1 v' l.length (l.map (Value.int .u64)) ∧ Below w.heap.size w w' := by
  subst hl
  obtain ⟨j, rfl⟩ := Int.eq_ofNat_of_zero_le hk0
  rw [Int.toNat_natCast] at h hf
  have hbl := bitsAll_length l j
  have hj : jb (A.bytesOf (bitsAll l j)) (l.length * j) = 0 := by rw [← hbl]; exact jb_bytes _
  have hlen : len = (A.bytesOf (bitsAll l j)).length := by rw [← h.1, ints_length]
  rw [A.bytesOf_length, hbl] at hlen
  have hmul : l.length * j ≤ 1048576 * 64 := Nat.mul_le_mul hm (by omega)
  have := unpack_yes ao len cap (A.bytesOf (bitsAll l j)) l.length j w h (A.bytesOf_lt _) (by omega) hm (by omega) hj
  rw [nums_pack l j hin hf] at this
  exact this

/-- Pack, with a bit less than the numbers need. -/
theorem pack_less (ao : Option Addr) (len cap : Nat) (l : List Int) (w : World) (h : Sl w .u64 ao len cap l) (hm : len * 64 + 64 < 1099511627776) (hin : In64 l) :
    Calls Try.prog 27 #[.slice ao len cap, .int .i64 ((wid l : Int) - 1)] w fun e w' => e = .returned (.tuple #[.slice none 0 0, .int .i64 1]) ∧ Below w.heap.size w w' := by
  have hw := wid_le l hin
  by_cases h0 : wid l = 0
  · refine (pack_arg ao len cap _ w (.inl (by omega))).mono ?_
    rintro e w' ⟨rfl, rfl⟩
    exact ⟨rfl, Below.refl _ _⟩
  · refine (pack_i ao len cap l _ w h hm hin (by omega) (by omega)).mono ?_
    rintro e w' (⟨hf, _⟩ | ⟨_, rfl, hb⟩)
    · have := (fit_wid l _ hin).1 hf
      omega
    · exact ⟨rfl, hb⟩

end Go.Proofs.Ytmhfpipeoojacaa
/- The walk of the statement: what is unpacked is packed as the very bytes. -/
namespace Go.Proofs.Ytmhfpipeoojacaa
set_option linter.unusedVariables false
set_option maxRecDepth 10000
open Go.RowKit

/-- Unpack, where the bytes aren't just so many bits. -/
theorem unpack_bad (ao : Option Addr) (len cap : Nat) (l : List Nat) (n k : Int) (w : World) (h : Sl w .u8 ao len cap (ints l)) (hm : len ≤ 140737488355328) (hn0 : 0 ≤ n) (hn : n ≤ 1048576) (hk0 : 0 ≤ k) (hk : k ≤ 64) (c : Int) (hj : ((jb l (n.toNat * k.toNat) : Nat) : Int) = c) (hc : c ≠ 0) :
    Calls Try.prog 58 #[.slice ao len cap, .int .i64 n, .int .i64 k] w fun e w' => e = .returned (.tuple #[.slice none 0 0, .int .i64 c]) ∧ w' = w := by
  obtain ⟨i, rfl⟩ := Int.eq_ofNat_of_zero_le hn0
  obtain ⟨j, rfl⟩ := Int.eq_ofNat_of_zero_le hk0
  rw [Int.toNat_natCast, Int.toNat_natCast] at hj
  rw [← hj]
  exact unpack_no ao len cap l i j w h hm (by omega) (by omega) (by omega)

/-- Unpack, where they are. -/
theorem unpack_good (ao : Option Addr) (len cap : Nat) (l : List Nat) (n k : Int) (w : World) (h : Sl w .u8 ao len cap (ints l)) (h256 : ∀ x ∈ l, x < 256) (hm : len ≤ 140737488355328) (hn0 : 0 ≤ n) (hn : n ≤ 1048576) (hk0 : 0 ≤ k) (hk : k ≤ 64) (hj : jb l (n.toNat * k.toNat) = 0) :
    Calls Try.prog 58 #[.slice ao len cap, .int .i64 n, .int .i64 k] w fun e w' => ∃ v', e = .returned (.tuple #[v', .int .i64 0]) ∧ w'.ownsRow w.heap.size 44 1 v' n.toNat ((nums l n.toNat k.toNat).map (Value.int .u64)) ∧ Below w.heap.size w w' := by
  obtain ⟨i, rfl⟩ := Int.eq_ofNat_of_zero_le hn0
  obtain ⟨j, rfl⟩ := Int.eq_ofNat_of_zero_le hk0
  rw [Int.toNat_natCast, Int.toNat_natCast] at hj
  rw [Int.toNat_natCast, Int.toNat_natCast]
  exact unpack_yes ao len cap l i j w h h256 hm (by omega) (by omega) hj

end Go.Proofs.Ytmhfpipeoojacaa
/- Pack and Unpack, the program's and the document's, each under one name; the walk of the statement that they are the same. -/
namespace Go.Proofs.Ytmhfpipeoojacaa
set_option linter.unusedVariables false
set_option maxRecDepth 10000
open Go.RowKit

theorem pack_u (ao : Option Addr) (len cap : Nat) (l : List Int) (k : Int) (w : World) (h : Sl w .u64 ao len cap l) (hm : len * 64 + 64 < 1099511627776) (hin : In64 l) :
    Calls Try.prog 27 #[.slice ao len cap, .int .i64 k] w fun e w' => ∃ v, e = .returned (.tuple #[v, .int .i64 (packC l k)]) ∧ w'.ownsRow w.heap.size 5 1 v (packB l k).length (B8 (packB l k)) ∧ Below w.heap.size w w' := by
  by_cases hk : 0 ≤ k ∧ k ≤ 64
  · refine (pack_i ao len cap l k w h hm hin hk.1 hk.2).mono ?_
    rintro e w' (⟨hf, v, rfl, ho, hb⟩ | ⟨hf, rfl, hb⟩)
    · rw [packC, packB, packOk_yes hk.1 hk.2 hf, if_pos rfl, if_pos rfl]
      exact ⟨v, rfl, ho, hb⟩
    · rw [packC, packB, packOk_no (.inr (.inr hf)), if_neg (by simp), if_neg (by simp)]
      exact ⟨_, rfl, World.ownsRow_nil _ _ _ _, hb⟩
  · refine (pack_arg ao len cap k w (by omega)).mono ?_
    rintro e w' ⟨rfl, rfl⟩
    rw [packC, packB, packOk_no (by omega), if_neg (by simp), if_neg (by simp)]
    exact ⟨_, rfl, World.ownsRow_nil _ _ _ _, Below.refl _ _⟩

theorem unpack_u (ao : Option Addr) (len cap : Nat) (l : List Nat) (n k : Int) (w : World) (h : Sl w .u8 ao len cap (ints l)) (h256 : ∀ x ∈ l, x < 256) (hm : len ≤ 140737488355328) :
    Calls Try.prog 58 #[.slice ao len cap, .int .i64 n, .int .i64 k] w fun e w' => ∃ v, e = .returned (.tuple #[v, .int .i64 (unpC l n k)]) ∧ w'.ownsRow w.heap.size 44 1 v (unpL l n k).length ((unpL l n k).map (Value.int .u64)) ∧ Below w.heap.size w w' := by
  by_cases ha : unpArg n k = true
  · obtain ⟨h0, h1, h2, h3⟩ := (unpArg_iff n k).1 ha
    by_cases hj : jb l (n.toNat * k.toNat) = 0
    · refine (unpack_good ao len cap l n k w h h256 (by omega) h2 h3 h0 h1 hj).mono ?_
      rintro e w' ⟨v, rfl, ho, hb⟩
      rw [unpC, unpL, ha, hj, if_pos rfl, if_pos (by simp), nums_length]
      exact ⟨v, rfl, ho, hb⟩
    · refine (unpack_bad ao len cap l n k w h (by omega) h2 h3 h0 h1 _ rfl (by omega)).mono ?_
      rintro e w' ⟨rfl, rfl⟩
      rw [unpC, unpL, ha, if_pos rfl, if_neg (by simp [hj])]
      exact ⟨_, rfl, World.ownsRow_nil _ _ _ _, Below.refl _ _⟩
  · have hn : ¬ (0 ≤ k ∧ k ≤ 64 ∧ 0 ≤ n ∧ n ≤ 1048576) := fun h => ha ((unpArg_iff n k).2 h)
    refine (unpack_arg ao len cap n k w (by omega)).mono ?_
    rintro e w' ⟨rfl, rfl⟩
    rw [unpC, unpL, if_neg ha, if_neg (by simp [ha])]
    exact ⟨_, rfl, World.ownsRow_nil _ _ _ _, Below.refl _ _⟩

end Go.Proofs.Ytmhfpipeoojacaa
/- Plain facts: so many bytes ahead tell a value, or its error, as all of them do. -/
namespace Go.Proofs.Ytmhfpipeoojacaa
set_option linter.unusedVariables false
open Go.RowKit

theorem E.lead_take : ∀ (f m : Nat) (l : List Nat), f ≤ m → E.lead f (l.take m) = E.lead f l
  | 0, _, _, _ => rfl
  | f + 1, m + 1, [], _ => rfl
  | f + 1, m + 1, c :: r, h => by
    simp only [List.take_succ_cons, E.lead]
    rw [E.lead_take f m r (by omega)]
  | f + 1, 0, _, h => by omega
theorem E.g_take {m : Nat} (hm : 10 ≤ m) (l : List Nat) : E.gE (l.take m) = E.gE l ∧ E.gK (l.take m) = E.gK l ∧ E.gN (l.take m) = E.gN l := by
  have h1 := E.lead_take 9 m l (by omega)
  have h2 := (E.lead_is 9 l).1
  have h3 := (E.lead_is 9 l).2.1
  have hl : (l.take m).length = min m l.length := List.length_take
  have hE : E.gE (l.take m) = E.gE l := by
    unfold E.gE
    rw [h1, E.getD_take l 9 m (by omega), E.getD_take l (E.lead 9 l) m (by omega), hl]
    by_cases h4 : E.lead 9 l = l.length
    · rw [if_pos h4, if_pos (by omega)]
    · rw [if_neg h4, if_neg (by omega)]
  refine ⟨hE, ?_, ?_⟩
  · unfold E.gK; rw [hE, h1]
  · unfold E.gN; rw [hE, h1, List.take_take, Nat.min_eq_left (by omega)]
theorem E.gK_ten (l : List Nat) : E.gK l ≤ 10 := by
  have h2 := (E.lead_is 9 l).1
  unfold E.gK
  split <;> omega
/-- How many bytes tell a value of a kind. -/
def Z.most (kind : Int) : Nat := if kind = 3 then 1034 else 10
theorem o8_take (l : List Nat) (m : Nat) (h : 8 ≤ m) : Z.o8 (l.take m) = Z.o8 l := by
  unfold Z.o8
  simp only [E.getD_take l 0 m (by omega), E.getD_take l 1 m (by omega), E.getD_take l 2 m (by omega), E.getD_take l 3 m (by omega), E.getD_take l 4 m (by omega), E.getD_take l 5 m (by omega), E.getD_take l 6 m (by omega), E.getD_take l 7 m (by omega)]
theorem drop_len {l : List Nat} {m K : Nat} (hK : K ≤ (l.take m).length) : l.drop ((l.take m).length - ((l.take m).drop K).length) = l.drop K ∧ ((l.take m).drop K).length ≤ (l.take m).length := by
  rw [List.length_drop]
  exact ⟨by congr 1; omega, by omega⟩
theorem gK_take (l : List Nat) (m : Nat) (hm : 10 ≤ m) : E.gK l ≤ (l.take m).length := by
  have h2 := (E.lead_is 9 l).2.1
  have h1 := (E.lead_is 9 l).1
  rw [List.length_take]
  unfold E.gK
  split
  · rename_i h
    have h4 : E.lead 9 l ≠ l.length := fun h4 => by unfold E.gE at h; rw [if_pos h4] at h; omega
    omega
  · omega
theorem oE_two (l : List Nat) : Z.oE l 2 = if l.length < 8 then 3 else if D.ky (D.bt ((Z.o8 l : Nat) : Int)) = ((Z.o8 l : Nat) : Int) then 0 else 4 := by unfold Z.oE; rw [if_neg (by decide), if_neg (by decide), if_pos rfl]
theorem o_ahead {kind : Int} (hk : kind = 1 ∨ kind = 2 ∨ kind = 3) (l : List Nat) :
    Z.oE (l.take (Z.most kind)) kind = Z.oE l kind ∧ Z.oV (l.take (Z.most kind)) kind = Z.oV l kind ∧
      (Z.oE l kind = 0 → l.drop ((l.take (Z.most kind)).length - (Z.oR (l.take (Z.most kind)) kind).length) = Z.oR l kind) ∧ (Z.oR (l.take (Z.most kind)) kind).length ≤ (l.take (Z.most kind)).length := by
  have key : ∀ m, Z.most kind = m → Z.oE (l.take m) kind = Z.oE l kind → (Z.oE l kind = 0 → Z.oW (l.take m) kind = Z.oW l kind ∧ ∃ K, K ≤ (l.take m).length ∧ Z.oS (l.take m) kind = (l.take m).drop K ∧ Z.oS l kind = l.drop K) →
      Z.oE (l.take m) kind = Z.oE l kind ∧ Z.oV (l.take m) kind = Z.oV l kind ∧ (Z.oE l kind = 0 → l.drop ((l.take m).length - (Z.oR (l.take m) kind).length) = Z.oR l kind) ∧ (Z.oR (l.take m) kind).length ≤ (l.take m).length := by
    intro m _ hE h
    refine ⟨hE, ?_, ?_, ?_⟩
    · unfold Z.oV
      rw [hE]
      split
      · rename_i h0; exact (h h0).1
      · rfl
    · intro h0
      obtain ⟨_, K, hK, e1, e2⟩ := h h0
      unfold Z.oR
      rw [hE, if_pos h0, if_pos h0, e1, e2]
      exact (drop_len hK).1
    · unfold Z.oR
      rw [hE]
      split
      · rename_i h0
        obtain ⟨_, K, hK, e1, e2⟩ := h h0
        rw [e1]
        exact (drop_len hK).2
      · simp
  refine key _ rfl ?_ ?_
  · rcases hk with rfl | rfl | rfl
    · show Z.oE (l.take 10) 1 = _
      unfold Z.oE
      rw [if_neg (by decide), if_pos rfl, if_neg (by decide), if_pos rfl, (E.g_take (by omega) l).1]
    · show Z.oE (l.take 10) 2 = _
      rw [oE_two, oE_two, o8_take l 10 (by omega), List.length_take]
      by_cases h8 : l.length < 8
      · rw [if_pos (by omega), if_pos h8]
      · rw [if_neg (by omega), if_neg h8]
    · show Z.oE (l.take 1034) 3 = _
      unfold Z.oE
      rw [if_neg (by decide), if_neg (by decide), if_neg (by decide), if_pos rfl, if_neg (by decide), if_neg (by decide), if_neg (by decide), if_pos rfl]
      obtain ⟨g1, g2, g3⟩ := E.g_take (m := 1034) (by omega) l
      have g4 := E.gK_ten l
      unfold E.xE
      rw [g1, g2, g3, List.length_take]
      split
      · rfl
      · split
        · rfl
        · by_cases h8 : l.length - E.gK l < E.gN l
          · rw [if_pos (by omega), if_pos h8]
          · rw [if_neg (by omega), if_neg h8]
  · intro h0
    rcases hk with rfl | rfl | rfl
    · show Z.oW (l.take 10) 1 = _ ∧ ∃ K, K ≤ (l.take 10).length ∧ Z.oS (l.take 10) 1 = (l.take 10).drop K ∧ _
      obtain ⟨g1, g2, g3⟩ := E.g_take (m := 10) (by omega) l
      refine ⟨?_, E.gK l, gK_take l 10 (by omega), ?_, ?_⟩
      · unfold Z.oW; rw [if_pos rfl, if_pos rfl, g3]
      · unfold Z.oS; rw [if_pos rfl, g2]
      · unfold Z.oS; rw [if_pos rfl]
    · show Z.oW (l.take 10) 2 = _ ∧ ∃ K, K ≤ (l.take 10).length ∧ Z.oS (l.take 10) 2 = (l.take 10).drop K ∧ _
      have h8 : 8 ≤ l.length := by
        unfold Z.oE at h0
        rw [if_neg (by decide), if_neg (by decide), if_pos rfl] at h0
        split at h0
        · exact absurd h0 (by decide)
        · omega
      refine ⟨?_, 8, by rw [List.length_take]; omega, ?_, ?_⟩
      · unfold Z.oW; rw [if_neg (by decide), if_pos rfl, if_neg (by decide), if_pos rfl, o8_take l 10 (by omega)]
      · unfold Z.oS; rw [if_neg (by decide), if_pos rfl]
      · unfold Z.oS; rw [if_neg (by decide), if_pos rfl]
    · show Z.oW (l.take 1034) 3 = _ ∧ ∃ K, K ≤ (l.take 1034).length ∧ Z.oS (l.take 1034) 3 = (l.take 1034).drop K ∧ _
      obtain ⟨g1, g2, g3⟩ := E.g_take (m := 1034) (by omega) l
      have g4 := E.gK_ten l
      have hx : E.gN l ≤ 1024 ∧ E.gN l ≤ l.length - E.gK l := by
        unfold Z.oE at h0
        rw [if_neg (by decide), if_neg (by decide), if_neg (by decide), if_pos rfl] at h0
        unfold E.xE at h0
        split at h0
        · exact absurd h0 (by assumption)
        · split at h0
          · exact absurd h0 (by decide)
          · split at h0
            · exact absurd h0 (by decide)
            · omega
      have hgk := gK_take l 1034 (by omega)
      refine ⟨?_, E.gK l + E.gN l, ?_, ?_, ?_⟩
      · unfold Z.oW
        rw [if_neg (by decide), if_neg (by decide), if_pos rfl, if_neg (by decide), if_neg (by decide), if_pos rfl]
        unfold E.xS
        rw [g2, g3, List.drop_take, List.take_take, Nat.min_eq_left (by omega)]
      · rw [List.length_take] at hgk ⊢; omega
      · unfold Z.oS; rw [if_neg (by decide), if_neg (by decide), if_pos rfl]; unfold E.xR; rw [g2, g3, List.drop_drop]
      · unfold Z.oS; rw [if_neg (by decide), if_neg (by decide), if_pos rfl]; unfold E.xR; rw [List.drop_drop]
end Go.Proofs.Ytmhfpipeoojacaa
/- slices.ContainsFunc with the two closures of Check; Check. -/
namespace Go.Proofs.Ytmhfpipeoojacaa
set_option linter.unusedVariables false
open Go.RowKit

theorem any_get {l : List Z.V} {p : Z.V → Bool} {j : Nat} {x : Z.V} (h : l[j]? = some x) (hk : p x = true) : l.any p = true := List.any_eq_true.2 ⟨x, List.mem_of_getElem? h, hk⟩
theorem any_take {l : List Z.V} {p : Z.V → Bool} {j : Nat} {x : Z.V} (h : l[j]? = some x) (hk : p x = false) (ht : (l.take j).any p = false) : (l.take (j + 1)).any p = false := by
  rw [take_snocV h, List.any_append, ht, List.any_cons, hk]; rfl
def Z.isOther (kind : Int) (x : Z.V) : Bool := x.k != kind
def Z.mayNot (x : Z.V) : Bool := !Z.may x

theorem isother_any (B : Nat) (kind : Int) (k i : Int) (s : ByteArray) (w : World) (hb : w.heap[B]? = some (.cells #[.int .i64 kind] 3 (0, 0))) :
    Calls Try.prog 45 #[.agg #[.int .i64 k, .int .i64 i, .string s], .pointer (some ⟨B, 0, none⟩)] w fun e w' => e = .returned (.bool (Z.isOther kind ⟨k, i, s⟩)) ∧ Below w.heap.size w w' := by
  have hA := At.new w k i s
  have b0 := hide (below_one w (.cells #[.int .i64 k, .int .i64 i, .string s] 24))
  have hb1 := heap_alloc_keep (.cells #[.int .i64 k, .int .i64 i, .string s] 24) hb
  obtain ⟨c1, _⟩ := cell_of_heap hb1
  obtain ⟨a1, a2, a3⟩ := hA.cells
  clear hA hb hb1
  obtain ⟨q, hq⟩ : ∃ q, (k != kind) = q := ⟨_, rfl⟩
  have HQ : Hid (Z.isOther kind ⟨k, i, s⟩ = q) := hq
  go_enter Try.func45, Try.ntmps45
  go_wp2
  go_ret
  exact ⟨by rw [HQ.out]; rfl, b0.out⟩
theorem maynot_any (k i : Int) (s : ByteArray) (w : World) (hi : Z.I64 i) :
    Calls Try.prog 46 #[.agg #[.int .i64 k, .int .i64 i, .string s]] w fun e w' => e = .returned (.bool (Z.mayNot ⟨k, i, s⟩)) ∧ Below w.heap.size w w' := by
  have hA := At.new w k i s
  have b0 := hide (below_one w (.cells #[.int .i64 k, .int .i64 i, .string s] 24))
  obtain ⟨a1, a2, a3⟩ := hA.cells
  clear hA
  obtain ⟨q, hq⟩ : ∃ q, Z.may ⟨k, i, s⟩ = q := ⟨_, rfl⟩
  have HQ := hide hq
  clear hq
  go_enter Try.func46, Try.ntmps46
  go_wp2_with fail
  refine (may_any _ _ _ _ hi).mono ?_
  rintro e w1 ⟨rfl, hb⟩
  rw [HQ.out]
  replace b0 := hide (bthen b0.out hb)
  clear hb
  go_wp2
  go_ret
  exact ⟨by simp [Z.mayNot, HQ.out], b0.out⟩

set_option maxHeartbeats 1000000 in
theorem index_other (b off len cap : Nat) (l : List Z.V) (B : Nat) (kind : Int) (w : World) (hl : l.length = len) (hcap : len ≤ 140737488355328) (hlt : b < w.heap.size) (hB : w.heap[B]? = some (.cells #[.int .i64 kind] 3 (0, 0)))
    (hc : ∀ j x, l[j]? = some x → w.cell? ⟨b, off + j * 3, none⟩ = some (.int .i64 x.k) ∧ w.cell? ⟨b, off + j * 3 + 1, none⟩ = some (.int .i64 x.i) ∧ w.cell? ⟨b, off + j * 3 + 2, none⟩ = some (.string x.s)) :
    Calls Try.prog 68 #[.slice (some ⟨b, off, none⟩) len cap, .func (.func 45) #[] #[.pointer (some ⟨B, 0, none⟩)]] w fun e w' => ∃ r : Int, e = .returned (.int .i64 r) ∧ decide (0 ≤ r) = l.any (Z.isOther kind) ∧ Below w.heap.size w w' := by
  have HC := hide hc
  have HL := hide hl
  have HP := hide hB
  clear hc hl hB
  go_enter Try.func68, Try.ntmps68
  go_wp2_with fail
  go_loopw [8] (fun i wr => ∃ j : Nat, j ≤ len ∧ i = .int .i64 j ∧ Hid ((l.take j).any (Z.isOther kind) = false) ∧ Hid (Below w.heap.size w wr)) (fun i _ => len - (intOf i).toNat)
  case atStart => exact ⟨0, Nat.zero_le _, rfl, hide rfl, hide (Below.refl _ _)⟩
  case round =>
    obtain ⟨j, hj, rfl, han, hbw⟩ := hrel
    by_cases hjl : j < len
    · obtain ⟨⟨xk, xi, xs⟩, hx⟩ : ∃ x, l[j]? = some x := ⟨l[j]'(by rw [HL.out]; exact hjl), List.getElem?_eq_getElem _⟩
      obtain ⟨c1, c2, c3⟩ := HC.out j _ hx
      have d1 : wr.cell? ⟨b, off + j * 3, none⟩ = some (.int .i64 xk) := by rw [hbw.out.cell (p := ⟨b, off + j * 3, none⟩) hlt]; exact c1
      have d2 : wr.cell? ⟨b, off + j * 3 + 1, none⟩ = some (.int .i64 xi) := by rw [hbw.out.cell (p := ⟨b, off + j * 3 + 1, none⟩) hlt]; exact c2
      have d3 : wr.cell? ⟨b, off + j * 3 + 2, none⟩ = some (.string xs) := by rw [hbw.out.cell (p := ⟨b, off + j * 3 + 2, none⟩) hlt]; exact c3
      have HX := hide hx
      clear c1 c2 c3 hx
      go_wp2_with fail
      refine (isother_any B kind _ _ _ _ (by rw [hbw.out.block B (lt_of_block HP.out)]; exact HP.out)).mono ?_
      rintro e w2 ⟨rfl, hw2⟩
      have HBN := hide (bthen hbw.out hw2)
      obtain ⟨q, hq⟩ : ∃ q, (Z.isOther kind) ⟨xk, xi, xs⟩ = q := ⟨_, rfl⟩
      have HQ := hide hq
      rw [hq]
      clear hw2 hq d1 d2 d3
      cases q with
      | true =>
        go_wp2
        go_ret
        exact ⟨_, rfl, by rw [any_get HX.out HQ.out]; simp, HBN.out⟩
      | false =>
        go_wp2
        go_roundw
        case rel => exact ⟨j + 1, hjl, by go_num, hide (any_take HX.out HQ.out han.out), HBN⟩
        case measure => simp [intOf]; omega
    · obtain rfl : j = len := by omega
      have HE : Hid (l.any (Z.isOther kind) = false) := by
        have := han.out
        rwa [← HL.out, List.take_length] at this
      go_wp2
      go_ret
      exact ⟨_, rfl, by rw [HE.out]; rfl, hbw.out⟩
theorem index_other0 (ao : Option Addr) (cap : Nat) (B : Nat) (kind : Int) (w : World) :
    Calls Try.prog 68 #[.slice ao 0 cap, .func (.func 45) #[] #[.pointer (some ⟨B, 0, none⟩)]] w fun e w' => ∃ r : Int, e = .returned (.int .i64 r) ∧ decide (0 ≤ r) = ([] : List Z.V).any (Z.isOther kind) ∧ Below w.heap.size w w' := by
  go_enter Try.func68, Try.ntmps68
  go_wp2_with fail
  go_rounds 1
  go_ret
  exact ⟨_, rfl, rfl, Below.refl _ _⟩
theorem contains_other (ao : Option Addr) (len cap : Nat) (l : List Z.V) (B : Nat) (kind : Int) (w : World) (h : SlV w ao len cap l) (hcap : len ≤ 140737488355328) (hB : w.heap[B]? = some (.cells #[.int .i64 kind] 3 (0, 0))) :
    Calls Try.prog 49 #[.slice ao len cap, .func (.func 45) #[] #[.pointer (some ⟨B, 0, none⟩)]] w fun e w' => e = .returned (.bool (l.any (Z.isOther kind))) ∧ Below w.heap.size w w' := by
  have HC : Hid (Calls Try.prog 68 #[.slice ao len cap, .func (.func 45) #[] #[.pointer (some ⟨B, 0, none⟩)]] w fun e w' => ∃ r : Int, e = .returned (.int .i64 r) ∧ decide (0 ≤ r) = l.any (Z.isOther kind) ∧ Below w.heap.size w w') := by
    show Calls _ _ _ _ _
    rcases h.2.2.2.2 with h5 | ⟨b, off, rfl, hlt, h5⟩
    · subst h5
      obtain rfl : l = [] := List.eq_nil_of_length_eq_zero h.1
      exact index_other0 ao cap B kind w
    · exact index_other b off len cap l B kind w h.1 hcap hlt hB h5
  clear h hB
  go_enter Try.func49, Try.ntmps49
  go_wp2_with fail
  refine HC.out.mono ?_
  rintro e w1 ⟨r, rfl, hr, hb1⟩
  replace hb1 := hide hb1
  obtain ⟨q, hq⟩ : ∃ q, l.any (Z.isOther kind) = q := ⟨_, rfl⟩
  rw [hq] at hr
  have HQ := hide hq
  clear hq
  cases q with
  | true =>
    have h0 : 0 ≤ r := by simpa using hr
    clear hr
    go_wp2
    go_ret
    exact ⟨by rw [HQ.out]; simp, hb1.out⟩
  | false =>
    have h0 : ¬ 0 ≤ r := by simpa using hr
    clear hr
    go_wp2
    go_ret
    exact ⟨by rw [HQ.out]; simp [h0], hb1.out⟩

set_option maxHeartbeats 1000000 in
theorem index_mayNot (b off len cap : Nat) (l : List Z.V) (w : World) (hl : l.length = len) (hcap : len ≤ 140737488355328) (hlt : b < w.heap.size) (hI : ∀ x ∈ l, Z.I64 x.i)
    (hc : ∀ j x, l[j]? = some x → w.cell? ⟨b, off + j * 3, none⟩ = some (.int .i64 x.k) ∧ w.cell? ⟨b, off + j * 3 + 1, none⟩ = some (.int .i64 x.i) ∧ w.cell? ⟨b, off + j * 3 + 2, none⟩ = some (.string x.s)) :
    Calls Try.prog 68 #[.slice (some ⟨b, off, none⟩) len cap, .func (.func 46) #[] #[]] w fun e w' => ∃ r : Int, e = .returned (.int .i64 r) ∧ decide (0 ≤ r) = l.any Z.mayNot ∧ Below w.heap.size w w' := by
  have HC := hide hc
  have HL := hide hl
  have HP := hide hI
  clear hc hl hI
  go_enter Try.func68, Try.ntmps68
  go_wp2_with fail
  go_loopw [8] (fun i wr => ∃ j : Nat, j ≤ len ∧ i = .int .i64 j ∧ Hid ((l.take j).any Z.mayNot = false) ∧ Hid (Below w.heap.size w wr)) (fun i _ => len - (intOf i).toNat)
  case atStart => exact ⟨0, Nat.zero_le _, rfl, hide rfl, hide (Below.refl _ _)⟩
  case round =>
    obtain ⟨j, hj, rfl, han, hbw⟩ := hrel
    by_cases hjl : j < len
    · obtain ⟨⟨xk, xi, xs⟩, hx⟩ : ∃ x, l[j]? = some x := ⟨l[j]'(by rw [HL.out]; exact hjl), List.getElem?_eq_getElem _⟩
      obtain ⟨c1, c2, c3⟩ := HC.out j _ hx
      have d1 : wr.cell? ⟨b, off + j * 3, none⟩ = some (.int .i64 xk) := by rw [hbw.out.cell (p := ⟨b, off + j * 3, none⟩) hlt]; exact c1
      have d2 : wr.cell? ⟨b, off + j * 3 + 1, none⟩ = some (.int .i64 xi) := by rw [hbw.out.cell (p := ⟨b, off + j * 3 + 1, none⟩) hlt]; exact c2
      have d3 : wr.cell? ⟨b, off + j * 3 + 2, none⟩ = some (.string xs) := by rw [hbw.out.cell (p := ⟨b, off + j * 3 + 2, none⟩) hlt]; exact c3
      have HX := hide hx
      clear c1 c2 c3 hx
      go_wp2_with fail
      refine (maynot_any _ _ _ _ (HP.out _ (List.mem_of_getElem? HX.out))).mono ?_
      rintro e w2 ⟨rfl, hw2⟩
      have HBN := hide (bthen hbw.out hw2)
      obtain ⟨q, hq⟩ : ∃ q, Z.mayNot ⟨xk, xi, xs⟩ = q := ⟨_, rfl⟩
      have HQ := hide hq
      rw [hq]
      clear hw2 hq d1 d2 d3
      cases q with
      | true =>
        go_wp2
        go_ret
        exact ⟨_, rfl, by rw [any_get HX.out HQ.out]; simp, HBN.out⟩
      | false =>
        go_wp2
        go_roundw
        case rel => exact ⟨j + 1, hjl, by go_num, hide (any_take HX.out HQ.out han.out), HBN⟩
        case measure => simp [intOf]; omega
    · obtain rfl : j = len := by omega
      have HE : Hid (l.any Z.mayNot = false) := by
        have := han.out
        rwa [← HL.out, List.take_length] at this
      go_wp2
      go_ret
      exact ⟨_, rfl, by rw [HE.out]; rfl, hbw.out⟩
theorem index_mayNot0 (ao : Option Addr) (cap : Nat) (w : World) :
    Calls Try.prog 68 #[.slice ao 0 cap, .func (.func 46) #[] #[]] w fun e w' => ∃ r : Int, e = .returned (.int .i64 r) ∧ decide (0 ≤ r) = ([] : List Z.V).any Z.mayNot ∧ Below w.heap.size w w' := by
  go_enter Try.func68, Try.ntmps68
  go_wp2_with fail
  go_rounds 1
  go_ret
  exact ⟨_, rfl, rfl, Below.refl _ _⟩
theorem contains_mayNot (ao : Option Addr) (len cap : Nat) (l : List Z.V) (w : World) (h : SlV w ao len cap l) (hcap : len ≤ 140737488355328) (hI : ∀ x ∈ l, Z.I64 x.i) :
    Calls Try.prog 49 #[.slice ao len cap, .func (.func 46) #[] #[]] w fun e w' => e = .returned (.bool (l.any Z.mayNot)) ∧ Below w.heap.size w w' := by
  have HC : Hid (Calls Try.prog 68 #[.slice ao len cap, .func (.func 46) #[] #[]] w fun e w' => ∃ r : Int, e = .returned (.int .i64 r) ∧ decide (0 ≤ r) = l.any Z.mayNot ∧ Below w.heap.size w w') := by
    show Calls _ _ _ _ _
    rcases h.2.2.2.2 with h5 | ⟨b, off, rfl, hlt, h5⟩
    · subst h5
      obtain rfl : l = [] := List.eq_nil_of_length_eq_zero h.1
      exact index_mayNot0 ao cap  w
    · exact index_mayNot b off len cap l  w h.1 hcap hlt hI h5
  clear h hI
  go_enter Try.func49, Try.ntmps49
  go_wp2_with fail
  refine HC.out.mono ?_
  rintro e w1 ⟨r, rfl, hr, hb1⟩
  replace hb1 := hide hb1
  obtain ⟨q, hq⟩ : ∃ q, l.any Z.mayNot = q := ⟨_, rfl⟩
  rw [hq] at hr
  have HQ := hide hq
  clear hq
  cases q with
  | true =>
    have h0 : 0 ≤ r := by simpa using hr
    clear hr
    go_wp2
    go_ret
    exact ⟨by rw [HQ.out]; simp, hb1.out⟩
  | false =>
    have h0 : ¬ 0 ≤ r := by simpa using hr
    clear hr
    go_wp2
    go_ret
    exact ⟨by rw [HQ.out]; simp [h0], hb1.out⟩
end Go.Proofs.Ytmhfpipeoojacaa

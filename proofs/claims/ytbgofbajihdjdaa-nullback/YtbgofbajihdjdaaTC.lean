/- Which values are nothing, as bytes, and read: null's, and the document's. -/
import Derived.Test.YtbgofbajihdjdaaL7
import Derived.Test.YtbgofbajihdjdaaT0
import Derived.Handy
namespace Go.Proofs.Ytbgofbajihdjdaa
set_option linter.unusedVariables false
open Go.RowKit

/-- A 1 for each that is nothing. -/
def ones (bs : List Bool) : List Int := bs.map fun b => if b then 1 else 0
theorem ones_length (bs : List Bool) : (ones bs).length = bs.length := by simp [ones]
theorem ones_in (bs : List Bool) : In64 (ones bs) := by
  intro x hx
  obtain ⟨b, _, rfl⟩ := List.mem_map.1 hx
  cases b <;> simp
theorem ones_fit (bs : List Bool) : Fit (ones bs) 1 := by
  intro x hx
  obtain ⟨b, _, rfl⟩ := List.mem_map.1 hx
  cases b <;> simp
theorem ones_bits (bs : List Bool) : bitsAll (ones bs) 1 = bs := by
  induction bs with
  | nil => rfl
  | cons b bs ih =>
    show bitsAll ((if b then 1 else 0) :: ones bs) 1 = b :: bs
    rw [bitsAll_cons, ih]
    cases b <;> rfl
theorem ones_get (bs : List Bool) (k : Nat) (h : k < bs.length) : (ones bs).take (k + 1) = (ones bs).take k ++ [if bs.getD k false then 1 else 0] := by
  rw [List.take_add_one]
  simp [ones, List.getD, h]
/-- What Bytes has laid down after j rounds. -/
def onesTo (bs : List Bool) (len j : Nat) : List Value := ((ones bs).take j).map (Value.int .u64) ++ List.replicate (len - j) (.int .u64 0)
theorem onesTo_zero (bs : List Bool) (len : Nat) : onesTo bs len 0 = List.replicate len (.int .u64 0) := by simp [onesTo]
theorem onesTo_all (bs : List Bool) {len : Nat} (h : bs.length = len) : onesTo bs len len = (ones bs).map (Value.int .u64) := by
  subst h
  unfold onesTo
  rw [show (ones bs).take bs.length = ones bs by rw [← ones_length, List.take_length]]
  simp
theorem onesTo_len (bs : List Bool) (len j : Nat) (hl : bs.length = len) (h : j < len) : (((ones bs).take j).map (Value.int .u64)).length = j := by
  rw [List.length_map, List.length_take, ones_length]; omega
theorem onesTo_yes (bs : List Bool) (len j : Nat) (hl : bs.length = len) (h : j < len) (hb : bs.getD j false = true) : (onesTo bs len j).set j (.int .u64 1) = onesTo bs len (j + 1) := by
  have h1 := onesTo_len bs len j hl h
  unfold onesTo
  rw [ones_get bs j (by omega), hb, show len - j = (len - (j + 1)) + 1 by omega, List.replicate_succ, List.set_append_right _ _ (by omega), h1, Nat.sub_self, List.set_cons_zero]
  simp
theorem onesTo_no (bs : List Bool) (len j : Nat) (hl : bs.length = len) (h : j < len) (hb : bs.getD j false = false) : onesTo bs len j = onesTo bs len (j + 1) := by
  unfold onesTo
  rw [ones_get bs j (by omega), hb, show len - j = (len - (j + 1)) + 1 by omega, List.replicate_succ]
  simp
theorem onesTo_at (bs : List Bool) (len j : Nat) (hl : bs.length = len) (h : j < len) : (onesTo bs len j)[j]? = some (.int .u64 0) := by
  have h1 := onesTo_len bs len j hl h
  unfold onesTo
  rw [List.getElem?_append_right (by omega), h1, Nat.sub_self, show len - j = (len - (j + 1)) + 1 by omega, List.replicate_succ]
  rfl

set_option maxHeartbeats 1000000 in
theorem zbytes_some (b off len cap : Nat) (bs : List Bool) (w : World) (hl : bs.length = len) (hm : len ≤ 1048576) (hlt : b < w.heap.size) (hc : ∀ i, i < len → w.cell? ⟨b, off + i, none⟩ = some (.bool (bs.getD i false))) :
    Calls Try.prog 20 #[.slice (some ⟨b, off, none⟩) len cap] w fun e w' => ∃ v, e = .returned v ∧ w'.ownsRow w.heap.size 5 1 v (A.bytesOf bs).length (B8 (A.bytesOf bs)) ∧ Below w.heap.size w w' := by
  have HC := hide hc
  have HL := hide hl
  clear hc hl
  obtain ⟨i0, hi0, hz0, hz1, hz2⟩ := info_parts Try.infoU64
  go_enter Try.func20, Try.ntmps20
  go_wp2_with (at_make; refine wpList_make_full _ rfl _ _ 53 rfl w.heap.size 56 i0 (.int .u64 0) 1 Try.underlying53 hi0 hz0 hz1 _ _ _ _ len rfl rfl rfl rfl (by rw [hz2]; omega) (by unfold maxLen; omega) (Nat.le_refl _) ?_)
  intro w1 ho hg
  have hb1 : Below w.heap.size w w1 := (Below.refl _ w).grown hg (Nat.le_refl _) (by simp)
  have ho1 : w1.ownsRow w.heap.size 56 1 (.slice (some ⟨w.heap.size, 0, none⟩) len len) len (onesTo bs len 0) := by
    rw [onesTo_zero]
    rw [toList_madeCells_one] at ho
    exact ho
  have HB1 := hide hb1
  have HO1 := hide ho1
  clear hb1 ho1 ho hg
  go_wp2_with fail
  go_loopw [13] (fun i wr => ∃ j : Nat, j ≤ len ∧ i = .int .i64 j ∧ Hid (wr.ownsRow w.heap.size 56 1 (.slice (some ⟨w.heap.size, 0, none⟩) len len) len (onesTo bs len j)) ∧ Hid (Below w.heap.size w wr)) (fun i _ => len - (intOf i).toNat)
  case atStart => exact ⟨0, Nat.zero_le _, rfl, HO1, HB1⟩
  case round =>
    obtain ⟨j, hj, rfl, hor, hwr⟩ := hrel
    clear HO1 HB1
    by_cases hjl : j < len
    · have d1 : wr.cell? ⟨b, off + j, none⟩ = some (.bool (bs.getD j false)) := by rw [hwr.out.cell (p := ⟨b, off + j, none⟩) hlt]; exact HC.out j hjl
      obtain ⟨q, hq⟩ : ∃ q, bs.getD j false = q := ⟨_, rfl⟩
      rw [hq] at d1
      have HQ := hide hq
      clear hq
      cases q with
      | true =>
        have hc4 := hor.out.cellAt j (by omega)
        rw [onesTo_at bs len j HL.out hjl] at hc4
        have hf4 := hor.out.frozenAt j
        have HO := hide (hor.out.stored j (.int .u64 1)).1
        go_wp2
        go_roundw
        case rel => exact ⟨j + 1, hjl, by go_num, hide (by rw [← onesTo_yes bs len j HL.out hjl HQ.out]; exact HO.out), hide (hwr.out.setCell (p := ⟨w.heap.size, j, none⟩) (Nat.le_refl _) _)⟩
        case measure => simp [intOf]; omega
      | false =>
        go_wp2
        go_roundw
        case rel => exact ⟨j + 1, hjl, by go_num, hide (by rw [← onesTo_no bs len j HL.out hjl HQ.out]; exact hor.out), hwr⟩
        case measure => simp [intOf]; omega
    · obtain rfl : j = len := by omega
      have hor2 := hor.out
      rw [onesTo_all bs HL.out] at hor2
      have hor3 : wr.ownsRow w.heap.size 56 1 (.slice (some ⟨w.heap.size, 0, none⟩) j j) (ones bs).length ((ones bs).map (Value.int .u64)) := by rw [ones_length, HL.out]; exact hor2
      obtain ⟨ax, cx, hv, hsx, _⟩ := Sl.of_owns hor3
      rw [ones_length, HL.out] at hv hsx
      injection hv with hv1 hv2 hv3
      subst hv1; subst hv3
      have HSX := hide hsx
      clear hor2 hor3 hsx hv2
      go_wp2_with fail
      refine (pack_u _ j j (ones bs) 1 _ HSX.out (by omega) (ones_in bs)).mono ?_
      rintro e w2 ⟨v, rfl, ho2, hb2⟩
      have hok : packOk (ones bs) 1 = true := packOk_yes (by decide) (by decide) (ones_fit bs)
      have hpb : packB (ones bs) 1 = A.bytesOf bs := by
        unfold packB
        rw [hok]
        show A.bytesOf (bitsAll (ones bs) 1) = _
        rw [ones_bits]
      rw [hpb] at ho2
      have HO2 := hide (owns_base ho2 (base' := w.heap.size) fun g hg => by have := (owns_lt ho2 hg).1; have := hwr.out.size; omega)
      have HB2 := hide (hwr.out.trans (hb2.mono hwr.out.size))
      clear ho2 hb2 hok hpb
      go_wp2
      go_ret
      exact ⟨v, rfl, HO2.out, HB2.out⟩
end Go.Proofs.Ytbgofbajihdjdaa

/- The walk of the statement: a number has a byte for each seven of its bits. -/
import Derived.Test.YtnkpghoijdcohaaE10
import Derived.Test.YtnkpghoijdcohaaRU
namespace Go.Proofs.Ytnkpghoijdcohaa
set_option linter.unusedVariables false
open Go.RowKit

/-- How many bytes, one by one. -/
theorem leb_step (k : Nat) (h : 0 < k) : (E.leb k).length = (if k < 128 then 1 else (E.leb (k / 128)).length + 1) := by
  by_cases h1 : k < 128
  · rw [if_pos h1, E.leb_small k h1]; rfl
  · rw [if_neg h1, E.leb_big k (by omega)]; rfl

/-- The bytes of k, none if k is 0. -/
def cnt (k : Nat) : Nat := if k = 0 then 0 else (E.leb k).length
theorem cnt_step (k : Nat) (h : 0 < k) : cnt k = cnt (k / 128) + 1 := by
  unfold cnt
  rw [if_neg (by omega)]
  by_cases h1 : k < 128
  · rw [if_pos (by omega), E.leb_small k h1]; rfl
  · rw [if_neg (by omega), E.leb_big k (by omega)]; rfl
theorem leb_cnt (n : Nat) : (E.leb n).length = cnt (n / 128) + 1 := by
  by_cases h1 : n < 128
  · rw [E.leb_small n h1]; unfold cnt; rw [if_pos (by omega)]; rfl
  · rw [E.leb_big n (by omega)]; unfold cnt; rw [if_neg (by omega)]; rfl

theorem made_zero (m j : Nat) (h : j < m) : (madeCells #[Value.int .u8 0] m)[j]? = some (.int .u8 0) := by
  simp [madeCells, h, Nat.mod_one]
theorem Sl.made (w : World) (t : TypeId) (m : Nat) (hm : m ≤ 300) : Sl (w.alloc (.cells (madeCells #[Value.int .u8 0] m) t)) .u8 (some ⟨w.heap.size, 0, none⟩) m m (ints (List.replicate m 0)) := by
  have hb := heap_alloc_new w (.cells (madeCells #[Value.int .u8 0] m) t)
  refine ⟨by simp [ints], Nat.le_refl _, by unfold maxLen; omega, by simp, .inr ⟨_, _, rfl, by simp, ?_⟩⟩
  intro i hi
  generalize w.alloc (.cells (madeCells #[Value.int .u8 0] m) t) = w' at hb
  simp [World.cell?, hb, made_zero m i hi, ints, List.getD, hi]
set_option maxHeartbeats 1000000 in
theorem lebSizes_walk (w : World) (n : Int) (wn : (Lit.int .u64 n).wf = true) :
    Calls Try.prog 9 #[.int .u64 n] w fun e w' => e = .returned (.bool true) ∧ Below w.heap.size w w' := by
  obtain ⟨hn0, hn1⟩ := wf_u64 wn
  have hlc := leb_cnt n.toNat
  have h10 := E.leb_ten n.toNat (by omega)
  have HLC := hide hlc
  have hc10 : cnt (n.toNat / 128) ≤ 9 := by omega
  clear wn hlc h10
  go_enter Try.func9, Try.ntmps9
  go_wp2_with fail
  refine (shown_any w).mono ?_
  rintro e w2 ⟨rfl, hb⟩
  go_wp2_with fail
  go_loop [4, 5] (fun c k => ∃ (x y : Int), k = .int .u64 x ∧ 0 ≤ x ∧ x < 18446744073709551616 ∧ c = .int .i64 y ∧ 0 ≤ y ∧ y ≤ 10 ∧ Hid (y + (cnt x.toNat : Nat) = ((E.leb n.toNat).length : Nat))) (fun _ k => (intOf k).toNat)
  case atStart => exact ⟨n / 128, 1, rfl, by omega, by omega, rfl, by omega, by omega, hide (by rw [HLC.out, show (n / 128).toNat = n.toNat / 128 by omega]; omega)⟩
  case round =>
    obtain ⟨x, y, rfl, hx0, hx1, rfl, hy0, hy1, HY⟩ := hrel
    by_cases hx : 0 < x
    · have HC := hide (cnt_step x.toNat (by omega))
      go_wp2
      go_round
      case rel =>
        have h1 := HC.out
        have h2 := HY.out
        have h3 := HLC.out
        have e : (x / 128).toNat = x.toNat / 128 := by omega
        exact ⟨x / 128, y + 1, rfl, by omega, by omega, rfl, by omega, by omega, hide (by rw [e]; omega)⟩
      case measure => simp [intOf]; omega
    · have hx' : x = 0 := by omega
      subst hx'
      have hyl : ((E.leb n.toNat).length : Int) = y := by have := HY.out; simp [cnt] at this; omega
      obtain ⟨M, hM⟩ : ∃ M : Int, n % 300 = M := ⟨_, rfl⟩
      have hM0 : 0 ≤ M := by omega
      have hM1 : M < 300 := by omega
      obtain ⟨i0, hi, hz0, hz1, hz2⟩ := info_parts Try.infoU8
      have hmk : ∀ w : World, (Instr.makeSlice 23 (.int .i64 M) (.int .i64 M)).run Try.prog w = .ok (.slice (some ⟨w.heap.size, 0, none⟩) M.toNat M.toNat) (w.alloc (.cells (madeCells #[Value.int .u8 0] M.toNat) 5)) := fun w => by
        have h := run_make (P := Try.prog) w 23 5 i0 (.int .u8 0) Try.underlying23 hi hz0 .i64 .i64 M M hM0 (Int.le_refl _) (by rw [hz2]; omega) (by omega)
        rw [hz1, Nat.mul_one] at h
        exact h
      have hcv : ∀ w : World, (convert 23 9 (.slice (some ⟨w.heap.size, 0, none⟩) M.toNat M.toNat)).run Try.prog (w.alloc (.cells (madeCells #[Value.int .u8 0] M.toNat) 5)) = .ok (.string (strOfNums (ints (List.replicate M.toNat 0)))) (w.alloc (.cells (madeCells #[Value.int .u8 0] M.toNat) 5)) := fun w => str_of (Sl.made w 5 M.toNat (by omega))
      have hSs : (strOfNums (ints (List.replicate M.toNat 0))).size = M.toNat := by rw [strOfNums_size]; simp [ints]
      generalize strOfNums (ints (List.replicate M.toNat 0)) = S at hcv hSs
      have HSs := hide hSs
      have HMM := hide hM
      clear hSs hi hz0 hz1 hz2
      go_wp2_with fail
      refine (put_any n _ hn0 hn1).mono ?_
      rintro e w3 ⟨v3, rfl, ho3, hb3⟩
      have hb4 := hb.trans (hb3.mono hb.size)
      obtain ⟨a3, c3, hv3, _, _⟩ := Sl.of_bytes ho3
      clear hb hb3 ho3
      subst hv3
      go_wp2_with fail
      refine (text_any S _ (by have := HSs.out; omega)).mono ?_
      rintro e w5 ⟨v5, rfl, ho5, hb5⟩
      have hb6 : Below w.heap.size w w5 := (hb4.alloc hb4.size _).trans (hb5.mono (by have := hb4.size; simp; omega))
      obtain ⟨a5, c5, hv5, _, _⟩ := Sl.of_bytes ho5
      clear hb4 hb5 ho5
      subst hv5
      go_wp2_with fail
      refine (put_any M _ hM0 (by omega)).mono ?_
      rintro e w7 ⟨v7, rfl, ho7, hb7⟩
      have hb8 := hb6.trans (hb7.mono hb6.size)
      obtain ⟨a7, c7, hv7, _, _⟩ := Sl.of_bytes ho7
      clear hb6 hb7 ho7
      subst hv7
      have he : ((E.leb S.size).length : Int) + ((sb S).length : Int) = ((E.leb M.toNat).length : Int) + M := by
        rw [sb_length, HSs.out]; omega
      have hl10 := E.leb_ten M.toNat (by omega)
      go_wp2
      go_ret
      exact ⟨rfl, hb8⟩
end Go.Proofs.Ytnkpghoijdcohaa

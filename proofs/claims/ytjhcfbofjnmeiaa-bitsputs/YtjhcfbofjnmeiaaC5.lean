/- The text of bytes; the statements' own head: 'shown'. -/
import Derived.Test.YtjhcfbofjnmeiaaC4
import Derived.Laws.BytesArg
namespace Go.Proofs.Ytjhcfbofjnmeiaa
set_option linter.unusedVariables false
open Go.RowKit

theorem run_load_none (P : Program) (a : Addr) (w : World) : (loadCells a 0).run P w = .ok #[] w := by
  simp [loadCells, loadCellsFrom]

/-- The text of bytes that can be read. -/
theorem str_of {w : World} {ao : Option Addr} {len cap : Nat} {l : List Int} (h : Sl w .u8 ao len cap l) : (convert 23 9 (.slice ao len cap)).run Try.prog w = .ok (.string (strOfNums l)) w := by
  obtain ⟨h1, h2, h3, h4, h5⟩ := h
  cases ao with
  | none =>
    obtain rfl := h4 rfl
    obtain rfl : len = 0 := by omega
    obtain rfl : l = [] := List.eq_nil_of_length_eq_zero h1
    exact run_convert_bytes_nil w 23 5 Try.underlying23 Try.underlying5 0 0 9 Try.underlying9
  | some x =>
    by_cases h0 : len = 0
    · subst h0
      obtain rfl : l = [] := List.eq_nil_of_length_eq_zero h1
      rw [run_convert_bytes_string w 23 9 5 _ 0 cap Try.underlying23 Try.underlying5 Try.underlying9, run_bytesToString w x 0 cap [] (run_load_none _ _ _)]
      rfl
    · rcases h5 with h5 | ⟨b, off, hx, hlt, h5⟩
      · omega
      · obtain rfl := Option.some.inj hx
        exact run_convert_bytes_arg w 23 5 Try.underlying23 Try.underlying5 b off len cap l h1 h5 9 Try.underlying9

theorem Sl.three (w : World) (t : TypeId) (a b c : Int) : Sl (w.alloc (.cells #[.int .u64 a, .int .u64 b, .int .u64 c] t)) .u64 (some ⟨w.heap.size, 0, none⟩) 3 3 [a, b, c] := by
  refine ⟨rfl, Nat.le_refl _, by decide, by simp, .inr ⟨_, _, rfl, by simp, ?_⟩⟩
  intro i hi
  match i, hi with
  | 0, _ => simp
  | 1, _ => simp
  | 2, _ => simp

theorem bytes_517 : A.bytesOf (bitsAll [5, 1, 7] 3) = [205, 1] := by decide
theorem width_517 : bitLen (orAll [5, 1, 7]) = 3 := by decide
theorem str_517 : strOfNums (ints [205, 1]) = ⟨#[205, 1]⟩ := by decide
theorem fit_517 : Fit [5, 1, 7] 3 := by
  intro x hx
  simp at hx
  rcases hx with rfl | rfl | rfl <;> decide
theorem in_517 : In64 [5, 1, 7] := by
  intro x hx
  simp at hx
  rcases hx with rfl | rfl | rfl <;> decide

set_option maxHeartbeats 400000 in
/-- The example of the document, as the statements ask it. -/
theorem shown_any (w : World) : Calls Try.prog 10 #[] w fun e w' => e = .returned (.bool true) ∧ Below w.heap.size w w' := by
  go_enter Try.func10, Try.ntmps10
  go_wp2_with fail
  refine (pack_any _ _ _ [5, 1, 7] 3 _ (Sl.three w _ _ _ _) (by omega) in_517 (by omega)).mono ?_
  rintro e w1 (⟨_, v, rfl, ho, hb⟩ | ⟨hn, _⟩)
  case inr => exact absurd fit_517 hn
  rw [bytes_517] at ho
  obtain ⟨ao, cap, hv, hsl, _⟩ := Sl.of_bytes ho
  have hcv : (convert 23 9 (.slice ao 2 cap)).run Try.prog w1 = .ok (.string ⟨#[205, 1]⟩) w1 := by
    have h := str_of hsl
    rw [str_517] at h
    exact h
  have hb1 := ((Below.refl w.heap.size w).alloc (Nat.le_refl _) _).trans (hb.mono (by simp))
  have HB := hide hb1
  clear hb ho hb1
  subst hv
  go_wp2_with fail
  refine (width_any _ _ _ [5, 1, 7] _ (Sl.three w1 _ _ _ _) (by omega) in_517).mono ?_
  rintro e w2 ⟨rfl, rfl⟩
  have hw := width_517
  go_wp2
  go_ret
  have hs := HB.out.size
  exact ⟨rfl, HB.out.alloc hs _⟩
end Go.Proofs.Ytjhcfbofjnmeiaa

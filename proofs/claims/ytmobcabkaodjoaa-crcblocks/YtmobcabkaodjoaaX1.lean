/- The statements' own head: 'shown'. -/
import Derived.Test.YtmobcabkaodjoaaH6
import Derived.Lib.SlBytesConst
namespace Go.Proofs.Ytmobcabkaodjoaa
set_option linter.unusedVariables false
open Go.RowKit

theorem crc_nine : K.crc [49, 50, 51, 52, 53, 54, 55, 56, 57] = 3421780262 := by decide +kernel
theorem block_seven : (K.block [7]).length = 6 := by
  rw [K.block_length, E.leb_small _ (by simp)]; simp

set_option maxHeartbeats 400000 in
/-- The examples of the document, as the statements ask them. -/
theorem shown_any (w : World) : Calls Try.prog 10 #[] w fun e w' => e = .returned (.bool true) ∧ Below w.heap.size w w' := by
  have kc := fun (w : World) (C : Array Value) (n c : Nat) => Lib.run_convert_bytes_const (P := Try.prog) w 22 5 C n c Try.underlying22 Try.underlying5
  go_enter Try.func10, Try.ntmps10
  go_wp2_with fail
  refine (table_any w).mono ?_
  rintro e w1 ⟨C, rfl, hC, hb1⟩
  have HC := hide hC
  clear hC
  go_wp2_with fail
  have s1 := Sl.of_row (l := [49, 50, 51, 52, 53, 54, 55, 56, 57]) (heap_alloc_new w1 (.cells #[.int .u8 49, .int .u8 50, .int .u8 51, .int .u8 52, .int .u8 53, .int .u8 54, .int .u8 55, .int .u8 56, .int .u8 57] 5 (9, 10))) (by decide)
  refine (sum_crc C _ 9 9 [49, 50, 51, 52, 53, 54, 55, 56, 57] _ HC.out s1 (by omega) (by decide)).mono ?_
  rintro e w2 ⟨rfl, hb2⟩
  rw [crc_nine]
  have HB2 := hide ((hb1.alloc hb1.size _).trans (hb2.mono (by simp; have := hb1.size; omega)))
  clear s1 hb1 hb2
  go_wp2_with fail
  have s2 := Sl.of_row (l := [7]) (heap_alloc_new w2 (.cells #[.int .u8 7] 5)) (by decide)
  refine (block_any _ 1 1 [7] _ s2 (by omega) (by decide)).mono ?_
  rintro e w3 ⟨g, rfl, hg, hBg, hb3⟩
  rw [block_seven]
  have HB3 := hide ((HB2.out.alloc HB2.out.size _).trans (hb3.mono (by simp; have := HB2.out.size; omega)))
  clear s2 hb3 hg hBg
  go_wp2
  go_ret
  exact ⟨rfl, HB3.out⟩
end Go.Proofs.Ytmobcabkaodjoaa

/- The walk of the statement: of any three there is one order; of two of which neither is ahead both are the same, cleaned. -/
import Derived.Test.YthaeipephelmcaaN4
import Derived.Test.YthaeipephelmcaaRU
namespace Go.Proofs.Ythaeipephelmcaa
set_option linter.unusedVariables false
open Go.RowKit

theorem cp_swap (a b : Int) : D.cp b a = -(D.cp a b) := by
  unfold D.cp
  repeat' split
  all_goals omega
set_option maxHeartbeats 4000000 in
theorem fltOrder_walk (M : FltKept) (w : World) (a : Int) (wa : (Lit.int .u64 a).wf = true) (b : Int) (wb : (Lit.int .u64 b).wf = true) (c : Int) (wc : (Lit.int .u64 c).wf = true) :
    Calls Try.prog 5 #[.int .u64 a, .int .u64 b, .int .u64 c] w fun e w' => e = .returned (.bool true) ∧ Below w.heap.size w w' := by
  obtain ⟨ha0, ha1⟩ := wf_u64 wa
  obtain ⟨hb0, hb1⟩ := wf_u64 wb
  obtain ⟨hc0, hc1⟩ := wf_u64 wc
  have CA := fun w => M.clean a w ha0 ha1
  have CB := fun w => M.clean b w hb0 hb1
  have PX := fun w => M.compare a b w ha0 ha1 hb0 hb1
  have PY := fun w => M.compare b c w hb0 hb1 hc0 hc1
  have PZ := fun w => M.compare a c w ha0 ha1 hc0 hc1
  have PB := fun w => M.compare b a w hb0 hb1 ha0 ha1
  have S := fun w => shown_any M w
  rw [cp_swap a b] at PB
  have hi := D.ky_inj (a := a) (b := b) ⟨ha0, ha1⟩ ⟨hb0, hb1⟩
  have h1 := D.cp_cases a b
  have h2 := D.cp_cases b c
  have h3 := D.cp_cases a c
  generalize D.cl a = p at CA hi
  generalize D.cl b = q at CB hi
  generalize D.cp a b = x at PX PB h1
  generalize D.cp b c = y at PY h2
  generalize D.cp a c = z at PZ h3
  generalize D.ky a = k at *
  generalize D.ky b = l at *
  generalize D.ky c = m at *
  clear wa wb wc M
  go_enter Try.func5, Try.ntmps5
  go_wp2_with fail
  refine (S _).mono ?_
  rintro e w1 ⟨rfl, rfl⟩
  go_wp2_with fail
  refine (PX _).mono ?_
  rintro e w1 ⟨rfl, rfl⟩
  go_wp2_with fail
  refine (PY _).mono ?_
  rintro e w1 ⟨rfl, rfl⟩
  go_wp2_with fail
  refine (PZ _).mono ?_
  rintro e w1 ⟨rfl, rfl⟩
  clear PX PY PZ S
  rcases h1 with ⟨rfl, h1⟩ | ⟨rfl, h1⟩ | ⟨rfl, h1⟩
  · have d : p ≠ q := fun h => by have := hi.2 h; omega
    clear hi
    simp only [Int.neg_neg] at PB
    rcases h2 with ⟨rfl, h2⟩ | ⟨rfl, h2⟩ | ⟨rfl, h2⟩ <;> rcases h3 with ⟨rfl, h3⟩ | ⟨rfl, h3⟩ | ⟨rfl, h3⟩ <;> first | (exfalso; omega) | (clear h1 h2 h3; (go_wp2_with fail; refine (PB _).mono ?_; rintro e w1 ⟨rfl, rfl⟩); (go_wp2_with fail; refine (CA _).mono ?_; rintro e w1 ⟨rfl, rfl⟩); (go_wp2_with fail; refine (CB _).mono ?_; rintro e w1 ⟨rfl, rfl⟩); (go_wp2_with fail; go_ret; exact ⟨rfl, Below.refl _ _⟩))
  · obtain rfl := hi.1 h1
    clear hi
    simp only [Int.neg_zero] at PB
    rcases h2 with ⟨rfl, h2⟩ | ⟨rfl, h2⟩ | ⟨rfl, h2⟩ <;> rcases h3 with ⟨rfl, h3⟩ | ⟨rfl, h3⟩ | ⟨rfl, h3⟩ <;> first | (exfalso; omega) | (clear h1 h2 h3; (go_wp2_with fail; refine (PB _).mono ?_; rintro e w1 ⟨rfl, rfl⟩); (go_wp2_with fail; refine (CA _).mono ?_; rintro e w1 ⟨rfl, rfl⟩); (go_wp2_with fail; refine (CB _).mono ?_; rintro e w1 ⟨rfl, rfl⟩); (go_wp2_with fail; refine (CA _).mono ?_; rintro e w1 ⟨rfl, rfl⟩); (go_wp2_with fail; refine (CB _).mono ?_; rintro e w1 ⟨rfl, rfl⟩); (go_wp2_with fail; go_ret; exact ⟨rfl, Below.refl _ _⟩))
  · have d : p ≠ q := fun h => by have := hi.2 h; omega
    clear hi
    rcases h2 with ⟨rfl, h2⟩ | ⟨rfl, h2⟩ | ⟨rfl, h2⟩ <;> rcases h3 with ⟨rfl, h3⟩ | ⟨rfl, h3⟩ | ⟨rfl, h3⟩ <;> first | (exfalso; omega) | (clear h1 h2 h3; (go_wp2_with fail; refine (PB _).mono ?_; rintro e w1 ⟨rfl, rfl⟩); (go_wp2_with fail; refine (CA _).mono ?_; rintro e w1 ⟨rfl, rfl⟩); (go_wp2_with fail; refine (CB _).mono ?_; rintro e w1 ⟨rfl, rfl⟩); (go_wp2_with fail; go_ret; exact ⟨rfl, Below.refl _ _⟩))
end Go.Proofs.Ythaeipephelmcaa

/- What the bound of the second statements gives: how much an argument holds. -/
import Derived.Test.YtlbchdlokimpfaaRU
import Derived.JoinedCond
namespace Go.Proofs.Ytlbchdlokimpfaa
set_option linter.unusedVariables false
open Go.ChangeShapes Go.WideShapes Go.ChangeAt Go.RowKit

/-- Whatever is read weighs something. -/
theorem bulk_pos {H : Type} (d : DataW H) : 0 < Rows.uptoBulk d := by
  cases d with
  | lit x => cases x <;> exact Nat.succ_pos _
  | _ => exact Nat.succ_pos _
theorem bulk_count {H : Type} : ∀ l : List (DataW H), l.length ≤ Rows.uptoBulkAll l
  | [] => Nat.le_refl _
  | d :: r => by
    have h1 := bulk_pos d
    have h2 := bulk_count r
    show r.length + 1 ≤ Rows.uptoBulk d + Rows.uptoBulkAll r
    omega
theorem bulk_among {H : Type} {d : DataW H} : ∀ {l : List (DataW H)}, d ∈ l → Rows.uptoBulk d ≤ Rows.uptoBulkAll l
  | x :: r, h => by
    show _ ≤ Rows.uptoBulk x + Rows.uptoBulkAll r
    rcases List.mem_cons.1 h with rfl | h
    · exact Nat.le_add_right _ _
    · exact Nat.le_trans (bulk_among h) (Nat.le_add_left _ _)
theorem bulk_slice {H : Type} {d : DataW H} {cap : Nat} (h : Heavy d cap) : cap ≤ Rows.uptoBulk d := by
  rcases h with rfl | ⟨el, sp, rfl, rfl⟩
  · omega
  · have h1 := bulk_count el
    have h2 := bulk_count sp
    show _ ≤ Rows.uptoBulkAll el + Rows.uptoBulkAll sp + 1
    omega
theorem bulk_string {H : Type} (s : ByteArray) : s.size ≤ Rows.uptoBulk (DataW.lit (H := H) (.string s.data.toList)) := by
  have e : s.data.toList.length = s.size := by simp
  simp only [Rows.uptoBulk]; omega
/-- Each argument is of at most so many values and letters. -/
theorem bulk_le {H : Type} {l : List (DataW H)} (hk : Rows.uptoSmall H l = true) {d : DataW H} (h : d ∈ l) : Rows.uptoBulk d ≤ 1048576 := by
  have h1 : Rows.uptoBulkAll l ≤ 1048576 := of_decide_eq_true hk
  exact Nat.le_trans (bulk_among h) h1
end Go.Proofs.Ytlbchdlokimpfaa

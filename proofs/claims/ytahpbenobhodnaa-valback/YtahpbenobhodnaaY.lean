/- What ToText and ToInts tell. -/
import Derived.Test.YtahpbenobhodnaaE7
namespace Go.Proofs.Ytahpbenobhodnaa
set_option linter.unusedVariables false
open Go.RowKit

/-- ToText's text, and the bytes behind it. -/
def TextAns (n : Int) (l : List Nat) (B0 : Nat) (w : World) (v1 v2 : Value) : Prop :=
  v1 = .string (strOfNums (ints (E.yS n l))) ∧ ∃ a2 c2, v2 = .slice a2 (E.yR n l).length c2 ∧ Sl w .u8 a2 (E.yR n l).length c2 (ints (E.yR n l))
theorem TextAns.good {n : Int} {l : List Nat} {B0 : Nat} {w : World} {a2 : Option Addr} {c2 : Nat} (h : E.xE n l = 0) (hs : Sl w .u8 a2 (E.xR l).length c2 (ints (E.xR l))) : TextAns n l B0 w (.string (strOfNums (ints (E.xS l)))) (.slice a2 (E.xR l).length c2) := by
  unfold TextAns E.yS E.yR; rw [if_pos h, if_pos h]; exact ⟨rfl, a2, c2, rfl, hs⟩
theorem Sl.nil (w : World) (k : IntKind) : Sl w k none 0 0 [] := ⟨rfl, Nat.le_refl _, by decide, fun _ => rfl, .inl rfl⟩
theorem TextAns.bad {n : Int} {l : List Nat} {B0 : Nat} {w : World} (h : E.xE n l ≠ 0) : TextAns n l B0 w (.string ⟨#[]⟩) (.slice none 0 0) := by
  unfold TextAns E.yS E.yR; rw [if_neg h, if_neg h]; exact ⟨rfl, none, 0, rfl, Sl.nil _ _⟩
theorem TextAns.keptE {n : Int} {l : List Nat} {B0 : Nat} {w : World} {v1 v2 : Value} {B : Nat} (h : TextAns n l B0 w v1 v2) (hb : w.heap[B]? = some (.cells #[.int .i64 0] 26 (0, 0))) (hB : B < B0) (u : Value) : TextAns n l B0 (w.setCell ⟨B, 0, none⟩ u) v1 v2 := by
  obtain ⟨h1, a2, c2, h2, h3⟩ := h
  exact ⟨h1, a2, c2, h2, h3.set hb (by simp) u⟩
theorem TextAns.shape {n : Int} {l : List Nat} {B0 : Nat} {w : World} {v1 v2 : Value} (h : TextAns n l B0 w v1 v2) : ∃ x1 a2 l2 c2, v1 = .string x1 ∧ v2 = .slice a2 l2 c2 := by
  obtain ⟨h1, a2, c2, h2, _⟩ := h
  exact ⟨_, a2, _, c2, h1, h2⟩
theorem TextAns.keptS {n : Int} {l : List Nat} {B0 : Nat} {w : World} {x1 : ByteArray} {a2 : Option Addr} {l2 c2 B3 B4 : Nat} (h : TextAns n l B0 w (.string x1) (.slice a2 l2 c2)) (h3 : w.heap[B3]? = some (.cells #[.string x1] 9 (0, 0))) (h4 : w.heap[B4]? = some (.cells #[.slice a2 l2 c2] 24 (0, 0))) (hne : B3 ≠ B4) {u v : Value} :
    TextAns n l B0 ((w.setCell ⟨B3, 0, none⟩ u).setCell ⟨B4, 0, none⟩ v).drew (.string x1) (.slice a2 l2 c2) := by
  obtain ⟨h1, a2', c2', h2, h5⟩ := h
  refine ⟨h1, a2', c2', h2, ((h5.set h3 (by simp) u).set (B := B4) (v := .slice a2 l2 c2) (t := 24) ?_ (by simp) v).kept ((Kept.refl (fun _ => False) _).drew) (by simp)⟩
  rw [Below.heap_setCell _ _ _ _ (show B4 ≠ B3 from fun e => hne e.symm)]; exact h4

/-- ToInts' numbers, and the bytes behind them. -/
def IntsAns (n : Int) (l : List Nat) (B0 : Nat) (w : World) (v1 v2 : Value) : Prop :=
  (∃ a1 c1, v1 = .slice a1 (E.iL n l).length c1 ∧ Sl w .i64 a1 (E.iL n l).length c1 (E.iL n l) ∧ ∀ x, a1 = some x → B0 ≤ x.block) ∧ ∃ a2 c2, v2 = .slice a2 (E.iR n l).length c2 ∧ Sl w .u8 a2 (E.iR n l).length c2 (ints (E.iR n l))
theorem IntsAns.good {n : Int} {l : List Nat} {B0 : Nat} {w : World} {a1 a2 : Option Addr} {c1 c2 : Nat} (h : E.iE n l = 0) (hs1 : Sl w .i64 a1 (E.tL n.toNat l).length c1 (E.tL n.toNat l)) (hx : ∀ x, a1 = some x → B0 ≤ x.block) (hs : Sl w .u8 a2 (E.tR n.toNat l).length c2 (ints (E.tR n.toNat l))) : IntsAns n l B0 w (.slice a1 (E.tL n.toNat l).length c1) (.slice a2 (E.tR n.toNat l).length c2) := by
  unfold IntsAns E.iL E.iR; rw [if_pos h, if_pos h]; exact ⟨⟨a1, c1, rfl, hs1, hx⟩, a2, c2, rfl, hs⟩
theorem IntsAns.bad {n : Int} {l : List Nat} {B0 : Nat} {w : World} (h : E.iE n l ≠ 0) : IntsAns n l B0 w (.slice none 0 0) (.slice none 0 0) := by
  unfold IntsAns E.iL E.iR; rw [if_neg h, if_neg h]; exact ⟨⟨none, 0, rfl, Sl.nil _ _, by simp⟩, none, 0, rfl, Sl.nil _ _⟩
/-- A row of numbers does not lie in a block of one cell of an unlike type. -/
theorem IntsAns.keptE {n : Int} {l : List Nat} {B0 : Nat} {w : World} {v1 v2 : Value} {B : Nat} (h : IntsAns n l B0 w v1 v2) (hb : w.heap[B]? = some (.cells #[.int .i64 0] 26 (0, 0))) (hB : B < B0) (u : Value) : IntsAns n l B0 (w.setCell ⟨B, 0, none⟩ u) v1 v2 := by
  obtain ⟨⟨a1, c1, h1, h3, hx⟩, a2, c2, h2, h4⟩ := h
  exact ⟨⟨a1, c1, h1, h3.kept (Kept.setCell (F := fun k => k = B) (Kept.refl _ _) (.inl rfl) u) (fun x e h => by have := hx x e; omega), hx⟩, a2, c2, h2, h4.set hb (by simp) u⟩
theorem IntsAns.shape {n : Int} {l : List Nat} {B0 : Nat} {w : World} {v1 v2 : Value} (h : IntsAns n l B0 w v1 v2) : ∃ a1 l1 c1 a2 l2 c2, v1 = .slice a1 l1 c1 ∧ v2 = .slice a2 l2 c2 := by
  obtain ⟨⟨a1, c1, h1, _, _⟩, a2, c2, h2, _⟩ := h
  exact ⟨a1, _, c1, a2, _, c2, h1, h2⟩
theorem IntsAns.keptS {n : Int} {l : List Nat} {B0 : Nat} {w : World} {a1 a2 : Option Addr} {l1 c1 l2 c2 B3 B4 : Nat} (h : IntsAns n l B0 w (.slice a1 l1 c1) (.slice a2 l2 c2)) (h3 : w.heap[B3]? = some (.cells #[.slice a1 l1 c1] 67 (0, 0))) (h4 : w.heap[B4]? = some (.cells #[.slice a2 l2 c2] 24 (0, 0))) (hne : B3 ≠ B4) {u v : Value} :
    IntsAns n l B0 ((w.setCell ⟨B3, 0, none⟩ u).setCell ⟨B4, 0, none⟩ v).drew (.slice a1 l1 c1) (.slice a2 l2 c2) := by
  obtain ⟨⟨a1', c1', h1, h6, hx⟩, a2', c2', h2, h5⟩ := h
  have h4' : ∀ u, (w.setCell ⟨B3, 0, none⟩ u).heap[B4]? = some (.cells #[.slice a2 l2 c2] 24 (0, 0)) := fun u => by
    rw [Below.heap_setCell _ _ _ _ (show B4 ≠ B3 from fun e => hne e.symm)]; exact h4
  exact ⟨⟨a1', c1', h1, ((h6.set h3 (by simp) u).set (h4' u) (by simp) v).kept ((Kept.refl (fun _ => False) _).drew) (by simp), hx⟩,
    a2', c2', h2, ((h5.set h3 (by simp) u).set (h4' u) (by simp) v).kept ((Kept.refl (fun _ => False) _).drew) (by simp)⟩
theorem TextAns.base {n : Int} {l : List Nat} {B0 B1 : Nat} {w : World} {v1 v2 : Value} (h : TextAns n l B0 w v1 v2) (hB : B1 ≤ B0) : TextAns n l B1 w v1 v2 := h
theorem IntsAns.base {n : Int} {l : List Nat} {B0 B1 : Nat} {w : World} {v1 v2 : Value} (h : IntsAns n l B0 w v1 v2) (hB : B1 ≤ B0) : IntsAns n l B1 w v1 v2 := by
  obtain ⟨⟨a1, c1, h1, h3, hx⟩, h2⟩ := h
  exact ⟨⟨a1, c1, h1, h3, fun x e => Nat.le_trans hB (hx x e)⟩, h2⟩
end Go.Proofs.Ytahpbenobhodnaa

/- What a call leaves of the blocks that were there, and what a Writer and a Reader look like in memory. -/
import Derived.Test.YtbgofbajihdjdaaRows
import Derived.Test.YtbgofbajihdjdaaA
import Derived.Test.YtbgofbajihdjdaaU
import Derived.WalkKit
import Derived.WalkSpells
import Derived.WalkLawsBesides
import Derived.ArgAppend
import Derived.Laws.AppendOwnNone
namespace Go.Proofs.Ytbgofbajihdjdaa
set_option linter.unusedVariables false
open Go.RowKit

/-- A Writer at block p, which holds the bits bs; v is its bytes' slice. -/
def Wr (w : World) (p : Nat) (v : Value) (bs : List Bool) : Prop :=
  w.heap[p]? = some (.cells #[v, .int .i64 (bs.length : Int)] 73 (0, 0)) ∧ w.ownsRow (p + 1) 5 1 v (A.bytesOf bs).length (B8 (A.bytesOf bs))

/-- What a step of a Writer leaves. -/
def WS (p : Nat) (w : World) (v : Value) (w' : World) (v' : Value) : Prop :=
  Kept (fun k => k = p ∨ v.ownBlock = some k) w w' ∧ (v'.ownBlock = v.ownBlock ∨ ∀ k, v'.ownBlock = some k → w.heap.size ≤ k)

theorem WS.refl (p : Nat) (w : World) (v : Value) : WS p w v w v := ⟨Kept.refl _ _, .inl rfl⟩
theorem WS.trans {p : Nat} {a b c : World} {u v x : Value} (h : WS p a u b v) (k : WS p b v c x) : WS p a u c x := by
  have hs := h.1.size
  refine ⟨h.1.trans' k.1 ?_, ?_⟩
  · rintro y (rfl | hy)
    · exact .inl (.inl rfl)
    · rcases h.2 with h2 | h2
      · exact .inl (.inr (h2 ▸ hy))
      · exact .inr (h2 y hy)
  · rcases k.2 with k2 | k2
    · rw [k2]; exact h.2
    · exact .inr fun y hy => by have := k2 y hy; omega
theorem WS.drew {p : Nat} {a b : World} {u v : Value} (h : WS p a u b v) : WS p a u b.drew v := ⟨h.1.drew, h.2⟩

theorem Wr.lt {w : World} {p : Nat} {v : Value} {bs : List Bool} (h : Wr w p v bs) : p < w.heap.size := lt_of_block h.1
theorem Wr.cells {w : World} {p : Nat} {v : Value} {bs : List Bool} (h : Wr w p v bs) :
    w.cell? ⟨p, 0, none⟩ = some v ∧ w.cell? ⟨p, 1, none⟩ = some (.int .i64 (bs.length : Int)) ∧ w.frozen? ⟨p, 0, none⟩ = false ∧ w.frozen? ⟨p, 1, none⟩ = false := by
  refine ⟨?_, ?_, ?_, ?_⟩ <;> simp [World.cell?, World.frozen?, h.1]
theorem Wr.kept {F : Nat → Prop} {w w' : World} {p : Nat} {v : Value} {bs : List Bool} (h : Wr w p v bs) (k : Kept F w w') (h1 : ¬ F p) (h2 : ∀ g, v.ownBlock = some g → ¬ F g) : Wr w' p v bs :=
  ⟨by rw [k.block p h.lt h1]; exact h.1, owns_of_block h.2 fun g hg => k.block g (owns_lt h.2 hg).2 (h2 g hg)⟩

/-- A Reader at block p over the bytes l, at bit 'pos'; v is its slice. -/
def Rd (w : World) (p : Nat) (v : Value) (l : List Nat) (pos : Nat) : Prop :=
  w.heap[p]? = some (.cells #[v, .int .i64 (pos : Int)] 78 (0, 0)) ∧ w.ownsRow 0 5 1 v l.length (B8 l) ∧ v.ownBlock ≠ some p

theorem Rd.lt {w : World} {p : Nat} {v : Value} {l : List Nat} {pos : Nat} (h : Rd w p v l pos) : p < w.heap.size := lt_of_block h.1
theorem Rd.cells {w : World} {p : Nat} {v : Value} {l : List Nat} {pos : Nat} (h : Rd w p v l pos) :
    w.cell? ⟨p, 0, none⟩ = some v ∧ w.cell? ⟨p, 1, none⟩ = some (.int .i64 (pos : Int)) ∧ w.frozen? ⟨p, 1, none⟩ = false := by
  refine ⟨?_, ?_, ?_⟩ <;> simp [World.cell?, World.frozen?, h.1]
theorem Rd.kept {F : Nat → Prop} {w w' : World} {p : Nat} {v : Value} {l : List Nat} {pos : Nat} (h : Rd w p v l pos) (k : Kept F w w') (h1 : ¬ F p) (h2 : ∀ g, v.ownBlock = some g → ¬ F g) : Rd w' p v l pos :=
  ⟨by rw [k.block p h.lt h1]; exact h.1, owns_of_block h.2.1 fun g hg => k.block g (owns_lt h.2.1 hg).2 (h2 g hg), h.2.2⟩

theorem heap_setCell_two {w : World} {p : Nat} {a b : Value} {t : TypeId} (h : w.heap[p]? = some (.cells #[a, b] t (0, 0))) (u : Value) :
    (w.setCell ⟨p, 0, none⟩ u).heap[p]? = some (.cells #[u, b] t (0, 0)) ∧ (w.setCell ⟨p, 1, none⟩ u).heap[p]? = some (.cells #[a, u] t (0, 0)) := by
  constructor <;> simp only [World.setCell, Array.getElem?_modify, h] <;> simp

end Go.Proofs.Ytbgofbajihdjdaa

/- What a row's step hands to the walks: a slice of slices of bytes that came in. -/
import Derived.Test.YtmobcabkaodjoaaUB
import Derived.Test.YtmobcabkaodjoaaH5
import Derived.Deep.Matrix
namespace Go.Proofs.Ytmobcabkaodjoaa
set_option linter.unusedVariables false
open Go.ChangeShapes Go.WideShapes Go.ChangeAt Go.RowKit

def natsOf (z : List Int) : List Nat := z.map Int.toNat
theorem natsOf_ints (l : List Nat) : natsOf (ints l) = l := by
  unfold natsOf ints
  rw [List.map_map]
  conv => rhs; rw [← List.map_id l]
  apply List.map_congr_left
  intro x _
  simp
/-- Slices of bytes that came in, one behind the other; each of at most so many bytes. -/
def CameRows (lim : Nat) (w : World) (ao : Option Addr) (len cap : Nat) (ps : List Pt) : Prop :=
  ps.length = len ∧ len ≤ cap ∧ cap ≤ lim ∧ (len = 0 ∨ ∃ b off, ao = some ⟨b, off, none⟩ ∧ b < w.heap.size ∧ ∀ i p, ps[i]? = some p → w.cell? ⟨b, off + i, none⟩ = some p.v ∧ Sl w .u8 p.a p.len p.cap (ints p.l) ∧ (∀ x ∈ p.l, x < 256) ∧ p.cap ≤ lim)

theorem heavy_row {H : Type} {k : IntKind} {A : Option Addr} {L C : Nat} {Z : List Int} (hL : L ≤ C) (hz : Z.length = C) (hn : A = none → C = 0) : Heavy (Deep.intRow (H := H) k A L Z) C := by
  cases A with
  | none => exact .inl (hn rfl)
  | some a =>
    refine .inr ⟨_, _, rfl, ?_⟩
    simp [lits]; omega

theorem open_rows {H : Type} {enc : TypeId × Value → H} {W : World} {a : Option Addr} {len cap : Nat} {d : DataW H} {p : List MemPlace} {lim : Nat}
    (h : DataW.Trod enc Try.prog W 0 (fun _ => true) true 42 (.slice a len cap) d p) (hlim : Rows.uptoBulk d ≤ lim) : ∃ ps, CameRows lim W a len cap ps := by
  obtain ⟨fuel, hf⟩ := h
  rcases Deep.open_int_rows Try.underlying42 Try.underlying22 Try.underlying5 (by kernel_rfl) (by kernel_rfl) hf with ⟨hcs, _⟩ | ⟨x, l, c, A, L, C, Z, hcs, _, hl, hm, hd, hr⟩
  · simp [Value.cells] at hcs
    obtain ⟨rfl, rfl, rfl⟩ := hcs
    exact ⟨[], rfl, Nat.le_refl _, Nat.zero_le _, .inl rfl⟩
  · simp [Value.cells] at hcs
    obtain ⟨rfl, rfl, rfl⟩ := hcs
    have hd1 := (Prod.mk.inj hd).1
    subst hd1
    have hbk : cap ≤ lim := by
      have h1 := bulk_count ((List.range len).map fun r => Deep.intRow (H := H) .u8 (A r) (L r) (Z r))
      have h2 := bulk_count ((List.range (cap - len)).map fun j => Deep.intRow (H := H) .u8 (A (len + j)) (L (len + j)) (Z (len + j)))
      simp only [Rows.uptoBulk, List.length_map, List.length_range] at hlim h1 h2
      omega
    refine ⟨(List.range len).map fun r => ⟨A r, L r, C r, natsOf ((Z r).take (L r))⟩, by simp, hl, hbk, ?_⟩
    by_cases h0 : len = 0
    · exact .inl h0
    · obtain ⟨b, off, spot⟩ := x
      have hspot : spot = none := by simpa [Addr.add] using World.cell?_spot (hr 0 (by omega)).1
      subst hspot
      refine .inr ⟨b, off, rfl, ?_, fun i p hp => ?_⟩
      · have := cell_lt (hr 0 (by omega)).1
        simpa [Addr.add] using this
      · have hi : i < len := by have := (List.getElem?_eq_some_iff.1 hp).1; simpa using this
        obtain ⟨r1, r2, r3, r4, r5, r6, r7⟩ := hr i (by omega)
        have hp2 : p = ⟨A i, L i, C i, natsOf ((Z i).take (L i))⟩ := by
          simp [hi] at hp
          exact hp.symm
        subst hp2
        have hCl : C i ≤ lim := by
          have h1 := bulk_slice (heavy_row (H := H) (k := .u8) r2 r4 r6)
          have h2 := bulk_among (d := Deep.intRow (H := H) .u8 (A i) (L i) (Z i)) (l := (List.range len).map fun r => Deep.intRow (H := H) .u8 (A r) (L r) (Z r)) (List.mem_map.2 ⟨i, by simpa using hi, rfl⟩)
          simp only [Rows.uptoBulk] at hlim
          omega
        have hcame : Came .u8 W (A i) (L i) (C i) ((Z i).take (L i)) := by
          cases hA : A i with
          | none =>
            have hC0 := r6 hA
            have hL0 : L i = 0 := by omega
            refine ⟨⟨by simp [hL0], r2, r3, fun _ => hC0, .inl hL0⟩, fun n hn => r5 n (List.mem_of_mem_take hn)⟩
          | some x2 =>
            have := (r7 x2 hA).2
            exact came_of_cells r2 r3 r4 (fun c hc => this c (by omega)) r5
        obtain ⟨l2, hl2, h256⟩ := came_bytes hcame
        have hl3 : natsOf ((Z i).take (L i)) = l2 := by
          rw [hl2]; exact natsOf_ints l2
        rw [Addr.add_lit] at r1
        refine ⟨r1, ?_, ?_, hCl⟩
        · show Sl W .u8 (A i) (L i) (C i) (ints (natsOf ((Z i).take (L i))))
          rw [hl3, ← hl2]
          exact hcame.1
        · show ∀ x ∈ natsOf ((Z i).take (L i)), x < 256
          rw [hl3]; exact h256
end Go.Proofs.Ytmobcabkaodjoaa

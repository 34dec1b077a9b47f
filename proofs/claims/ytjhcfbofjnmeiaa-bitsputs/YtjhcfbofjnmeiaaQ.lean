/- Slices of pieces (a number and a width): in memory, and as they come in. -/
import Derived.Test.YtjhcfbofjnmeiaaC6
import Derived.Test.YtjhcfbofjnmeiaaR
import Derived.Deep.SlicePairs
namespace Go.Proofs.Ytjhcfbofjnmeiaa
set_option linter.unusedVariables false
open Go.ChangeShapes Go.WideShapes Go.ChangeAt Go.RowKit Go.Deep

/-- A slice of pieces that can be read. -/
def Sp (w : World) (ao : Option Addr) (len cap : Nat) (l : List (Int × Int)) : Prop :=
  l.length = len ∧ len ≤ cap ∧ cap ≤ maxLen ∧ (ao = none → cap = 0) ∧ (len = 0 ∨ ∃ b off, ao = some ⟨b, off, none⟩ ∧ b < w.heap.size ∧ ∀ i, i < len → w.cell? ⟨b, off + i * 2, none⟩ = some (.int .u64 (l.getD i (0, 0)).1) ∧ w.cell? ⟨b, off + i * 2 + 1, none⟩ = some (.int .i64 (l.getD i (0, 0)).2))

theorem Sp.below {w w' : World} {ao : Option Addr} {len cap : Nat} {l : List (Int × Int)} (h : Sp w ao len cap l) (hb : Below w.heap.size w w') : Sp w' ao len cap l := by
  obtain ⟨h1, h2, h3, h4, h5⟩ := h
  refine ⟨h1, h2, h3, h4, ?_⟩
  rcases h5 with h5 | ⟨b, off, rfl, hlt, h5⟩
  · exact .inl h5
  · refine .inr ⟨b, off, rfl, by have := hb.size; omega, fun i hi => ?_⟩
    rw [hb.cell (p := ⟨b, off + i * 2, none⟩) hlt, hb.cell (p := ⟨b, off + i * 2 + 1, none⟩) hlt]
    exact h5 i hi

/-- Pieces of which the numbers are of their kinds. -/
def InP (l : List (Int × Int)) : Prop := ∀ x ∈ l, 0 ≤ x.1 ∧ x.1 < 18446744073709551616 ∧ -9223372036854775808 ≤ x.2 ∧ x.2 < 9223372036854775808


/-- A slice of pieces that came in, opened. -/
theorem open_pieces {H : Type} {enc : TypeId × Value → H} {W : World} {a : Option Addr} {len cap : Nat} {d : DataW H} {p : List MemPlace}
    (h : DataW.Trod enc Try.prog W 0 (fun _ => true) true 22 (.slice a len cap) d p) : (∃ l, Sp W a len cap l ∧ InP l) ∧ Heavy d cap := by
  obtain ⟨fuel, hf⟩ := h
  rcases open_slice_pairs Try.underlying22 Try.underlying34 (by kernel_rfl) rfl rfl (by kernel_rfl) (by kernel_rfl) hf with ⟨hcs, _⟩ | ⟨x, l, c, m, n, V0, V1, D0, D1, P0, P1, hcs, _, hl, hm, hmm, hd, hcell⟩
  · simp [Value.cells] at hcs
    obtain ⟨rfl, rfl, rfl⟩ := hcs
    exact ⟨⟨[], ⟨rfl, Nat.le_refl _, by decide, fun _ => rfl, .inl rfl⟩, by intro x hx; simp at hx⟩, .inl rfl⟩
  · simp [Value.cells] at hcs
    obtain ⟨rfl, rfl, rfl⟩ := hcs
    simp only [if_true] at hmm
    subst hmm
    have each : ∀ i, i < m → ∃ u v : Int, V0 i = .int .u64 u ∧ V1 i = .int .i64 v ∧ (Lit.int .u64 u).wf = true ∧ (Lit.int .i64 v).wf = true := by
      intro i hi
      obtain ⟨_, _, h0, h1⟩ := hcell i hi
      obtain ⟨u, e0, _, w0⟩ := DataW.trod_int Try.underlying32 h0
      obtain ⟨v, e1, _, w1⟩ := DataW.trod_int Try.underlying3 h1
      simp at e0 e1
      exact ⟨u, v, e0, e1, w0, w1⟩
    have hget : ∀ i, i < len → ((List.range len).map fun i => (intOf (V0 i), intOf (V1 i))).getD i (0, 0) = (intOf (V0 i), intOf (V1 i)) := by
      intro i hi
      simp [List.getD, hi]
    refine ⟨⟨(List.range len).map fun i => (intOf (V0 i), intOf (V1 i)), ⟨by simp, hl, hm, by simp, ?_⟩, ?_⟩, .inr ⟨_, _, (Prod.mk.inj hd).1, by simp; omega⟩⟩
    · by_cases h0 : len = 0
      · exact .inl h0
      · obtain ⟨b, off, spot⟩ := x
        have h1 := (hcell 0 (by omega)).1
        have hspot : spot = none := by simpa [Addr.add] using World.cell?_spot h1
        subst hspot
        refine .inr ⟨b, off, rfl, ?_, fun i hi => ?_⟩
        · have := cell_lt h1
          simpa [Addr.add] using this
        · obtain ⟨c0, c1, _, _⟩ := hcell i (by omega)
          obtain ⟨u, v, e0, e1, _, _⟩ := each i (by omega)
          rw [Addr.add_lit, e0] at c0
          rw [Addr.add_lit, e1, ← Nat.add_assoc] at c1
          rw [hget i hi, e0, e1]
          exact ⟨c0, c1⟩
    · intro y hy
      obtain ⟨i, hi, rfl⟩ := List.mem_map.1 hy
      obtain ⟨u, v, e0, e1, w0, w1⟩ := each i (by have := List.mem_range.1 hi; omega)
      have h0 := wf_u64 w0
      have h1 := wf_i64 w1
      simp only [e0, e1, intOf]
      omega
theorem Try.infoPiece : (Try.prog.info? 34).map (fun i => (i.zero, i.size, i.bytes)) = some (some (.agg #[.int .u64 0, .int .i64 0]), 2, 16) := by kernel_rfl


/-- A piece that Put takes. -/
def okP (x : Int × Int) : Bool := decide (0 ≤ x.2) && decide (x.2 ≤ 64) && decide (x.1 < (2 : Int) ^ x.2.toNat)
theorem okP_iff (n k : Int) : okP (n, k) = true ↔ 0 ≤ k ∧ k ≤ 64 ∧ n < (2 : Int) ^ k.toNat := by simp [okP, and_assoc]
theorem take_snocP (l : List (Int × Int)) (k : Nat) (h : k < l.length) : l.take (k + 1) = l.take k ++ [l.getD k (0, 0)] := by
  rw [List.take_succ_eq_append_getElem h]; simp [List.getD, h]
theorem InP.getD {l : List (Int × Int)} (h : InP l) (k : Nat) (hk : k < l.length) : 0 ≤ (l.getD k (0, 0)).1 ∧ (l.getD k (0, 0)).1 < 18446744073709551616 ∧ -9223372036854775808 ≤ (l.getD k (0, 0)).2 ∧ (l.getD k (0, 0)).2 < 9223372036854775808 := by
  have : l.getD k (0, 0) = l[k] := by simp [List.getD, hk]
  rw [this]; exact h _ (List.getElem_mem hk)

theorem put_i (p : Nat) (v : Value) (bs : List Bool) (n k : Int) (w : World) (hw : Wr w p v bs) (hl : bs.length + 64 < 1099511627776) (hn0 : 0 ≤ n) (hn2 : n < 18446744073709551616) (ho : okP (n, k) = true) :
    Calls Try.prog 11 #[.pointer (some ⟨p, 0, none⟩), .int .u64 n, .int .i64 k] w fun e w' => e = .returned (.int .i64 0) ∧ ∃ v', Wr w' p v' (bs ++ A.bitsOf n.toNat k.toNat) ∧ WS p w v w' v' := by
  obtain ⟨h0, h1, h2⟩ := (okP_iff n k).1 ho
  obtain ⟨j, rfl⟩ := Int.eq_ofNat_of_zero_le h0
  rw [Int.toNat_natCast] at h2 ⊢
  exact put_yes p v bs n j w hw hl hn0 h2 hn2 (by omega)
theorem put_n (p : Nat) (n k : Int) (w : World) (hn0 : 0 ≤ n) (hn2 : n < 18446744073709551616) (ho : okP (n, k) = false) :
    Calls Try.prog 11 #[.pointer (some ⟨p, 0, none⟩), .int .u64 n, .int .i64 k] w fun e w' => e = .returned (.int .i64 1) ∧ w' = w := by
  refine put_no p n k w hn0 hn2 ?_
  have h : ¬ (0 ≤ k ∧ k ≤ 64 ∧ n < (2 : Int) ^ k.toNat) := fun h => by rw [(okP_iff n k).2 h] at ho; exact absurd ho (by simp)
  omega

end Go.Proofs.Ytjhcfbofjnmeiaa

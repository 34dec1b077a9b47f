/- The closure that reads a value, and what it leaves of the bytes. -/
import Derived.Test.YtfggfmcbinhigaaBdP
import Derived.Test.YtfggfmcbinhigaaBdQ
import Derived.Test.YtfggfmcbinhigaaBdM
import Derived.Test.YtfggfmcbinhigaaBdL
namespace Go.Proofs.Ytfggfmcbinhigaa
set_option linter.unusedVariables false
open Go.RowKit

/-- The head of bytes that can be read. -/
theorem head_of {w : World} {ao : Option Addr} {len cap : Nat} {l : List Nat} (h : Sl w .u8 ao len cap (ints l)) {K : Nat} (hK : K ≤ len) : ∃ qa, Sl w .u8 qa K cap (ints (l.take K)) ∧
    (∀ w : World, (Instr.slice 23 (.slice ao len cap) none (some (.int .i64 (K : Int))) none).run Try.prog w = .ok (.slice qa K cap) w) ∧
    (∀ w : World, (Instr.sliceAt 23 (.slice ao len cap) none (some (.int .i64 (K : Int))) none).run Try.prog w = .ok (.slice qa K cap) w) := by
  have hcap := h.2.1
  have hr : ∀ w : World, (Instr.slice 23 (.slice ao len cap) none (some (.int .i64 (K : Int))) none).run Try.prog w = .ok (.slice (if cap = 0 then ao else ao.map (·.add (0 * 1))) K cap) w := fun w => by
    have hr := run_slice_h (P := Try.prog) w 23 ao len cap V.under_bytes .i64 (K : Int) (by omega) (by omega)
    rw [V.elem_bytes, V.size_u8] at hr
    simp only [Result.andThen_ok, Int.toNat_natCast, sliced, Nat.sub_zero] at hr
    exact hr
  refine ⟨_, ?_, hr, fun w => ?_⟩
  · have := h.part 0 K (Nat.zero_le _) hK
    rw [List.drop_zero, ← ints_take] at this
    exact this
  · rw [run_sliceAt_slice (P := Try.prog) w 23 (.slice ao len cap) none (some (.int .i64 (K : Int))) none V.under_bytes]; exact hr w
/-- A value, and one more, told. -/
theorem results_val1 {fn : Func} {p u : Tmp} (h : fn.results = #[.cell p 47, .tmp u]) (tmps : Array Value) (w : World) (g : Nat) {k i : Int} {s : ByteArray} (hp : tmps.getD p undef = .pointer (some ⟨g, 0, none⟩)) (hA : At w g k i s) :
    (results fn tmps).run Try.prog w = .ok (.tuple #[.agg #[.int .i64 k, .int .i64 i, .string s], tmps.getD u undef]) w := by
  have hp' : tmps[p]?.getD undef = .pointer (some ⟨g, 0, none⟩) := by simpa using hp
  unfold At at hA
  simp [results, h, hp', asAddr, run_loadVar_row w g 47 47 _ (0, 0) _ hA Try.underlying47 rfl (by kernel_rfl)]
/-- What the closure leaves. -/
def NextAns (B : Nat) (l : List Nat) (kind : Int) (w : World) (e : Ending) (w' : World) : Prop :=
  e = .returned (.tuple #[(Z.oV l kind).v, .int .i64 ((Z.oE l kind : Nat) : Int)]) ∧ (∃ a n c, w'.heap[B]? = some (.cells #[.slice a n c] 23 (0, 0)) ∧ (Z.oE l kind = 0 → n = (Z.oR l kind).length ∧ Sl w' .u8 a n c (ints (Z.oR l kind)))) ∧ Kept (fun k => k = B) w w'

end Go.Proofs.Ytfggfmcbinhigaa
/- The last run; whether a value goes on with it. -/
namespace Go.Proofs.Ytfggfmcbinhigaa
set_option linter.unusedVariables false
open Go.RowKit

/-- A run, and one more, told. -/
theorem results_run1 {fn : Func} {p u : Tmp} (h : fn.results = #[.cell p 49, .tmp u]) (tmps : Array Value) (w : World) (g : Nat) {n k i : Int} {s : ByteArray} (hp : tmps.getD p undef = .pointer (some ⟨g, 0, none⟩)) (hA : AtR w g 49 n k i s) :
    (results fn tmps).run Try.prog w = .ok (.tuple #[.agg #[.int .i64 n, .int .i64 k, .int .i64 i, .string s], tmps.getD u undef]) w := by
  have hp' : tmps[p]?.getD undef = .pointer (some ⟨g, 0, none⟩) := by simpa using hp
  unfold AtR at hA
  simp [results, h, hp', asAddr, run_loadVar_row w g 49 49 _ (0, 0) _ hA Try.underlying49 rfl (by kernel_rfl)]
/-- What 'last' answers. -/
def LastAns (rs : List Z.R) (w : World) (e : Ending) (w' : World) : Prop :=
  Below w.heap.size w w' ∧ ((rs = [] ∧ e = .returned (.tuple #[.agg #[.int .i64 0, .int .i64 0, .int .i64 0, .string ⟨#[]⟩], .bool false])) ∨ ∃ a n k i s, rs = a ++ [⟨n, ⟨k, i, s⟩⟩] ∧ e = .returned (.tuple #[.agg #[.int .i64 n, .int .i64 k, .int .i64 i, .string s], .bool true]))

/-- A run stored in a block. -/
def putR (w : World) (b : Nat) (n k i : Int) (s : ByteArray) : World := (((w.setCell ⟨b, 0, none⟩ (.int .i64 n)).setCell ⟨b, 1, none⟩ (.int .i64 k)).setCell ⟨b, 2, none⟩ (.int .i64 i)).setCell ⟨b, 3, none⟩ (.string s)
theorem AtR.set {w : World} {b : Nat} {t : TypeId} {n k i : Int} {s : ByteArray} (h : AtR w b t n k i s) (n' k' i' : Int) (s' : ByteArray) : AtR (putR w b n' k' i' s') b t n' k' i' s' := by
  unfold AtR putR at *
  simp only [World.setCell, Array.getElem?_modify, h]; simp
theorem putR_kept (w : World) (b : Nat) (n k i : Int) (s : ByteArray) : Kept (fun x => x = b) w (putR w b n k i s) :=
  Kept.setCell (F := fun x => x = b) (p := ⟨b, 3, none⟩) (Kept.setCell (F := fun x => x = b) (p := ⟨b, 2, none⟩) (Kept.setCell (F := fun x => x = b) (p := ⟨b, 1, none⟩) (Kept.setCell (F := fun x => x = b) (p := ⟨b, 0, none⟩) (Kept.refl _ _) (.inl rfl) _) (.inl rfl) _) (.inl rfl) _) (.inl rfl) _
theorem putR_below {w w1 : World} {b : Nat} (n k i : Int) (s : ByteArray) (h : Below w.heap.size w w1) (hb : w.heap.size ≤ b) : Below w.heap.size w (putR w1 b n k i s) :=
  h.trans ((putR_kept w1 b n k i s).below h.size (by rintro k rfl; exact hb))

theorem last_none (ao : Option Addr) (cap : Nat) (w : World) : Calls Try.prog 50 #[.slice ao 0 cap] w (LastAns [] w) := by
  have hA := hide (AtR.new w 49 0 0 0 ⟨#[]⟩)
  go_enter Try.func50, Try.ntmps50
  go_wp2
  exact bodyPost_ret (results_run1 Try.results50 _ _ w.heap.size rfl (hA.out.alloc _)) rfl ⟨bthen (below_one w _) (below_one _ _), .inl ⟨rfl, rfl⟩⟩
theorem last_some (b off cap m : Nat) (n k i : Int) (s : ByteArray) (a : List Z.R) (hl : a.length = m) (hm : m + 1 ≤ 1000000000) (w : World) (hlt : b < w.heap.size)
    (h0 : w.cell? ⟨b, off + m * 4, none⟩ = some (.int .i64 n)) (h1 : w.cell? ⟨b, off + m * 4 + 1, none⟩ = some (.int .i64 k)) (h2 : w.cell? ⟨b, off + m * 4 + 2, none⟩ = some (.int .i64 i)) (h3 : w.cell? ⟨b, off + m * 4 + 3, none⟩ = some (.string s)) :
    Calls Try.prog 50 #[.slice (some ⟨b, off, none⟩) (m + 1) cap] w (LastAns (a ++ [⟨n, ⟨k, i, s⟩⟩]) w) := by
  have hA := AtR.new w 49 0 0 0 ⟨#[]⟩
  obtain ⟨a0, a1, a2, a3⟩ := hA.cells
  obtain ⟨f0, f1, f2, f3⟩ := hA.thawed
  have HA := hide hA
  have hb := below_one w (.cells #[.int .i64 0, .int .i64 0, .int .i64 0, .string ⟨#[]⟩] 49)
  have HB := hide hb
  have c0 := (hb.cell (p := ⟨b, off + m * 4, none⟩) hlt).trans h0
  have c1 := (hb.cell (p := ⟨b, off + m * 4 + 1, none⟩) hlt).trans h1
  have c2 := (hb.cell (p := ⟨b, off + m * 4 + 2, none⟩) hlt).trans h2
  have c3 := (hb.cell (p := ⟨b, off + m * 4 + 3, none⟩) hlt).trans h3
  clear hb hA h0 h1 h2 h3
  obtain ⟨L, hL⟩ : ∃ L, m + 1 = L := ⟨_, rfl⟩
  have hL0 : ((L : Int) == 0) = false := by simp; omega
  have hLm : (L : Int) - 1 = (m : Int) := by omega
  rw [hL]
  go_enter Try.func50, Try.ntmps50
  go_wp2
  exact bodyPost_ret (results_run1 Try.results50 _ _ w.heap.size rfl (AtR.new w 49 n k i s)) rfl ⟨below_one w _, .inr ⟨a, n, k, i, s, rfl, rfl⟩⟩
theorem last_any (ao : Option Addr) (len cap : Nat) (rs : List Z.R) (w : World) (h : SlR w ao len cap rs) (hm : len ≤ 1000000000) : Calls Try.prog 50 #[.slice ao len cap] w (LastAns rs w) := by
  obtain ⟨h1, h2, h3, h4, h5⟩ := h
  rcases List.eq_nil_or_concat rs with rfl | ⟨a, ⟨n, ⟨k, i, s⟩⟩, rfl⟩
  · obtain rfl : len = 0 := h1.symm
    exact last_none ao cap w
  · rw [List.concat_eq_append] at h1 h5 ⊢
    have hl : len = a.length + 1 := by rw [← h1]; simp
    rcases h5 with h5 | ⟨b, off, rfl, hlt, h5⟩
    · omega
    · obtain ⟨c0, c1, c2, c3⟩ := h5 a.length ⟨n, ⟨k, i, s⟩⟩ (by simp)
      rw [hl]
      exact last_some b off cap a.length n k i s a rfl (by omega) w hlt c0 c1 c2 c3
/-- The last run's value. -/
theorem top_snoc (a : List Z.R) (r : Z.R) : Z.top (a ++ [r]).reverse = some r.v := by rw [List.reverse_append]; rfl
theorem goes_any (ao : Option Addr) (len cap : Nat) (rs : List Z.R) (k i : Int) (s : ByteArray) (w : World) (h : SlR w ao len cap rs) (hm : len ≤ 1000000000) :
    Calls Try.prog 30 #[.slice ao len cap, .agg #[.int .i64 k, .int .i64 i, .string s]] w fun e w' => e = .returned (.bool (Z.isV (Z.top rs.reverse) ⟨k, i, s⟩)) ∧ Below w.heap.size w w' := by
  have hb := below_one w (.cells #[.int .i64 k, .int .i64 i, .string s] 47)
  have HL := hide (last_any ao len cap rs _ (h.below hb) hm)
  have HA := hide (At.new w k i s)
  have HB := hide hb
  clear h hb
  go_enter Try.func30, Try.ntmps30
  go_wp2_with fail
  refine HL.out.mono ?_
  rintro e w1 ⟨hb1, hr⟩
  have HB1 := hide (bthen HB.out hb1)
  have hA1 := HA.out.below hb1
  clear HL
  rcases hr with ⟨rfl, rfl⟩ | ⟨a, n, k', i', s', rfl, rfl⟩
  · have HB2 := hide (bthen HB1.out (below_one w1 (.cells #[.int .i64 0, .int .i64 0, .int .i64 0, .string ⟨#[]⟩] 49)))
    clear hb1 hA1
    go_wp2
    go_ret
    exact ⟨rfl, HB2.out⟩
  · have b2 := below_one w1 (.cells #[.int .i64 n, .int .i64 k', .int .i64 i', .string s'] 49)
    have HB2 := hide (bthen HB1.out b2)
    obtain ⟨a0, a1, a2⟩ := (hA1.below b2).cells
    obtain ⟨c0, c1, c2, c3⟩ := (AtR.new w1 49 n k' i' s').cells
    have hv := fun w => veq_run k' i' s' k i s w
    have HT := hide (top_snoc a ⟨n, ⟨k', i', s'⟩⟩)
    clear hb1 hA1 b2
    go_wp2
    go_ret
    exact ⟨by rw [HT.out]; rfl, HB2.out⟩
end Go.Proofs.Ytfggfmcbinhigaa
/- The document's answer for null: Same of bools, Same of values, Count. -/
namespace Go.Proofs.Ytfggfmcbinhigaa
set_option linter.unusedVariables false
open Go.RowKit

theorem vsame_none (ao bo : Option Addr) (ca cb : Nat) (w : World) :
    Calls Try.prog 20 #[.slice ao 0 ca, .slice bo 0 cb] w fun e w' => e = .returned (.bool true) ∧ Below w.heap.size w w' := by
  go_enter Try.func20, Try.ntmps20
  go_wp2_with fail
  go_rounds 1
  go_ret
  exact ⟨rfl, Below.refl _ _⟩
set_option maxHeartbeats 1000000 in
theorem vsame_some (b1 o1 b2 o2 len ca cb : Nat) (l : List Z.V) (w : World) (hl : l.length = len) (hm : len ≤ 140737488355328) (h1 : b1 < w.heap.size) (h2 : b2 < w.heap.size)
    (hc1 : ∀ j x, l[j]? = some x → w.cell? ⟨b1, o1 + j * 3, none⟩ = some (.int .i64 x.k) ∧ w.cell? ⟨b1, o1 + j * 3 + 1, none⟩ = some (.int .i64 x.i) ∧ w.cell? ⟨b1, o1 + j * 3 + 2, none⟩ = some (.string x.s))
    (hc2 : ∀ j x, l[j]? = some x → w.cell? ⟨b2, o2 + j * 3, none⟩ = some (.int .i64 x.k) ∧ w.cell? ⟨b2, o2 + j * 3 + 1, none⟩ = some (.int .i64 x.i) ∧ w.cell? ⟨b2, o2 + j * 3 + 2, none⟩ = some (.string x.s)) :
    Calls Try.prog 20 #[.slice (some ⟨b1, o1, none⟩) len ca, .slice (some ⟨b2, o2, none⟩) len cb] w fun e w' => e = .returned (.bool true) ∧ Below w.heap.size w w' := by
  have hb : ((len : Int) != (len : Int)) = false := by simp
  have HC1 := hide hc1
  have HC2 := hide hc2
  have HL := hide hl
  clear hc1 hc2 hl
  go_enter Try.func20, Try.ntmps20
  go_wp2_with fail
  go_loopw [5] (fun i wr => ∃ k : Nat, k ≤ len ∧ i = .int .i64 k ∧ Hid (Below w.heap.size w wr)) (fun i _ => len - (intOf i).toNat)
  case atStart => exact ⟨0, Nat.zero_le _, rfl, hide (Below.refl _ _)⟩
  case round =>
    obtain ⟨k, hk, rfl, hkr⟩ := hrel
    by_cases hlt : k < len
    · obtain ⟨⟨xk, xi, xs⟩, hx⟩ : ∃ x, l[k]? = some x := ⟨l[k]'(by rw [HL.out]; exact hlt), List.getElem?_eq_getElem _⟩
      obtain ⟨c1, c2, c3⟩ := HC1.out k _ hx
      obtain ⟨d1, d2, d3⟩ := HC2.out k _ hx
      have e1 : wr.cell? ⟨b1, o1 + k * 3, none⟩ = some (.int .i64 xk) := by rw [hkr.out.cell (p := ⟨b1, o1 + k * 3, none⟩) h1]; exact c1
      have e2 : wr.cell? ⟨b1, o1 + k * 3 + 1, none⟩ = some (.int .i64 xi) := by rw [hkr.out.cell (p := ⟨b1, o1 + k * 3 + 1, none⟩) h1]; exact c2
      have e3 : wr.cell? ⟨b1, o1 + k * 3 + 2, none⟩ = some (.string xs) := by rw [hkr.out.cell (p := ⟨b1, o1 + k * 3 + 2, none⟩) h1]; exact c3
      have g1 : wr.cell? ⟨b2, o2 + k * 3, none⟩ = some (.int .i64 xk) := by rw [hkr.out.cell (p := ⟨b2, o2 + k * 3, none⟩) h2]; exact d1
      have g2 : wr.cell? ⟨b2, o2 + k * 3 + 1, none⟩ = some (.int .i64 xi) := by rw [hkr.out.cell (p := ⟨b2, o2 + k * 3 + 1, none⟩) h2]; exact d2
      have g3 : wr.cell? ⟨b2, o2 + k * 3 + 2, none⟩ = some (.string xs) := by rw [hkr.out.cell (p := ⟨b2, o2 + k * 3 + 2, none⟩) h2]; exact d3
      have hq : ∀ w : World, (binOp .neq 47 (.agg #[.int .i64 xk, .int .i64 xi, .string xs]) (.agg #[.int .i64 xk, .int .i64 xi, .string xs])).run Try.prog w = .ok (.bool false) w := fun w => by rw [vne_run, Z.same_self]; rfl
      clear c1 c2 c3 d1 d2 d3 hx
      go_wp2
      go_region
      all_goals go_wp2
      all_goals
        go_roundw
        case rel => exact ⟨k + 1, by omega, by go_num, hide hkr.out.drew⟩
        case measure => simp [intOf]; omega
    · go_wp2
      go_ret
      exact ⟨rfl, hkr.out⟩
/-- The reference's Same, of two lists of values that are the same. -/
theorem vsame_yes (ao bo : Option Addr) (len ca cb : Nat) (l : List Z.V) (w : World) (h1 : SlV w ao len ca l) (h2 : SlV w bo len cb l) (hm : len ≤ 140737488355328) :
    Calls Try.prog 20 #[.slice ao len ca, .slice bo len cb] w fun e w' => e = .returned (.bool true) ∧ Below w.heap.size w w' := by
  by_cases h0 : len = 0
  · subst h0; exact vsame_none ao bo ca cb w
  · rcases h1.2.2.2.2 with h | ⟨b1, o1, rfl, hb1, hc1⟩
    · omega
    · rcases h2.2.2.2.2 with h | ⟨b2, o2, rfl, hb2, hc2⟩
      · omega
      · exact vsame_some b1 o1 b2 o2 len ca cb l w h1.1 hm hb1 hb2 hc1 hc2

theorem cntT_le (bs : List Bool) (k : Nat) : cntT (bs.take k) ≤ k := by
  unfold cntT
  exact Nat.le_trans List.count_le_length (by rw [List.length_take]; omega)
end Go.Proofs.Ytfggfmcbinhigaa
/- The document's answer for null: Split. -/
namespace Go.Proofs.Ytfggfmcbinhigaa
set_option linter.unusedVariables false
open Go.RowKit

/-- One value, in new memory. -/
theorem slV_one (w : World) (k i : Int) (s : ByteArray) : SlV (w.alloc (.cells #[.int .i64 k, .int .i64 i, .string s] 47)) (some ⟨w.heap.size, 0, none⟩) 1 1 [⟨k, i, s⟩] := by
  refine ⟨rfl, Nat.le_refl _, by decide, by simp, .inr ⟨w.heap.size, 0, rfl, by simp, fun j x hx => ?_⟩⟩
  match j, hx with
  | 0, hx => simp at hx; subst hx; simp
/-- A row stays, whatever is appended to a row of another kind. -/
theorem keep_kind {w w' : World} {B B' s s' n n' : Nat} {e e' : TypeId} {v u : Value} {xs ys : List Value} (h : w.ownsRow B e s v n xs) (hu : w.ownsRow B' e' s' u n' ys) (hne : e ≠ e') (hk : Kept (fun k => u.ownBlock = some k) w w') : w'.ownsRow B e s v n xs :=
  owns_of_block h fun g hg => hk.block g (owns_lt h hg).2 (fun e => owns_ne h hu hne hg e)
theorem nus_snoc {l : List Z.V} {j : Nat} {x : Z.V} (h : l[j]? = some x) : nus (l.take (j + 1)) = nus (l.take j) ++ [x.k == 0] := by
  rw [take_snocV h]; simp [nus]
theorem oth_yes {l : List Z.V} {j : Nat} {x : Z.V} (h : l[j]? = some x) (hk : (x.k == 0) = true) : oth (l.take (j + 1)) = oth (l.take j) := by
  rw [take_snocV h]; simp [oth, hk]
theorem oth_no {l : List Z.V} {j : Nat} {x : Z.V} (h : l[j]? = some x) (hk : (x.k == 0) = false) : oth (l.take (j + 1)) = oth (l.take j) ++ [x] := by
  rw [take_snocV h]; simp [oth, hk]
theorem oth_le (l : List Z.V) (j : Nat) : (oth (l.take j)).length ≤ j := by
  unfold oth
  exact Nat.le_trans (List.length_filter_le _ _) (by rw [List.length_take]; omega)

end Go.Proofs.Ytfggfmcbinhigaa
/- Runs: a column's values in runs. -/
namespace Go.Proofs.Ytfggfmcbinhigaa
set_option linter.unusedVariables false
open Go.RowKit

theorem runs_rev (l : List Z.V) : (Z.runs l).reverse = Z.rr l := by unfold Z.runs; rw [List.reverse_reverse]
theorem runs_more {l : List Z.V} {x : Z.V} (h : Z.isV (Z.top (Z.runs l).reverse) x = true) : ∃ a n, Z.runs l = a ++ [⟨n, x⟩] ∧ Z.runs (l ++ [x]) = a ++ [⟨n + 1, x⟩] := by
  rw [isV_iff, runs_rev] at h
  obtain ⟨t, ht⟩ : ∃ t, Z.rr l = t := ⟨_, rfl⟩
  rw [ht] at h
  cases t with
  | nil => exact absurd h (by simp [Z.top])
  | cons r t =>
    have hr : r.v = x := by simpa [Z.top] using h
    obtain ⟨n, v⟩ := r
    have hv : v = x := hr
    subst hv
    refine ⟨t.reverse, n, ?_, ?_⟩
    · unfold Z.runs; rw [ht, List.reverse_cons]
    · unfold Z.runs; rw [rr_snoc, ht, addR_same ⟨n, v⟩ t, List.reverse_cons]
theorem runs_new {l : List Z.V} {x : Z.V} (h : Z.isV (Z.top (Z.runs l).reverse) x = false) : Z.runs (l ++ [x]) = Z.runs l ++ [⟨1, x⟩] := by
  have h1 : Z.top (Z.rr l) ≠ some x := by
    intro e
    rw [runs_rev, (isV_iff _ _).2 e] at h
    exact absurd h (by decide)
  unfold Z.runs
  rw [rr_snoc, addR_new h1, List.reverse_cons]
theorem ownR_some {w : World} {t : TypeId} {B : Nat} {v : Value} {a : List Z.R} {r : Z.R} (h : OwnR w t B v (a ++ [r])) : ∃ g c, v = .slice (some ⟨g, 0, none⟩) (a.length + 1) c ∧ B ≤ g ∧ g < w.heap.size := by
  have hl : (a ++ [r]).length = a.length + 1 := by simp
  rcases h.2 with ⟨h1, h2⟩ | ⟨g, cap, cur, hv, hg, hh, hc, hm, _⟩
  · rw [hl] at h2; omega
  · rw [hl] at hv
    exact ⟨g, cap, hv, hg, lt_of_block hh⟩

set_option maxHeartbeats 1000000 in
theorem runs_some (b off len cap : Nat) (l : List Z.V) (w : World) (hl : l.length = len) (hm : len ≤ 100000000) (hlt : b < w.heap.size)
    (hc : ∀ j x, l[j]? = some x → w.cell? ⟨b, off + j * 3, none⟩ = some (.int .i64 x.k) ∧ w.cell? ⟨b, off + j * 3 + 1, none⟩ = some (.int .i64 x.i) ∧ w.cell? ⟨b, off + j * 3 + 2, none⟩ = some (.string x.s)) :
    Calls Try.prog 18 #[.slice (some ⟨b, off, none⟩) len cap] w fun e w' => ∃ v, e = .returned v ∧ OwnR w' 49 w.heap.size v (Z.runs l) ∧ Below w.heap.size w w' := by
  have HC := hide hc
  have HL := hide hl
  clear hc hl
  go_enter Try.func18, Try.ntmps18
  go_wp2_with fail
  go_loopw [3, 8] (fun v i wr => ∃ j : Nat, j ≤ len ∧ i = .int .i64 j ∧ Hid (OwnR wr 49 w.heap.size v (Z.runs (l.take j))) ∧ Hid (Below w.heap.size w wr)) (fun _ i _ => len - (intOf i).toNat)
  case atStart => exact ⟨0, Nat.zero_le _, rfl, hide (ownR_nil _ _ _), hide (Below.refl _ _)⟩
  case round =>
    obtain ⟨j, hj, rfl, hrow, hbw⟩ := hrel
    by_cases hjl : j < len
    · obtain ⟨⟨xk, xi, xs⟩, hx⟩ : ∃ x, l[j]? = some x := ⟨l[j]'(by rw [HL.out]; exact hjl), List.getElem?_eq_getElem _⟩
      obtain ⟨c1, c2, c3⟩ := HC.out j _ hx
      have d1 : wr.cell? ⟨b, off + j * 3, none⟩ = some (.int .i64 xk) := by rw [hbw.out.cell (p := ⟨b, off + j * 3, none⟩) hlt]; exact c1
      have d2 : wr.cell? ⟨b, off + j * 3 + 1, none⟩ = some (.int .i64 xi) := by rw [hbw.out.cell (p := ⟨b, off + j * 3 + 1, none⟩) hlt]; exact c2
      have d3 : wr.cell? ⟨b, off + j * 3 + 2, none⟩ = some (.string xs) := by rw [hbw.out.cell (p := ⟨b, off + j * 3 + 2, none⟩) hlt]; exact c3
      have HX := hide hx
      have hrl : (Z.runs (l.take j)).length ≤ j := by
        have := runs_few (l.take j)
        rw [List.length_take] at this
        omega
      have HRL := hide hrl
      have b1 := below_one wr (.cells #[.int .i64 xk, .int .i64 xi, .string xs] 47)
      have hrow1 := hrow.out.below b1
      obtain ⟨ra, rc, hv, hsl, hob⟩ := SlR.of_own hrow1
      have HG := hide (goes_any ra _ rc (Z.runs (l.take j)) xk xi xs _ hsl (by omega))
      have HB1 := hide (bthen hbw.out b1)
      have HR1 := hide hrow1
      have hA := At.new wr xk xi xs
      have HA := hide hA
      obtain ⟨v0, v1, v2⟩ := hA.cells
      obtain ⟨m, hmm⟩ : ∃ m, (Z.runs (l.take j)).length = m := ⟨_, rfl⟩
      have hmj : m ≤ 100000000 := by omega
      rw [hmm] at hv HG
      have HV := hide hv
      rw [hv]
      clear c1 c2 c3 hx hrl b1 hrow1 hsl hob hA hmm hv
      go_wp2_with fail
      refine HG.out.mono ?_
      rintro e w2 ⟨rfl, hb2⟩
      obtain ⟨q, hq⟩ : ∃ q, Z.isV (Z.top (Z.runs (l.take j)).reverse) ⟨xk, xi, xs⟩ = q := ⟨_, rfl⟩
      rw [hq]
      have HB2 := hide (bthen HB1.out hb2)
      have hrow2 := HR1.out.below hb2
      clear HG d1 d2 d3 v0 v1 v2
      have ht : l.take (j + 1) = l.take j ++ [⟨xk, xi, xs⟩] := take_snocV HX.out
      cases q with
      | true =>
        obtain ⟨a, n, e1, e2⟩ := runs_more hq
        rw [← ht] at e2
        have hn := run_n_le (l := l.take j) (r := ⟨n, ⟨xk, xi, xs⟩⟩) (by rw [e1]; simp)
        have hn0 := neat_pos (neat_runs (l.take j)) ⟨n, ⟨xk, xi, xs⟩⟩ (by rw [e1]; simp)
        have hn1 : n ≤ 100000000 := by
          rw [List.length_take] at hn
          have : n ≤ ((min j l.length : Nat) : Int) := hn
          omega
        have hn2 : 1 ≤ n := hn0
        rw [e1, HV.out] at hrow2
        obtain ⟨g, c, hv, hg, hgl⟩ := ownR_some hrow2
        injection hv with hv1 hv2 hv3
        subst hv1
        have hal : a.length = m - 1 := by omega
        obtain ⟨p, hp⟩ : ∃ p, a.length = p := ⟨_, rfl⟩
        have hrow3 := hrow2
        unfold OwnR at hrow3
        rw [show (a ++ [(⟨n, ⟨xk, xi, xs⟩⟩ : Z.R)]).length = p + 1 by rw [List.length_append, hp]; rfl, show m = p + 1 by omega] at hrow3
        obtain ⟨z0, _, _, _⟩ := cellsR_get (a ++ [⟨n, ⟨xk, xi, xs⟩⟩]) a.length ⟨n, ⟨xk, xi, xs⟩⟩ (by simp)
        rw [hp] at z0
        have c0 := (hrow3.cellAt (p * 4) (by omega)).trans z0
        have f0 := hrow3.frozenAt (p * 4)
        have hL0 : (m : Int) - 1 = (p : Int) := by omega
        have hpm : p < m := by omega
        have HR3 := hide hrow3
        have HE2 := hide e2
        have HAL := hide hp
        have HG := hide hg
        have HGL := hide hgl
        clear hn hn0 e1 e2 hrow2 hrow3 hq ht hal hp z0 hb2 hv2 hv3 hg hgl
        go_wp2
        go_roundw
        case rel =>
          refine ⟨j + 1, hjl, by go_num, hide ?_, hide (HB2.out.setCell (p := ⟨g, p * 4, none⟩) HG.out _)⟩
          have h1 := (HR3.out.stored (p * 4) (.int .i64 (n + 1))).1
          have h2 := cellsR_last a n (n + 1) ⟨xk, xi, xs⟩
          rw [HAL.out] at h2
          rw [h2] at h1
          have h3 : (a ++ [(⟨n + 1, ⟨xk, xi, xs⟩⟩ : Z.R)]).length = p + 1 := by rw [List.length_append, HAL.out]; rfl
          unfold OwnR
          rw [HE2.out, h3, show m = p + 1 by omega]
          exact h1
        case measure => simp [intOf]; omega
      | false =>
        have e2 := runs_new hq
        rw [← ht] at e2
        have HE2 := hide e2
        have hA2 := HA.out.below hb2
        obtain ⟨v0, v1, v2⟩ := hA2.cells
        have hrow3 : OwnR (w2.alloc (.cells #[.int .i64 1, .int .i64 xk, .int .i64 xi, .string xs] 49)) 49 w.heap.size u3 (Z.runs (l.take j)) := hrow2.below (below_one _ _)
        rw [HV.out] at hrow3
        have hsz2 := HB2.out.size
        have HR3 := hide hrow3
        have HB3 := hide (HB2.out.alloc HB2.out.size (.cells #[.int .i64 1, .int .i64 xk, .int .i64 xi, .string xs] 49))
        clear hq e2 hrow2 hrow3 ht hb2 hA2
        go_wp2_with (at_builtin; refine wpList_appR 35 49 Try.underlying35 Try.infoRun rfl _ _ rfl w.heap.size (.slice ra m rc) (Z.runs (l.take j)) rfl HR3.out (some ⟨w2.heap.size, 0, none⟩) 1 ⟨1, ⟨xk, xi, xs⟩⟩ rfl (slR_one w2 49 1 xk xi xs) (by have := HRL.out; omega) (by simp; omega) ?_)
        intro v4 w4 ho4 has
        rw [← HE2.out] at ho4
        have hb4 : Below w.heap.size w w4 := HB3.out.trans (has.below (by simp; omega) (fun k hk => (owns_lt HR3.out hk).1))
        have HO4 := hide ho4
        have HB4 := hide hb4
        clear ho4 hb4 has v0 v1 v2
        go_wp2
        go_roundw
        case rel => exact ⟨j + 1, hjl, by go_num, HO4, HB4⟩
        case measure => simp [intOf]; omega
    · obtain rfl : j = len := by omega
      have hll : l.take j = l := by rw [← HL.out, List.take_length]
      have HR : Hid (OwnR wr 49 w.heap.size u3 (Z.runs l)) := by
        have := hrow.out
        rwa [hll] at this
      clear hll hrow
      go_wp2
      go_ret
      exact ⟨_, rfl, HR.out, hbw.out⟩
theorem runs_none (ao : Option Addr) (cap : Nat) (w : World) : Calls Try.prog 18 #[.slice ao 0 cap] w fun e w' => ∃ v, e = .returned v ∧ OwnR w' 49 w.heap.size v (Z.runs []) ∧ Below w.heap.size w w' := by
  go_enter Try.func18, Try.ntmps18
  go_wp2_with fail
  go_rounds 1
  go_ret
  exact ⟨_, rfl, ownR_nil _ _ _, Below.refl _ _⟩
theorem runs_any (ao : Option Addr) (len cap : Nat) (l : List Z.V) (w : World) (h : SlV w ao len cap l) (hm : len ≤ 100000000) :
    Calls Try.prog 18 #[.slice ao len cap] w fun e w' => ∃ v, e = .returned v ∧ OwnR w' 49 w.heap.size v (Z.runs l) ∧ Below w.heap.size w w' := by
  rcases h.2.2.2.2 with h5 | ⟨b, off, rfl, hlt, h5⟩
  · subst h5
    obtain rfl : l = [] := List.eq_nil_of_length_eq_zero h.1
    exact runs_none ao cap w
  · exact runs_some b off len cap l w h.1 hm hlt h5
end Go.Proofs.Ytfggfmcbinhigaa
/- Spread: runs' values. -/
namespace Go.Proofs.Ytfggfmcbinhigaa
set_option linter.unusedVariables false
open Go.RowKit

theorem take_snocR {rs : List Z.R} {j : Nat} {r : Z.R} (h : rs[j]? = some r) : rs.take (j + 1) = rs.take j ++ [r] := by
  obtain ⟨hj, hr⟩ := List.getElem?_eq_some_iff.1 h
  rw [List.take_succ_eq_append_getElem hj, hr]
/-- At most 4096 of runs' values. -/
def Z.spr (rs : List Z.R) : List Z.V := (Z.sp rs).take 4096
theorem spr_few {rs : List Z.R} (h : (Z.sp rs).length ≤ 4096) : Z.spr rs = Z.sp rs := List.take_of_length_le h
theorem spr_length (rs : List Z.R) : (Z.spr rs).length ≤ 4096 := by unfold Z.spr; rw [List.length_take]; omega
/-- How many of the next run are spread. -/
def Z.spK (rs : List Z.R) (n : Int) : Nat := (min n (4096 - ((Z.spr rs).length : Int))).toNat
theorem spr_snoc (rs : List Z.R) (n : Int) (x : Z.V) : Z.spr (rs ++ [⟨n, x⟩]) = Z.spr rs ++ List.replicate (Z.spK rs n) x := by
  unfold Z.spr Z.spK Z.spr
  rw [sp_append, List.take_append]
  have e : Z.sp [(⟨n, x⟩ : Z.R)] = List.replicate n.toNat x := by simp [Z.sp]
  rw [e, List.take_replicate]
  congr 2
  rw [List.length_take]
  omega

set_option maxHeartbeats 1000000 in
theorem spread_some (b off len cap : Nat) (rs : List Z.R) (w : World) (hl : rs.length = len) (hm : len ≤ 100000000) (hlt : b < w.heap.size)
    (hc : ∀ j x, rs[j]? = some x → w.cell? ⟨b, off + j * 4, none⟩ = some (.int .i64 x.n) ∧ w.cell? ⟨b, off + j * 4 + 1, none⟩ = some (.int .i64 x.v.k) ∧ w.cell? ⟨b, off + j * 4 + 2, none⟩ = some (.int .i64 x.v.i) ∧ w.cell? ⟨b, off + j * 4 + 3, none⟩ = some (.string x.v.s)) :
    Calls Try.prog 21 #[.slice (some ⟨b, off, none⟩) len cap] w fun e w' => ∃ v, e = .returned v ∧ OwnV w' w.heap.size v (Z.spr rs) ∧ Below w.heap.size w w' := by
  have HC := hide hc
  have HL := hide hl
  clear hc hl
  go_enter Try.func21, Try.ntmps21
  go_wp2_with fail
  go_loopw [3, 8] (fun v i wr => ∃ j : Nat, j ≤ len ∧ i = .int .i64 j ∧ Hid (OwnV wr w.heap.size v (Z.spr (rs.take j))) ∧ Hid (Below w.heap.size w wr)) (fun _ i _ => len - (intOf i).toNat)
  case atStart => exact ⟨0, Nat.zero_le _, rfl, hide (World.ownsRow_nil _ _ _ _), hide (Below.refl _ _)⟩
  case round =>
    obtain ⟨j, hj, rfl, hrow, hbw⟩ := hrel
    by_cases hjl : j < len
    · obtain ⟨⟨n, ⟨xk, xi, xs⟩⟩, hx⟩ : ∃ x, rs[j]? = some x := ⟨rs[j]'(by rw [HL.out]; exact hjl), List.getElem?_eq_getElem _⟩
      obtain ⟨c1, c2, c3, c4⟩ := HC.out j _ hx
      have d1 : wr.cell? ⟨b, off + j * 4, none⟩ = some (.int .i64 n) := by rw [hbw.out.cell (p := ⟨b, off + j * 4, none⟩) hlt]; exact c1
      have d2 : wr.cell? ⟨b, off + j * 4 + 1, none⟩ = some (.int .i64 xk) := by rw [hbw.out.cell (p := ⟨b, off + j * 4 + 1, none⟩) hlt]; exact c2
      have d3 : wr.cell? ⟨b, off + j * 4 + 2, none⟩ = some (.int .i64 xi) := by rw [hbw.out.cell (p := ⟨b, off + j * 4 + 2, none⟩) hlt]; exact c3
      have d4 : wr.cell? ⟨b, off + j * 4 + 3, none⟩ = some (.string xs) := by rw [hbw.out.cell (p := ⟨b, off + j * 4 + 3, none⟩) hlt]; exact c4
      have HX := hide hx
      have b1 := below_one wr (.cells #[.int .i64 n, .int .i64 xk, .int .i64 xi, .string xs] 49)
      have hrow1 := hrow.out.below b1
      obtain ⟨ra, rc, hv, hsl, hob⟩ := SlV.of_own hrow1
      have hl4 := spr_length (rs.take j)
      have hA := AtR.new wr 49 n xk xi xs
      obtain ⟨a0, a1, a2, a3⟩ := hA.cells
      obtain ⟨M, hM⟩ : ∃ M, min n (4096 - ((Z.spr (rs.take j)).length : Int)) = M := ⟨_, rfl⟩
      have HK : Hid (Z.spK (rs.take j) n = M.toNat) := by show _ = _; unfold Z.spK; rw [hM]
      obtain ⟨m, hmm⟩ : ∃ m, (Z.spr (rs.take j)).length = m := ⟨_, rfl⟩
      rw [hmm] at hv hl4 hM
      have hM1 : M ≤ 4096 := by omega
      have hMm : (m : Int) + M ≤ 4096 := by omega
      have hmin : ∀ (ts : Array TypeId) (t : TypeId) (w : World), (Builtin.min_ ts t #[.int .i64 n, .int .i64 (4096 - (m : Int))]).run Try.prog w = .ok (.int .i64 M) w := fun ts t w => by
        rw [run_min_int2]
        congr 2
        rw [← hM]
        split <;> omega
      have HA := hide hA
      have HR1 := hide hrow1
      have HB1 := hide (bthen hbw.out b1)
      have HMM := hide hmm
      have HV := hide hv
      rw [hv]
      rw [hv] at HR1
      clear c1 c2 c3 c4 hx b1 hrow1 hsl hob hA hmm hM hv
      go_wp2_with fail
      obtain ⟨R, hR⟩ : ∃ R, wr.heap.size = R := ⟨_, rfl⟩
      rw [hR] at HA ⊢
      clear hR hmin a0 a1 a2 a3 d1 d2 d3 d4
      go_loopw [3, 18] (fun v i wq => ∃ c : Nat, c ≤ M.toNat ∧ i = .int .i64 c ∧ Hid (OwnV wq w.heap.size v (Z.spr (rs.take j) ++ List.replicate c ⟨xk, xi, xs⟩)) ∧ Hid (AtR wq R 49 n xk xi xs) ∧ Hid (Below w.heap.size w wq)) (fun _ i _ => M.toNat - (intOf i).toNat)
      case atStart => exact ⟨0, Nat.zero_le _, rfl, by rw [List.replicate_zero, List.append_nil]; exact HR1, HA, HB1⟩
      case round =>
        obtain ⟨c, hcM, rfl, hrow, hA, hbw⟩ := hrel
        by_cases hcl : (c : Int) < M
        · have hd : decide ((c : Int) < M) = true := by simpa using hcl
          have b1 := below_one wr (.cells #[.int .i64 xk, .int .i64 xi, .string xs] 47)
          obtain ⟨a0, a1, a2, a3⟩ := hA.out.cells
          have hsz := hbw.out.size
          have HB1 := hide (bthen hbw.out b1)
          have HR2 := hide (hrow.out.below b1)
          have HA2 := hide (hA.out.below b1)
          have HNL : Hid ((Z.spr (rs.take j) ++ List.replicate c (⟨xk, xi, xs⟩ : Z.V)).length = m + c) := by show _ = _; rw [List.length_append, HMM.out, List.length_replicate]
          clear b1
          go_wp2_with (at_builtin; refine wpList_appV rfl _ _ rfl w.heap.size u3 (Z.spr (rs.take j) ++ List.replicate c ⟨xk, xi, xs⟩) rfl HR2.out (some ⟨wr.heap.size, 0, none⟩) 1 1 [⟨xk, xi, xs⟩] rfl (slV_one wr xk xi xs) (by rw [HNL.out]; omega) (by simp; omega) ?_)
          intro v4 w4 ho4 has _
          have hb4 : Below w.heap.size w w4 := HB1.out.trans (has.below (by simp; omega) (fun k hk => (owns_lt HR2.out hk).1))
          have hA4 : AtR w4 R 49 n xk xi xs := (has.1.block R (lt_of_block HA2.out) (owns_ne_block HR2.out HA2.out (by decide))).trans HA2.out
          rw [show List.replicate c (⟨xk, xi, xs⟩ : Z.V) ++ [⟨xk, xi, xs⟩] = List.replicate (c + 1) ⟨xk, xi, xs⟩ from List.replicate_succ'.symm] at ho4
          have HO4 := hide ho4
          have HB4 := hide hb4
          have HA4 := hide hA4
          clear ho4 hb4 has hA4
          go_wp2
          go_roundw
          case rel => exact ⟨c + 1, by omega, by go_num, HO4, HA4, HB4⟩
          case measure => simp [intOf]; omega
        · have hd : decide ((c : Int) < M) = false := by simpa using hcl
          have HRN : Hid (OwnV wr w.heap.size u3 (Z.spr (rs.take (j + 1)))) := by
            have h1 := hrow.out
            rw [take_snocR HX.out, spr_snoc, HK.out, show M.toNat = c by omega]
            exact h1
          clear hrow hA
          go_wp2
          go_roundw
          case rel => exact ⟨j + 1, hjl, by go_num, HRN, hbw⟩
          case measure => simp [intOf]; omega
    · obtain rfl : j = len := by omega
      have hll : rs.take j = rs := by rw [← HL.out, List.take_length]
      have HR : Hid (OwnV wr w.heap.size u3 (Z.spr rs)) := by
        have := hrow.out
        rwa [hll] at this
      clear hll hrow
      go_wp2
      go_ret
      exact ⟨_, rfl, HR.out, hbw.out⟩
theorem spread_none (ao : Option Addr) (cap : Nat) (w : World) : Calls Try.prog 21 #[.slice ao 0 cap] w fun e w' => ∃ v, e = .returned v ∧ OwnV w' w.heap.size v (Z.spr []) ∧ Below w.heap.size w w' := by
  go_enter Try.func21, Try.ntmps21
  go_wp2_with fail
  go_rounds 1
  go_ret
  exact ⟨_, rfl, World.ownsRow_nil _ _ _ _, Below.refl _ _⟩
theorem spread_any (ao : Option Addr) (len cap : Nat) (rs : List Z.R) (w : World) (h : SlR w ao len cap rs) (hm : len ≤ 100000000) :
    Calls Try.prog 21 #[.slice ao len cap] w fun e w' => ∃ v, e = .returned v ∧ OwnV w' w.heap.size v (Z.spr rs) ∧ Below w.heap.size w w' := by
  rcases h.2.2.2.2 with h5 | ⟨b, off, rfl, hlt, h5⟩
  · subst h5
    obtain rfl : rs = [] := List.eq_nil_of_length_eq_zero h.1
    exact spread_none ao cap w
  · exact spread_some b off len cap rs w h.1 hm hlt h5
end Go.Proofs.Ytfggfmcbinhigaa

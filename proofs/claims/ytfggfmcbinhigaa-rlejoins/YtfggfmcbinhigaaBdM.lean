/- Rows of runs in memory: read, one's own, appended to, changed. -/
import Derived.Test.YtfggfmcbinhigaaBdH
import Derived.Test.YtfggfmcbinhigaaBdL
import Derived.Test.YtfggfmcbinhigaaBdG
import Derived.Test.YtfggfmcbinhigaaBdJ
import Derived.Test.YtfggfmcbinhigaaBdD
namespace Go.Proofs.Ytfggfmcbinhigaa
set_option linter.unusedVariables false
open Go.RowKit

/-- A slice of runs that can be read. -/
def SlR (w : World) (ao : Option Addr) (len cap : Nat) (l : List Z.R) : Prop :=
  l.length = len ∧ len ≤ cap ∧ cap ≤ maxLen ∧ (ao = none → cap = 0) ∧ (len = 0 ∨ ∃ b off, ao = some ⟨b, off, none⟩ ∧ b < w.heap.size ∧ ∀ j x, l[j]? = some x → w.cell? ⟨b, off + j * 4, none⟩ = some (.int .i64 x.n) ∧ w.cell? ⟨b, off + j * 4 + 1, none⟩ = some (.int .i64 x.v.k) ∧ w.cell? ⟨b, off + j * 4 + 2, none⟩ = some (.int .i64 x.v.i) ∧ w.cell? ⟨b, off + j * 4 + 3, none⟩ = some (.string x.v.s))
theorem SlR.below {w w' : World} {ao : Option Addr} {len cap : Nat} {l : List Z.R} (h : SlR w ao len cap l) (hb : Below w.heap.size w w') : SlR w' ao len cap l := by
  obtain ⟨h1, h2, h3, h4, h5⟩ := h
  refine ⟨h1, h2, h3, h4, ?_⟩
  rcases h5 with h5 | ⟨b, off, rfl, hlt, h5⟩
  · exact .inl h5
  · refine .inr ⟨b, off, rfl, by have := hb.size; omega, fun j x hx => ?_⟩
    rw [hb.cell (p := ⟨b, off + j * 4, none⟩) hlt, hb.cell (p := ⟨b, off + j * 4 + 1, none⟩) hlt, hb.cell (p := ⟨b, off + j * 4 + 2, none⟩) hlt, hb.cell (p := ⟨b, off + j * 4 + 3, none⟩) hlt]
    exact h5 j x hx
/-- A row's cells. -/
def cellsR (l : List Z.R) : List Value := l.flatMap fun x => [.int .i64 x.n, .int .i64 x.v.k, .int .i64 x.v.i, .string x.v.s]
theorem cellsR_cons (x : Z.R) (l : List Z.R) : cellsR (x :: l) = .int .i64 x.n :: .int .i64 x.v.k :: .int .i64 x.v.i :: .string x.v.s :: cellsR l := rfl
theorem cellsR_length : ∀ l : List Z.R, (cellsR l).length = l.length * 4
  | [] => rfl
  | x :: l => by rw [cellsR_cons]; simp [cellsR_length l]; omega
theorem cellsR_append (a b : List Z.R) : cellsR (a ++ b) = cellsR a ++ cellsR b := by simp [cellsR]
theorem cellsR_get : ∀ (l : List Z.R) (j : Nat) (x : Z.R), l[j]? = some x → (cellsR l)[j * 4]? = some (.int .i64 x.n) ∧ (cellsR l)[j * 4 + 1]? = some (.int .i64 x.v.k) ∧ (cellsR l)[j * 4 + 2]? = some (.int .i64 x.v.i) ∧ (cellsR l)[j * 4 + 3]? = some (.string x.v.s)
  | [], j, x, h => by simp at h
  | y :: l, 0, x, h => by
    simp at h; subst h
    rw [cellsR_cons]; simp
  | y :: l, j + 1, x, h => by
    simp at h
    have := cellsR_get l j x h
    rw [cellsR_cons, show (j + 1) * 4 = j * 4 + 1 + 1 + 1 + 1 by omega, show j * 4 + 1 + 1 + 1 + 1 + 1 = (j * 4 + 1) + 1 + 1 + 1 + 1 by omega, show j * 4 + 1 + 1 + 1 + 1 + 2 = (j * 4 + 2) + 1 + 1 + 1 + 1 by omega, show j * 4 + 1 + 1 + 1 + 1 + 3 = (j * 4 + 3) + 1 + 1 + 1 + 1 by omega]
    simpa using this
theorem cellsR_one (l : List Z.R) : ∀ u ∈ cellsR l, u.oneCell' = true := by
  intro u hu
  obtain ⟨x, _, hx⟩ := List.mem_flatMap.1 hu
  simp at hx
  rcases hx with rfl | rfl | rfl | rfl <;> rfl
/-- The last run's number, changed. -/
theorem cellsR_last (l : List Z.R) (n m : Int) (v : Z.V) : (cellsR (l ++ [⟨n, v⟩])).set (l.length * 4) (.int .i64 m) = cellsR (l ++ [⟨m, v⟩]) := by
  rw [cellsR_append, cellsR_append, List.set_append_right _ _ (by rw [cellsR_length]; exact Nat.le_refl _), cellsR_length, Nat.sub_self]
  rfl
/-- A row of runs of one's own. -/
def OwnR (w : World) (t : TypeId) (B : Nat) (v : Value) (l : List Z.R) : Prop := w.ownsRow B t 4 v l.length (cellsR l)
theorem OwnR.below {w w' : World} {t : TypeId} {B : Nat} {v : Value} {l : List Z.R} (h : OwnR w t B v l) (hb : Below w.heap.size w w') : OwnR w' t B v l := owns_of_block h fun g hg => hb.block g (owns_lt h hg).2
theorem ownR_nil (w : World) (t : TypeId) (B : Nat) : OwnR w t B (.slice none 0 0) [] := World.ownsRow_nil _ _ _ _
theorem slR_nil (w : World) : SlR w none 0 0 [] := ⟨rfl, Nat.le_refl _, by simp [maxLen], fun _ => rfl, .inl rfl⟩
theorem SlR.of_own {w : World} {t : TypeId} {B : Nat} {v : Value} {l : List Z.R} (h : OwnR w t B v l) : ∃ ao cap, v = .slice ao l.length cap ∧ SlR w ao l.length cap l ∧ v.ownBlock = ao.map (·.block) := by
  have h0 := h
  rcases h.2 with ⟨h1, h2⟩ | ⟨g, cap, cur, hv, hg, hh, hc, hm, _⟩
  · have hl : l = [] := List.eq_nil_of_length_eq_zero h2
    subst hl
    exact ⟨Option.none, 0, h1, slR_nil w, by rw [h1]; rfl⟩
  · subst hv
    refine ⟨some ⟨g, 0, Option.none⟩, cap, rfl, ⟨rfl, hc, hm, by simp, .inr ⟨g, 0, rfl, lt_of_block hh, fun j x hx => ?_⟩⟩, rfl⟩
    have hj : j < l.length := (List.getElem?_eq_some_iff.1 hx).1
    obtain ⟨g0, g1, g2, g3⟩ := cellsR_get l _ _ hx
    have a0 := World.ownsRow.cellAt h0 (j * 4) (by omega)
    have a1 := World.ownsRow.cellAt h0 (j * 4 + 1) (by omega)
    have a2 := World.ownsRow.cellAt h0 (j * 4 + 2) (by omega)
    have a3 := World.ownsRow.cellAt h0 (j * 4 + 3) (by omega)
    rw [Nat.zero_add]
    exact ⟨a0.trans g0, a1.trans g1, a2.trans g2, a3.trans g3⟩
theorem slR_one (w : World) (t : TypeId) (n k i : Int) (s : ByteArray) : SlR (w.alloc (.cells #[.int .i64 n, .int .i64 k, .int .i64 i, .string s] t)) (some ⟨w.heap.size, 0, none⟩) 1 1 [⟨n, ⟨k, i, s⟩⟩] := by
  refine ⟨rfl, Nat.le_refl _, by decide, by simp, .inr ⟨w.heap.size, 0, rfl, by simp, fun j x hx => ?_⟩⟩
  match j, hx with
  | 0, hx => simp at hx; subst hx; simp
theorem SlR.news {w : World} {ao : Option Addr} {len cap : Nat} {l : List Z.R} (h : SlR w ao len cap l) : ∀ ad, ao = some ad → ∀ j u, (cellsR l)[j]? = some u → w.cell? (ad.add j) = some u := by
  obtain ⟨h1, h2, h3, h4, h5⟩ := h
  intro ad had j u hu
  have hj : j < l.length * 4 := by have := (List.getElem?_eq_some_iff.1 hu).1; rwa [cellsR_length] at this
  rcases h5 with h5 | ⟨b, off, hao, hlt, h5⟩
  · omega
  · rw [hao] at had
    obtain rfl := Option.some.inj had
    rw [Addr.add_lit]
    obtain ⟨x, hx⟩ : ∃ x, l[j / 4]? = some x := ⟨l[j / 4]'(by omega), List.getElem?_eq_getElem _⟩
    obtain ⟨c0, c1, c2, c3⟩ := h5 _ _ hx
    obtain ⟨g0, g1, g2, g3⟩ := cellsR_get l _ _ hx
    have hr : j = j / 4 * 4 ∨ j = j / 4 * 4 + 1 ∨ j = j / 4 * 4 + 2 ∨ j = j / 4 * 4 + 3 := by omega
    obtain ⟨q, hq⟩ : ∃ q, j / 4 = q := ⟨_, rfl⟩
    rw [hq] at hr c0 c1 c2 c3 g0 g1 g2 g3
    rcases hr with hr | hr | hr | hr
    · subst hr; rw [g0] at hu; rw [← Option.some.inj hu]; exact c0
    · subst hr; rw [g1] at hu; rw [← Option.some.inj hu, ← Nat.add_assoc]; exact c1
    · subst hr; rw [g2] at hu; rw [← Option.some.inj hu, ← Nat.add_assoc]; exact c2
    · subst hr; rw [g3] at hu; rw [← Option.some.inj hu, ← Nat.add_assoc]; exact c3
theorem Try.infoRun : (Try.prog.info? 49).map (fun i => (i.zero, i.size, i.bytes)) = some (some (.agg #[.int .i64 0, .int .i64 0, .int .i64 0, .string ⟨#[]⟩]), 4, 40) := by kernel_rfl
theorem Try.infoRfRun : (Try.prog.info? 60).map (fun i => (i.zero, i.size, i.bytes)) = some (some (.agg #[.int .i64 0, .int .i64 0, .int .i64 0, .string ⟨#[]⟩]), 4, 40) := by kernel_rfl
/-- One run more, to one's own row of runs. -/
theorem wpList_appR {w : World} {ops : Array Oper} {rest : List Oper} {o : Oper} {a : Act} {Q : Exit → Act → World → Prop} (ts t : TypeId) (hu : Try.prog.underlying ts = some (.slice t)) (hinfo : (Try.prog.info? t).map (fun i => (i.zero, i.size, i.bytes)) = some (some (.agg #[.int .i64 0, .int .i64 0, .int .i64 0, .string ⟨#[]⟩]), 4, 40))
    (hgd : o.guard = none) (s x : Operand) (ho : o.op = .call { callee := .builtin .append, args := #[s, x], argTypes := #[ts, ts] })
    (base : Nat) (v : Value) (l : List Z.R) (hs : a.eval s = v) (hown : OwnR w t base v l)
    (ao : Option Addr) (c : Nat) (r : Z.R) (hx : a.eval x = .slice ao 1 c) (hsl : SlR w ao 1 c [r]) (hlim : l.length ≤ 1000000000) (hbase : base ≤ w.heap.size)
    (h : ∀ v' w', OwnR w' t base v' (l ++ [r]) → AS w v w' v' → wpList Try.prog ops Q rest (a.put o.dst v') w') : wpList Try.prog ops Q (o :: rest) a w := by
  obtain ⟨i0, hi, hz0, hz1, hz2⟩ := info_parts hinfo
  refine wpList_append_to hgd s x ts ho base t i0 (.agg #[.int .i64 0, .int .i64 0, .int .i64 0, .string ⟨#[]⟩]) 4 40 hu hi hz0 hz1 hz2 rfl (by decide) v l.length (cellsR l) hs hown ao 1 c (cellsR [r]) hx (fun e => absurd (hsl.2.2.2.1 e) (by have := hsl.2.1; omega)) (by rw [cellsR_length]; rfl) hsl.news (cellsR_one _) (by unfold maxLen; omega) (by omega) hbase ?_
  intro v' w' h1 h2
  refine h v' w' ?_ h2
  unfold OwnR
  rw [cellsR_append, List.length_append]
  exact h1
/-- A run in a block. -/
def AtR (w : World) (b : Nat) (t : TypeId) (n k i : Int) (s : ByteArray) : Prop := w.heap[b]? = some (.cells #[.int .i64 n, .int .i64 k, .int .i64 i, .string s] t (0, 0))
theorem AtR.below {w w' : World} {b : Nat} {t : TypeId} {n k i : Int} {s : ByteArray} (h : AtR w b t n k i s) (hb : Below w.heap.size w w') : AtR w' b t n k i s := by
  unfold AtR at *; rw [hb.block b (lt_of_block h)]; exact h
theorem AtR.cells {w : World} {b : Nat} {t : TypeId} {n k i : Int} {s : ByteArray} (h : AtR w b t n k i s) : w.cell? ⟨b, 0, none⟩ = some (.int .i64 n) ∧ w.cell? ⟨b, 1, none⟩ = some (.int .i64 k) ∧ w.cell? ⟨b, 2, none⟩ = some (.int .i64 i) ∧ w.cell? ⟨b, 3, none⟩ = some (.string s) := by
  unfold AtR at h; simp [World.cell?, h]
theorem AtR.thawed {w : World} {b : Nat} {t : TypeId} {n k i : Int} {s : ByteArray} (h : AtR w b t n k i s) : w.frozen? ⟨b, 0, none⟩ = false ∧ w.frozen? ⟨b, 1, none⟩ = false ∧ w.frozen? ⟨b, 2, none⟩ = false ∧ w.frozen? ⟨b, 3, none⟩ = false := by
  unfold AtR at h; simp [World.frozen?, h]
theorem AtR.new (w : World) (t : TypeId) (n k i : Int) (s : ByteArray) : AtR (w.alloc (.cells #[.int .i64 n, .int .i64 k, .int .i64 i, .string s] t)) w.heap.size t n k i s := heap_alloc_new w _
theorem AtR.alloc {w : World} {b : Nat} {t : TypeId} {n k i : Int} {s : ByteArray} (h : AtR w b t n k i s) (o : Obj) : AtR (w.alloc o) b t n k i s := by
  unfold AtR at *; rw [Below.heap_alloc _ _ _ (lt_of_block h)]; exact h
end Go.Proofs.Ytfggfmcbinhigaa
/- Plain facts: so many bytes ahead tell a value, or its error, as all of them do. -/
namespace Go.Proofs.Ytfggfmcbinhigaa
set_option linter.unusedVariables false
open Go.RowKit

theorem E.lead_take : ∀ (f m : Nat) (l : List Nat), f ≤ m → E.lead f (l.take m) = E.lead f l
  | 0, _, _, _ => rfl
  | f + 1, m + 1, [], _ => rfl
  | f + 1, m + 1, c :: r, h => by
    simp only [List.take_succ_cons, E.lead]
    rw [E.lead_take f m r (by omega)]
  | f + 1, 0, _, h => by omega
theorem E.g_take {m : Nat} (hm : 10 ≤ m) (l : List Nat) : E.gE (l.take m) = E.gE l ∧ E.gK (l.take m) = E.gK l ∧ E.gN (l.take m) = E.gN l := by
  have h1 := E.lead_take 9 m l (by omega)
  have h2 := (E.lead_is 9 l).1
  have h3 := (E.lead_is 9 l).2.1
  have hl : (l.take m).length = min m l.length := List.length_take
  have hE : E.gE (l.take m) = E.gE l := by
    unfold E.gE
    rw [h1, E.getD_take l 9 m (by omega), E.getD_take l (E.lead 9 l) m (by omega), hl]
    by_cases h4 : E.lead 9 l = l.length
    · rw [if_pos h4, if_pos (by omega)]
    · rw [if_neg h4, if_neg (by omega)]
  refine ⟨hE, ?_, ?_⟩
  · unfold E.gK; rw [hE, h1]
  · unfold E.gN; rw [hE, h1, List.take_take, Nat.min_eq_left (by omega)]
theorem E.gK_ten (l : List Nat) : E.gK l ≤ 10 := by
  have h2 := (E.lead_is 9 l).1
  unfold E.gK
  split <;> omega
/-- How many bytes tell a value of a kind. -/
def Z.most (kind : Int) : Nat := if kind = 3 then 1034 else 10
theorem o8_take (l : List Nat) (m : Nat) (h : 8 ≤ m) : Z.o8 (l.take m) = Z.o8 l := by
  unfold Z.o8
  simp only [E.getD_take l 0 m (by omega), E.getD_take l 1 m (by omega), E.getD_take l 2 m (by omega), E.getD_take l 3 m (by omega), E.getD_take l 4 m (by omega), E.getD_take l 5 m (by omega), E.getD_take l 6 m (by omega), E.getD_take l 7 m (by omega)]
theorem drop_len {l : List Nat} {m K : Nat} (hK : K ≤ (l.take m).length) : l.drop ((l.take m).length - ((l.take m).drop K).length) = l.drop K ∧ ((l.take m).drop K).length ≤ (l.take m).length := by
  rw [List.length_drop]
  exact ⟨by congr 1; omega, by omega⟩
theorem gK_take (l : List Nat) (m : Nat) (hm : 10 ≤ m) : E.gK l ≤ (l.take m).length := by
  have h2 := (E.lead_is 9 l).2.1
  have h1 := (E.lead_is 9 l).1
  rw [List.length_take]
  unfold E.gK
  split
  · rename_i h
    have h4 : E.lead 9 l ≠ l.length := fun h4 => by unfold E.gE at h; rw [if_pos h4] at h; omega
    omega
  · omega
theorem oE_two (l : List Nat) : Z.oE l 2 = if l.length < 8 then 3 else if D.ky (D.bt ((Z.o8 l : Nat) : Int)) = ((Z.o8 l : Nat) : Int) then 0 else 4 := by unfold Z.oE; rw [if_neg (by decide), if_neg (by decide), if_pos rfl]
theorem o_ahead {kind : Int} (hk : kind = 1 ∨ kind = 2 ∨ kind = 3) (l : List Nat) :
    Z.oE (l.take (Z.most kind)) kind = Z.oE l kind ∧ Z.oV (l.take (Z.most kind)) kind = Z.oV l kind ∧
      (Z.oE l kind = 0 → l.drop ((l.take (Z.most kind)).length - (Z.oR (l.take (Z.most kind)) kind).length) = Z.oR l kind) ∧ (Z.oR (l.take (Z.most kind)) kind).length ≤ (l.take (Z.most kind)).length := by
  have key : ∀ m, Z.most kind = m → Z.oE (l.take m) kind = Z.oE l kind → (Z.oE l kind = 0 → Z.oW (l.take m) kind = Z.oW l kind ∧ ∃ K, K ≤ (l.take m).length ∧ Z.oS (l.take m) kind = (l.take m).drop K ∧ Z.oS l kind = l.drop K) →
      Z.oE (l.take m) kind = Z.oE l kind ∧ Z.oV (l.take m) kind = Z.oV l kind ∧ (Z.oE l kind = 0 → l.drop ((l.take m).length - (Z.oR (l.take m) kind).length) = Z.oR l kind) ∧ (Z.oR (l.take m) kind).length ≤ (l.take m).length := by
    intro m _ hE h
    refine ⟨hE, ?_, ?_, ?_⟩
    · unfold Z.oV
      rw [hE]
      split
      · rename_i h0; exact (h h0).1
      · rfl
    · intro h0
      obtain ⟨_, K, hK, e1, e2⟩ := h h0
      unfold Z.oR
      rw [hE, if_pos h0, if_pos h0, e1, e2]
      exact (drop_len hK).1
    · unfold Z.oR
      rw [hE]
      split
      · rename_i h0
        obtain ⟨_, K, hK, e1, e2⟩ := h h0
        rw [e1]
        exact (drop_len hK).2
      · simp
  refine key _ rfl ?_ ?_
  · rcases hk with rfl | rfl | rfl
    · show Z.oE (l.take 10) 1 = _
      unfold Z.oE
      rw [if_neg (by decide), if_pos rfl, if_neg (by decide), if_pos rfl, (E.g_take (by omega) l).1]
    · show Z.oE (l.take 10) 2 = _
      rw [oE_two, oE_two, o8_take l 10 (by omega), List.length_take]
      by_cases h8 : l.length < 8
      · rw [if_pos (by omega), if_pos h8]
      · rw [if_neg (by omega), if_neg h8]
    · show Z.oE (l.take 1034) 3 = _
      unfold Z.oE
      rw [if_neg (by decide), if_neg (by decide), if_neg (by decide), if_pos rfl, if_neg (by decide), if_neg (by decide), if_neg (by decide), if_pos rfl]
      obtain ⟨g1, g2, g3⟩ := E.g_take (m := 1034) (by omega) l
      have g4 := E.gK_ten l
      unfold E.xE
      rw [g1, g2, g3, List.length_take]
      split
      · rfl
      · split
        · rfl
        · by_cases h8 : l.length - E.gK l < E.gN l
          · rw [if_pos (by omega), if_pos h8]
          · rw [if_neg (by omega), if_neg h8]
  · intro h0
    rcases hk with rfl | rfl | rfl
    · show Z.oW (l.take 10) 1 = _ ∧ ∃ K, K ≤ (l.take 10).length ∧ Z.oS (l.take 10) 1 = (l.take 10).drop K ∧ _
      obtain ⟨g1, g2, g3⟩ := E.g_take (m := 10) (by omega) l
      refine ⟨?_, E.gK l, gK_take l 10 (by omega), ?_, ?_⟩
      · unfold Z.oW; rw [if_pos rfl, if_pos rfl, g3]
      · unfold Z.oS; rw [if_pos rfl, g2]
      · unfold Z.oS; rw [if_pos rfl]
    · show Z.oW (l.take 10) 2 = _ ∧ ∃ K, K ≤ (l.take 10).length ∧ Z.oS (l.take 10) 2 = (l.take 10).drop K ∧ _
      have h8 : 8 ≤ l.length := by
        unfold Z.oE at h0
        rw [if_neg (by decide), if_neg (by decide), if_pos rfl] at h0
        split at h0
        · exact absurd h0 (by decide)
        · omega
      refine ⟨?_, 8, by rw [List.length_take]; omega, ?_, ?_⟩
      · unfold Z.oW; rw [if_neg (by decide), if_pos rfl, if_neg (by decide), if_pos rfl, o8_take l 10 (by omega)]
      · unfold Z.oS; rw [if_neg (by decide), if_pos rfl]
      · unfold Z.oS; rw [if_neg (by decide), if_pos rfl]
    · show Z.oW (l.take 1034) 3 = _ ∧ ∃ K, K ≤ (l.take 1034).length ∧ Z.oS (l.take 1034) 3 = (l.take 1034).drop K ∧ _
      obtain ⟨g1, g2, g3⟩ := E.g_take (m := 1034) (by omega) l
      have g4 := E.gK_ten l
      have hx : E.gN l ≤ 1024 ∧ E.gN l ≤ l.length - E.gK l := by
        unfold Z.oE at h0
        rw [if_neg (by decide), if_neg (by decide), if_neg (by decide), if_pos rfl] at h0
        unfold E.xE at h0
        split at h0
        · exact absurd h0 (by assumption)
        · split at h0
          · exact absurd h0 (by decide)
          · split at h0
            · exact absurd h0 (by decide)
            · omega
      have hgk := gK_take l 1034 (by omega)
      refine ⟨?_, E.gK l + E.gN l, ?_, ?_, ?_⟩
      · unfold Z.oW
        rw [if_neg (by decide), if_neg (by decide), if_pos rfl, if_neg (by decide), if_neg (by decide), if_pos rfl]
        unfold E.xS
        rw [g2, g3, List.drop_take, List.take_take, Nat.min_eq_left (by omega)]
      · rw [List.length_take] at hgk ⊢; omega
      · unfold Z.oS; rw [if_neg (by decide), if_neg (by decide), if_pos rfl]; unfold E.xR; rw [g2, g3, List.drop_drop]
      · unfold Z.oS; rw [if_neg (by decide), if_neg (by decide), if_pos rfl]; unfold E.xR; rw [List.drop_drop]
end Go.Proofs.Ytfggfmcbinhigaa
/- slices.ContainsFunc with the two closures of Check; Check. -/
namespace Go.Proofs.Ytfggfmcbinhigaa
set_option linter.unusedVariables false
open Go.RowKit

theorem any_get {l : List Z.V} {p : Z.V → Bool} {j : Nat} {x : Z.V} (h : l[j]? = some x) (hk : p x = true) : l.any p = true := List.any_eq_true.2 ⟨x, List.mem_of_getElem? h, hk⟩
theorem any_take {l : List Z.V} {p : Z.V → Bool} {j : Nat} {x : Z.V} (h : l[j]? = some x) (hk : p x = false) (ht : (l.take j).any p = false) : (l.take (j + 1)).any p = false := by
  rw [take_snocV h, List.any_append, ht, List.any_cons, hk]; rfl
def Z.isOther (kind : Int) (x : Z.V) : Bool := x.k != kind
def Z.mayNot (x : Z.V) : Bool := !Z.may x

theorem isother_any (B : Nat) (kind : Int) (k i : Int) (s : ByteArray) (w : World) (hb : w.heap[B]? = some (.cells #[.int .i64 kind] 3 (0, 0))) :
    Calls Try.prog 34 #[.agg #[.int .i64 k, .int .i64 i, .string s], .pointer (some ⟨B, 0, none⟩)] w fun e w' => e = .returned (.bool (Z.isOther kind ⟨k, i, s⟩)) ∧ Below w.heap.size w w' := by
  have hA := At.new w k i s
  have b0 := hide (below_one w (.cells #[.int .i64 k, .int .i64 i, .string s] 47))
  have hb1 := heap_alloc_keep (.cells #[.int .i64 k, .int .i64 i, .string s] 47) hb
  obtain ⟨c1, _⟩ := cell_of_heap hb1
  obtain ⟨a1, a2, a3⟩ := hA.cells
  clear hA hb hb1
  obtain ⟨q, hq⟩ : ∃ q, (k != kind) = q := ⟨_, rfl⟩
  have HQ : Hid (Z.isOther kind ⟨k, i, s⟩ = q) := hq
  go_enter Try.func34, Try.ntmps34
  go_wp2
  go_ret
  exact ⟨by rw [HQ.out]; rfl, b0.out⟩
theorem maynot_any (k i : Int) (s : ByteArray) (w : World) (hi : Z.I64 i) :
    Calls Try.prog 35 #[.agg #[.int .i64 k, .int .i64 i, .string s]] w fun e w' => e = .returned (.bool (Z.mayNot ⟨k, i, s⟩)) ∧ Below w.heap.size w w' := by
  have hA := At.new w k i s
  have b0 := hide (below_one w (.cells #[.int .i64 k, .int .i64 i, .string s] 47))
  obtain ⟨a1, a2, a3⟩ := hA.cells
  clear hA
  obtain ⟨q, hq⟩ : ∃ q, Z.may ⟨k, i, s⟩ = q := ⟨_, rfl⟩
  have HQ := hide hq
  clear hq
  go_enter Try.func35, Try.ntmps35
  go_wp2_with fail
  refine (may_any _ _ _ _ hi).mono ?_
  rintro e w1 ⟨rfl, hb⟩
  rw [HQ.out]
  replace b0 := hide (bthen b0.out hb)
  clear hb
  go_wp2
  go_ret
  exact ⟨by simp [Z.mayNot, HQ.out], b0.out⟩

set_option maxHeartbeats 1000000 in
theorem index_other (b off len cap : Nat) (l : List Z.V) (B : Nat) (kind : Int) (w : World) (hl : l.length = len) (hcap : len ≤ 140737488355328) (hlt : b < w.heap.size) (hB : w.heap[B]? = some (.cells #[.int .i64 kind] 3 (0, 0)))
    (hc : ∀ j x, l[j]? = some x → w.cell? ⟨b, off + j * 3, none⟩ = some (.int .i64 x.k) ∧ w.cell? ⟨b, off + j * 3 + 1, none⟩ = some (.int .i64 x.i) ∧ w.cell? ⟨b, off + j * 3 + 2, none⟩ = some (.string x.s)) :
    Calls Try.prog 55 #[.slice (some ⟨b, off, none⟩) len cap, .func (.func 34) #[] #[.pointer (some ⟨B, 0, none⟩)]] w fun e w' => ∃ r : Int, e = .returned (.int .i64 r) ∧ decide (0 ≤ r) = l.any (Z.isOther kind) ∧ Below w.heap.size w w' := by
  have HC := hide hc
  have HL := hide hl
  have HP := hide hB
  clear hc hl hB
  go_enter Try.func55, Try.ntmps55
  go_wp2_with fail
  go_loopw [8] (fun i wr => ∃ j : Nat, j ≤ len ∧ i = .int .i64 j ∧ Hid ((l.take j).any (Z.isOther kind) = false) ∧ Hid (Below w.heap.size w wr)) (fun i _ => len - (intOf i).toNat)
  case atStart => exact ⟨0, Nat.zero_le _, rfl, hide rfl, hide (Below.refl _ _)⟩
  case round =>
    obtain ⟨j, hj, rfl, han, hbw⟩ := hrel
    by_cases hjl : j < len
    · obtain ⟨⟨xk, xi, xs⟩, hx⟩ : ∃ x, l[j]? = some x := ⟨l[j]'(by rw [HL.out]; exact hjl), List.getElem?_eq_getElem _⟩
      obtain ⟨c1, c2, c3⟩ := HC.out j _ hx
      have d1 : wr.cell? ⟨b, off + j * 3, none⟩ = some (.int .i64 xk) := by rw [hbw.out.cell (p := ⟨b, off + j * 3, none⟩) hlt]; exact c1
      have d2 : wr.cell? ⟨b, off + j * 3 + 1, none⟩ = some (.int .i64 xi) := by rw [hbw.out.cell (p := ⟨b, off + j * 3 + 1, none⟩) hlt]; exact c2
      have d3 : wr.cell? ⟨b, off + j * 3 + 2, none⟩ = some (.string xs) := by rw [hbw.out.cell (p := ⟨b, off + j * 3 + 2, none⟩) hlt]; exact c3
      have HX := hide hx
      clear c1 c2 c3 hx
      go_wp2_with fail
      refine (isother_any B kind _ _ _ _ (by rw [hbw.out.block B (lt_of_block HP.out)]; exact HP.out)).mono ?_
      rintro e w2 ⟨rfl, hw2⟩
      have HBN := hide (bthen hbw.out hw2)
      obtain ⟨q, hq⟩ : ∃ q, (Z.isOther kind) ⟨xk, xi, xs⟩ = q := ⟨_, rfl⟩
      have HQ := hide hq
      rw [hq]
      clear hw2 hq d1 d2 d3
      cases q with
      | true =>
        go_wp2
        go_ret
        exact ⟨_, rfl, by rw [any_get HX.out HQ.out]; simp, HBN.out⟩
      | false =>
        go_wp2
        go_roundw
        case rel => exact ⟨j + 1, hjl, by go_num, hide (any_take HX.out HQ.out han.out), HBN⟩
        case measure => simp [intOf]; omega
    · obtain rfl : j = len := by omega
      have HE : Hid (l.any (Z.isOther kind) = false) := by
        have := han.out
        rwa [← HL.out, List.take_length] at this
      go_wp2
      go_ret
      exact ⟨_, rfl, by rw [HE.out]; rfl, hbw.out⟩
theorem index_other0 (ao : Option Addr) (cap : Nat) (B : Nat) (kind : Int) (w : World) :
    Calls Try.prog 55 #[.slice ao 0 cap, .func (.func 34) #[] #[.pointer (some ⟨B, 0, none⟩)]] w fun e w' => ∃ r : Int, e = .returned (.int .i64 r) ∧ decide (0 ≤ r) = ([] : List Z.V).any (Z.isOther kind) ∧ Below w.heap.size w w' := by
  go_enter Try.func55, Try.ntmps55
  go_wp2_with fail
  go_rounds 1
  go_ret
  exact ⟨_, rfl, rfl, Below.refl _ _⟩
theorem contains_other (ao : Option Addr) (len cap : Nat) (l : List Z.V) (B : Nat) (kind : Int) (w : World) (h : SlV w ao len cap l) (hcap : len ≤ 140737488355328) (hB : w.heap[B]? = some (.cells #[.int .i64 kind] 3 (0, 0))) :
    Calls Try.prog 38 #[.slice ao len cap, .func (.func 34) #[] #[.pointer (some ⟨B, 0, none⟩)]] w fun e w' => e = .returned (.bool (l.any (Z.isOther kind))) ∧ Below w.heap.size w w' := by
  have HC : Hid (Calls Try.prog 55 #[.slice ao len cap, .func (.func 34) #[] #[.pointer (some ⟨B, 0, none⟩)]] w fun e w' => ∃ r : Int, e = .returned (.int .i64 r) ∧ decide (0 ≤ r) = l.any (Z.isOther kind) ∧ Below w.heap.size w w') := by
    show Calls _ _ _ _ _
    rcases h.2.2.2.2 with h5 | ⟨b, off, rfl, hlt, h5⟩
    · subst h5
      obtain rfl : l = [] := List.eq_nil_of_length_eq_zero h.1
      exact index_other0 ao cap B kind w
    · exact index_other b off len cap l B kind w h.1 hcap hlt hB h5
  clear h hB
  go_enter Try.func38, Try.ntmps38
  go_wp2_with fail
  refine HC.out.mono ?_
  rintro e w1 ⟨r, rfl, hr, hb1⟩
  replace hb1 := hide hb1
  obtain ⟨q, hq⟩ : ∃ q, l.any (Z.isOther kind) = q := ⟨_, rfl⟩
  rw [hq] at hr
  have HQ := hide hq
  clear hq
  cases q with
  | true =>
    have h0 : 0 ≤ r := by simpa using hr
    clear hr
    go_wp2
    go_ret
    exact ⟨by rw [HQ.out]; simp, hb1.out⟩
  | false =>
    have h0 : ¬ 0 ≤ r := by simpa using hr
    clear hr
    go_wp2
    go_ret
    exact ⟨by rw [HQ.out]; simp [h0], hb1.out⟩

set_option maxHeartbeats 1000000 in
theorem index_mayNot (b off len cap : Nat) (l : List Z.V) (w : World) (hl : l.length = len) (hcap : len ≤ 140737488355328) (hlt : b < w.heap.size) (hI : ∀ x ∈ l, Z.I64 x.i)
    (hc : ∀ j x, l[j]? = some x → w.cell? ⟨b, off + j * 3, none⟩ = some (.int .i64 x.k) ∧ w.cell? ⟨b, off + j * 3 + 1, none⟩ = some (.int .i64 x.i) ∧ w.cell? ⟨b, off + j * 3 + 2, none⟩ = some (.string x.s)) :
    Calls Try.prog 55 #[.slice (some ⟨b, off, none⟩) len cap, .func (.func 35) #[] #[]] w fun e w' => ∃ r : Int, e = .returned (.int .i64 r) ∧ decide (0 ≤ r) = l.any Z.mayNot ∧ Below w.heap.size w w' := by
  have HC := hide hc
  have HL := hide hl
  have HP := hide hI
  clear hc hl hI
  go_enter Try.func55, Try.ntmps55
  go_wp2_with fail
  go_loopw [8] (fun i wr => ∃ j : Nat, j ≤ len ∧ i = .int .i64 j ∧ Hid ((l.take j).any Z.mayNot = false) ∧ Hid (Below w.heap.size w wr)) (fun i _ => len - (intOf i).toNat)
  case atStart => exact ⟨0, Nat.zero_le _, rfl, hide rfl, hide (Below.refl _ _)⟩
  case round =>
    obtain ⟨j, hj, rfl, han, hbw⟩ := hrel
    by_cases hjl : j < len
    · obtain ⟨⟨xk, xi, xs⟩, hx⟩ : ∃ x, l[j]? = some x := ⟨l[j]'(by rw [HL.out]; exact hjl), List.getElem?_eq_getElem _⟩
      obtain ⟨c1, c2, c3⟩ := HC.out j _ hx
      have d1 : wr.cell? ⟨b, off + j * 3, none⟩ = some (.int .i64 xk) := by rw [hbw.out.cell (p := ⟨b, off + j * 3, none⟩) hlt]; exact c1
      have d2 : wr.cell? ⟨b, off + j * 3 + 1, none⟩ = some (.int .i64 xi) := by rw [hbw.out.cell (p := ⟨b, off + j * 3 + 1, none⟩) hlt]; exact c2
      have d3 : wr.cell? ⟨b, off + j * 3 + 2, none⟩ = some (.string xs) := by rw [hbw.out.cell (p := ⟨b, off + j * 3 + 2, none⟩) hlt]; exact c3
      have HX := hide hx
      clear c1 c2 c3 hx
      go_wp2_with fail
      refine (maynot_any _ _ _ _ (HP.out _ (List.mem_of_getElem? HX.out))).mono ?_
      rintro e w2 ⟨rfl, hw2⟩
      have HBN := hide (bthen hbw.out hw2)
      obtain ⟨q, hq⟩ : ∃ q, Z.mayNot ⟨xk, xi, xs⟩ = q := ⟨_, rfl⟩
      have HQ := hide hq
      rw [hq]
      clear hw2 hq d1 d2 d3
      cases q with
      | true =>
        go_wp2
        go_ret
        exact ⟨_, rfl, by rw [any_get HX.out HQ.out]; simp, HBN.out⟩
      | false =>
        go_wp2
        go_roundw
        case rel => exact ⟨j + 1, hjl, by go_num, hide (any_take HX.out HQ.out han.out), HBN⟩
        case measure => simp [intOf]; omega
    · obtain rfl : j = len := by omega
      have HE : Hid (l.any Z.mayNot = false) := by
        have := han.out
        rwa [← HL.out, List.take_length] at this
      go_wp2
      go_ret
      exact ⟨_, rfl, by rw [HE.out]; rfl, hbw.out⟩
theorem index_mayNot0 (ao : Option Addr) (cap : Nat) (w : World) :
    Calls Try.prog 55 #[.slice ao 0 cap, .func (.func 35) #[] #[]] w fun e w' => ∃ r : Int, e = .returned (.int .i64 r) ∧ decide (0 ≤ r) = ([] : List Z.V).any Z.mayNot ∧ Below w.heap.size w w' := by
  go_enter Try.func55, Try.ntmps55
  go_wp2_with fail
  go_rounds 1
  go_ret
  exact ⟨_, rfl, rfl, Below.refl _ _⟩
theorem contains_mayNot (ao : Option Addr) (len cap : Nat) (l : List Z.V) (w : World) (h : SlV w ao len cap l) (hcap : len ≤ 140737488355328) (hI : ∀ x ∈ l, Z.I64 x.i) :
    Calls Try.prog 38 #[.slice ao len cap, .func (.func 35) #[] #[]] w fun e w' => e = .returned (.bool (l.any Z.mayNot)) ∧ Below w.heap.size w w' := by
  have HC : Hid (Calls Try.prog 55 #[.slice ao len cap, .func (.func 35) #[] #[]] w fun e w' => ∃ r : Int, e = .returned (.int .i64 r) ∧ decide (0 ≤ r) = l.any Z.mayNot ∧ Below w.heap.size w w') := by
    show Calls _ _ _ _ _
    rcases h.2.2.2.2 with h5 | ⟨b, off, rfl, hlt, h5⟩
    · subst h5
      obtain rfl : l = [] := List.eq_nil_of_length_eq_zero h.1
      exact index_mayNot0 ao cap  w
    · exact index_mayNot b off len cap l  w h.1 hcap hlt hI h5
  clear h hI
  go_enter Try.func38, Try.ntmps38
  go_wp2_with fail
  refine HC.out.mono ?_
  rintro e w1 ⟨r, rfl, hr, hb1⟩
  replace hb1 := hide hb1
  obtain ⟨q, hq⟩ : ∃ q, l.any Z.mayNot = q := ⟨_, rfl⟩
  rw [hq] at hr
  have HQ := hide hq
  clear hq
  cases q with
  | true =>
    have h0 : 0 ≤ r := by simpa using hr
    clear hr
    go_wp2
    go_ret
    exact ⟨by rw [HQ.out]; simp, hb1.out⟩
  | false =>
    have h0 : ¬ 0 ≤ r := by simpa using hr
    clear hr
    go_wp2
    go_ret
    exact ⟨by rw [HQ.out]; simp [h0], hb1.out⟩
end Go.Proofs.Ytfggfmcbinhigaa
/- Steps of a region that draws its order: a value's parts in memory. -/
namespace Go.Proofs.Ytfggfmcbinhigaa.V
set_option linter.unusedVariables false
open Go.RowKit

variable {ops : Array Oper} {Q : Exit → Act → World → Prop} {tbl : List (Nat × Ent)} {w0 : World} {o : Oper}

/-- The address of a part. -/
theorem Step.field {s B i : Nat} (hw : Wants tbl ops o) (ho : o.op = .fieldAddr 47 (.tmp s) i) (hs : get tbl s = Ent.is (.pointer (some ⟨B, 0, none⟩))) (hi : i < 3) (hd : ∀ d, o.dst = some d → get tbl d = Ent.is (.pointer (some ⟨B, i, none⟩))) : Step Try.prog ops Q tbl w0 o := by
  refine Step.value hw fun a w hb hk => ⟨.pointer (some ⟨B, i, none⟩), ?_, fun d h => by rw [hd d h]; rfl⟩
  have h1 : a.eval (.tmp s) = .pointer (some ⟨B, 0, none⟩) := by
    have := hk s (looks_op (by rw [ho]; simp [Op.operands]))
    rwa [hs] at this
  simp only [execOp, ho, h1]
  match i, hi with
  | 0, _ => simp [go_sem]
  | 1, _ => simp [go_sem]
  | 2, _ => simp [go_sem]
/-- A value as a whole. -/
theorem Step.loadV {s B : Nat} {k i : Int} {z : ByteArray} (hw : Wants tbl ops o) (ho : o.op = .load 47 (.tmp s)) (hs : get tbl s = Ent.is (.pointer (some ⟨B, 0, none⟩))) (hB : At w0 B k i z) (hd : ∀ d, o.dst = some d → get tbl d = Ent.is (.agg #[.int .i64 k, .int .i64 i, .string z])) : Step Try.prog ops Q tbl w0 o := by
  refine Step.value hw fun a w hb hk => ⟨.agg #[.int .i64 k, .int .i64 i, .string z], ?_, fun d h => by rw [hd d h]; rfl⟩
  have h1 : a.eval (.tmp s) = .pointer (some ⟨B, 0, none⟩) := by
    have := hk s (looks_op (by rw [ho]; simp [Op.operands]))
    rwa [hs] at this
  have h2 : At w B k i z := hB.below hb
  unfold At at h2
  unfold execOp
  simp only [ho, h1, Instr.loadAt, Instr.sureAddr, Sem.run_bind, Sem.run_pure, Result.andThen_ok, run_loadVar_row w B 47 47 _ (0, 0) _ h2 Try.underlying47 rfl (by kernel_rfl)]
/-- A part. -/
theorem Step.loadI {t s B j : Nat} {k : IntKind} {n : Int} (hw : Wants tbl ops o) (ho : o.op = .load t (.tmp s)) (hs : get tbl s = Ent.is (.pointer (some ⟨B, j, none⟩))) (ht : Try.prog.underlying t = some (.int k)) (hl : B < w0.heap.size) (hB : w0.cell? ⟨B, j, none⟩ = some (.int k n)) (hd : ∀ d, o.dst = some d → get tbl d = Ent.is (.int k n)) : Step Try.prog ops Q tbl w0 o := by
  refine Step.value hw fun a w hb hk => ⟨.int k n, ?_, fun d h => by rw [hd d h]; rfl⟩
  have h1 : a.eval (.tmp s) = .pointer (some ⟨B, j, none⟩) := by
    have := hk s (looks_op (by rw [ho]; simp [Op.operands]))
    rwa [hs] at this
  have h2 : w.cell? ⟨B, j, none⟩ = some (.int k n) := by rw [hb.cell (p := ⟨B, j, none⟩) hl]; exact hB
  have ha : ∀ w : World, (isAgg t).run Try.prog w = .ok false w := fun w => by unfold isAgg; rw [Sem.run_bind, run_underlying ht w]; rfl
  simp only [execOp, ho, h1]
  simp [go_sem, h2, ha]
theorem Step.loadS {t s B j : Nat} {z : ByteArray} (hw : Wants tbl ops o) (ho : o.op = .load t (.tmp s)) (hs : get tbl s = Ent.is (.pointer (some ⟨B, j, none⟩))) (ht : Try.prog.underlying t = some .string) (hl : B < w0.heap.size) (hB : w0.cell? ⟨B, j, none⟩ = some (.string z)) (hd : ∀ d, o.dst = some d → get tbl d = Ent.is (.string z)) : Step Try.prog ops Q tbl w0 o := by
  refine Step.value hw fun a w hb hk => ⟨.string z, ?_, fun d h => by rw [hd d h]; rfl⟩
  have h1 : a.eval (.tmp s) = .pointer (some ⟨B, j, none⟩) := by
    have := hk s (looks_op (by rw [ho]; simp [Op.operands]))
    rwa [hs] at this
  have h2 : w.cell? ⟨B, j, none⟩ = some (.string z) := by rw [hb.cell (p := ⟨B, j, none⟩) hl]; exact hB
  have ha : ∀ w : World, (isAgg t).run Try.prog w = .ok false w := fun w => by unfold isAgg; rw [Sem.run_bind, run_underlying ht w]; rfl
  simp only [execOp, ho, h1]
  simp [go_sem, h2, ha]
theorem At.lt {w : World} {B : Nat} {k i : Int} {z : ByteArray} (h : At w B k i z) : B < w.heap.size := lt_of_block h
theorem eql_int (t : TypeId) (k : IntKind) (x y : Int) (_ht : Try.prog.underlying t = some (.int k)) (w : World) : (binOp .eql t (.int k x) (.int k y)).run Try.prog w = .ok (.bool (x == y)) w := by
  simp [go_sem]
theorem eql_bool (x y : Bool) (w : World) : (binOp .eql 4 (.bool x) (.bool y)).run Try.prog w = .ok (.bool (x == y)) w := by
  simp [go_sem]
end Go.Proofs.Ytfggfmcbinhigaa.V

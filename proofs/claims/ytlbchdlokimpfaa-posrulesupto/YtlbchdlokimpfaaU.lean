/- What a call leaves of the blocks that were there; slices of numbers in memory; the text of bytes. -/
import Derived.Test.YtlbchdlokimpfaaRows
import Derived.WalkKit
import Derived.WalkSpells
import Derived.WalkLawsBesides
import Derived.ArgAppend
import Derived.Laws.AppendOwnNone
import Derived.Laws.BytesArg
import Derived.Lib.AppendStr
import Derived.Laws.BitsAllLaws
import Derived.Laws.MathBits
namespace Go.Proofs.Ytlbchdlokimpfaa
set_option linter.unusedVariables false
open Go.RowKit

theorem hide {p : Prop} (h : p) : Hid p := h

/-- w' is w with new blocks, and with writes to blocks of F alone. -/
structure Kept (F : Nat → Prop) (w w' : World) : Prop where
  os : w'.os = w.os
  tape : w'.tape = w.tape
  output : w'.output = w.output
  size : w.heap.size ≤ w'.heap.size
  block : ∀ k, k < w.heap.size → ¬ F k → w'.heap[k]? = w.heap[k]?

theorem Kept.refl (F : Nat → Prop) (w : World) : Kept F w w := ⟨rfl, rfl, rfl, Nat.le_refl _, fun _ _ _ => rfl⟩

theorem Kept.trans' {F G : Nat → Prop} {a b c : World} (h : Kept F a b) (k : Kept G b c) (hg : ∀ x, G x → F x ∨ a.heap.size ≤ x) : Kept F a c :=
  ⟨k.os.trans h.os, k.tape.trans h.tape, k.output.trans h.output, Nat.le_trans h.size k.size, fun i hi hn => by
    have hs := h.size
    rw [k.block i (by omega) (fun hG => by rcases hg i hG with h1 | h1; exact hn h1; omega)]
    exact h.block i hi hn⟩

theorem Kept.trans {F : Nat → Prop} {a b c : World} (h : Kept F a b) (k : Kept F b c) : Kept F a c := h.trans' k fun _ hx => .inl hx

theorem Kept.mono {F G : Nat → Prop} {w w' : World} (h : Kept F w w') (hg : ∀ x, F x → G x ∨ w.heap.size ≤ x) : Kept G w w' := (Kept.refl G w).trans' h hg

theorem Kept.drew {F : Nat → Prop} {a w : World} (h : Kept F a w) : Kept F a w.drew := ⟨h.os, h.tape, h.output, h.size, h.block⟩

theorem Kept.alloc {F : Nat → Prop} {a w : World} (h : Kept F a w) (o : Obj) : Kept F a (w.alloc o) :=
  h.trans ⟨rfl, rfl, rfl, by simp, fun k hk _ => Below.heap_alloc _ _ _ hk⟩

theorem Kept.setCell {F : Nat → Prop} {a w : World} (h : Kept F a w) {p : Addr} (hp : F p.block ∨ a.heap.size ≤ p.block) (u : Value) : Kept F a (w.setCell p u) :=
  h.trans' (G := fun k => k = p.block) ⟨rfl, rfl, rfl, by simp [World.setCell], fun k _ hn => Below.heap_setCell _ _ _ _ hn⟩ (by rintro x rfl; exact hp)

theorem Kept.grown {F : Nat → Prop} {a w w' : World} {row : Option Nat} (h : Kept F a w) (hg : w.grownBy w' row) (hr : ∀ k, row = some k → F k ∨ a.heap.size ≤ k) : Kept F a w' :=
  h.trans' (G := fun k => row = some k) ⟨hg.os, hg.tape, hg.output, hg.size, fun k hk hn => hg.block k hk (fun e => hn e.symm)⟩ hr

theorem Kept.below {F : Nat → Prop} {w w' : World} (h : Kept F w w') {B : Nat} (hB : B ≤ w.heap.size) (hF : ∀ k, F k → B ≤ k) : Below B w w' :=
  ⟨h.os, h.tape, h.output, h.size, fun k hk => h.block k (by omega) (fun hf => by have := hF k hf; omega)⟩

theorem Kept.of_below {w w' : World} (h : Below w.heap.size w w') (F : Nat → Prop) : Kept F w w' := ⟨h.os, h.tape, h.output, h.size, fun k hk _ => h.block k hk⟩

theorem Kept.cell {F : Nat → Prop} {w w' : World} (h : Kept F w w') {p : Addr} (hp : p.block < w.heap.size) (hf : ¬ F p.block) : w'.cell? p = w.cell? p := World.cell?_of_block (h.block _ hp hf)

theorem owns_of_block {w w' : World} {base : Nat} {e : TypeId} {size : Nat} {v : Value} {n : Nat} {xs : List Value} (h : w.ownsRow base e size v n xs) (hb : ∀ g, v.ownBlock = some g → w'.heap[g]? = w.heap[g]?) : w'.ownsRow base e size v n xs := by
  obtain ⟨h1, h2⟩ := h
  refine ⟨h1, ?_⟩
  rcases h2 with h2 | ⟨g, cap, cur, hv, hg, hh, r⟩
  · exact .inl h2
  · exact .inr ⟨g, cap, cur, hv, hg, by rw [hb g (by rw [hv]; rfl)]; exact hh, r⟩

theorem owns_base {w : World} {base base' : Nat} {e : TypeId} {size : Nat} {v : Value} {n : Nat} {xs : List Value} (h : w.ownsRow base e size v n xs) (hb : ∀ g, v.ownBlock = some g → base' ≤ g) : w.ownsRow base' e size v n xs := by
  obtain ⟨h1, h2⟩ := h
  refine ⟨h1, ?_⟩
  rcases h2 with h2 | ⟨g, cap, cur, hv, hg, hh, r⟩
  · exact .inl h2
  · exact .inr ⟨g, cap, cur, hv, hb g (by rw [hv]; rfl), hh, r⟩

theorem owns_pos {w : World} {base : Nat} {e : TypeId} {size : Nat} {v : Value} {n : Nat} {xs : List Value} (h : w.ownsRow base e size v n xs) (hn : 0 < n) :
    ∃ g cap, v = .slice (some ⟨g, 0, none⟩) n cap ∧ base ≤ g ∧ g < w.heap.size ∧ n ≤ cap := by
  have hl := h.lt
  rcases h.2 with ⟨_, h2⟩ | ⟨g, cap, cur, hv, hg, hh, hc, _⟩
  · omega
  · exact ⟨g, cap, hv, hg, (hl g (by rw [hv]; rfl)).2, hc⟩

theorem owns_lt {w : World} {base : Nat} {e : TypeId} {size : Nat} {v : Value} {n : Nat} {xs : List Value} (h : w.ownsRow base e size v n xs) {k : Nat} (hk : v.ownBlock = some k) : base ≤ k ∧ k < w.heap.size := h.lt k hk

/-- What an append to the call's own slice leaves: writes to its row alone; the new value's row is the old one, or new. -/
def AS (w : World) (v : Value) (w' : World) (v' : Value) : Prop :=
  Kept (fun k => v.ownBlock = some k) w w' ∧ (v'.ownBlock = v.ownBlock ∨ ∀ k, v'.ownBlock = some k → w.heap.size ≤ k)

theorem AS.refl (w : World) (v : Value) : AS w v w v := ⟨Kept.refl _ _, .inl rfl⟩
theorem AS.trans {a b c : World} {u v x : Value} (h : AS a u b v) (k : AS b v c x) : AS a u c x := by
  have hs := h.1.size
  refine ⟨h.1.trans' k.1 ?_, ?_⟩
  · intro y hy
    rcases h.2 with h2 | h2
    · exact .inl (h2 ▸ hy)
    · exact .inr (h2 y hy)
  · rcases k.2 with k2 | k2
    · rw [k2]; exact h.2
    · exact .inr fun y hy => by have := k2 y hy; omega
theorem AS.pre {a w w' : World} {v v' : Value} (hk : Kept (fun _ => False) a w) (h : AS w v w' v') : AS a v w' v' := by
  have hs := hk.size
  refine ⟨(hk.mono fun _ hx => hx.elim).trans h.1, ?_⟩
  rcases h.2 with h2 | h2
  · exact .inl h2
  · exact .inr fun y hy => by have := h2 y hy; omega
theorem AS.post {a w w' : World} {v v' : Value} (h : AS a v w v') (hk : Kept (fun _ => False) w w') : AS a v w' v' := ⟨h.1.trans' hk fun _ hx => hx.elim, h.2⟩

/-- 'append' to the call's own slice, of whatever can be read: where the value's row lies behind it. -/
theorem wpList_append_to {P : Program} {w : World} {ops : Array Oper} {rest : List Oper} {o : Oper} {a : Act} {Q : Exit → Act → World → Prop} (hgd : o.guard = none) (s x : Operand) (t : TypeId)
    (ho : o.op = .call { callee := .builtin .append, args := #[s, x], argTypes := #[t, t] })
    (base : Nat) (e : TypeId) (i : TypeInfo) (z : Value) (size bytes : Nat) (ht : P.underlying t = some (.slice e)) (hi : P.info? e = some i) (hz : i.zero = some z)
    (hsize : i.size = size) (hby : i.bytes = bytes) (hzs : z.cells.size = size) (hsz : 0 < size)
    (v : Value) (n : Nat) (xs : List Value) (hs : a.eval s = v) (hown : w.ownsRow base e size v n xs)
    (ao : Option Addr) (m c : Nat) (news : List Value) (hx : a.eval x = .slice ao m c) (hnone : ao = none → m = 0 ∧ c = 0) (hl : news.length = m * size) (hnews : ∀ ad, ao = some ad → ∀ j u, news[j]? = some u → w.cell? (ad.add j) = some u) (h1 : ∀ u ∈ news, u.oneCell' = true)
    (h63 : n + m ≤ maxLen) (hbytes : (n + m) * bytes ≤ 140737488355328) (hbase : base ≤ w.heap.size)
    (h : ∀ v' w', w'.ownsRow base e size v' (n + m) (xs ++ news) → AS w v w' v' → wpList P ops Q rest (a.put o.dst v') w') : wpList P ops Q (o :: rest) a w := by
  cases ao with
  | none =>
    obtain ⟨rfl, rfl⟩ := hnone rfl
    have hn : news = [] := List.eq_nil_of_length_eq_zero (by simpa using hl)
    subst hn
    exact wpList_append_own_none hgd s x t ho base e i size ht hi v n xs hs hown hx (h v w (by simpa using hown) (AS.refl _ _))
  | some ad =>
    rcases hown.2 with ⟨hv, hn0⟩ | ⟨g, cap, cur, hv, hg, hh, hc, hm, hcs, _⟩
    · subst hn0
      have hx0 : xs = [] := List.eq_nil_of_length_eq_zero (by simpa using hown.1)
      subst hx0
      refine wpList_append_own w hgd s x t ho w.heap.size e i z size bytes ht hi hz hsize hby hzs hsz v 0 [] hs (by rw [hv]; exact World.ownsRow_nil _ _ _ _) ad m c news hx hl (hnews ad rfl) h1 h63 hbytes (Nat.le_refl _) ?_
      intro v' w' ho' hg' _
      exact h v' w' (owns_base ho' fun g hg => by have := (owns_lt ho' hg).1; omega) ⟨(Kept.refl _ _).grown hg' fun k hk => .inl hk, .inr fun k hk => (owns_lt ho' hk).1⟩
    · subst hv
      by_cases hroom : n + m ≤ cap
      · refine wpList_append_fits w hgd s x t ho base e i size ht hi hsize g n cap xs hs hown ad m c news hx hl (hnews ad rfl) h1 hroom ?_
        intro w' ho' hg'
        exact h _ w' ho' ⟨(Kept.refl _ _).grown hg' fun k hk => .inl hk, .inl rfl⟩
      · refine wpList_append_grows w hgd s x t ho e i z size bytes ht hi hz hsize hby hzs hsz (some ⟨g, 0, none⟩) n cap xs hs (by simp) hown.1 (fun b hb j u hu => by obtain rfl := Option.some.inj hb; exact hown.cells rfl j u hu) ad m c news hx hl (hnews ad rfl) h1 (by omega) h63 hbytes ?_
        intro v' w' ho' hg'
        exact h v' w' (owns_base ho' fun k hk => by have := (owns_lt ho' hk).1; omega) ⟨(Kept.refl _ _).grown hg' (by simp), .inr fun k hk => (owns_lt ho' hk).1⟩

/-- Rows of unlike kinds are unlike rows. -/
theorem owns_ne {w : World} {b b' s s' n n' : Nat} {e e' : TypeId} {v v' : Value} {xs xs' : List Value} (h : w.ownsRow b e s v n xs) (h' : w.ownsRow b' e' s' v' n' xs') (hne : e ≠ e') {g : Nat} (hg : v.ownBlock = some g) : v'.ownBlock ≠ some g := by
  intro hg'
  rcases h.2 with ⟨hv, _⟩ | ⟨g1, c1, cur1, hv, _, hh, _⟩
  · rw [hv] at hg; simp [Value.ownBlock] at hg
  · rcases h'.2 with ⟨hv', _⟩ | ⟨g2, c2, cur2, hv', _, hh', _⟩
    · rw [hv'] at hg'; simp [Value.ownBlock] at hg'
    · rw [hv] at hg; rw [hv'] at hg'
      simp [Value.ownBlock] at hg hg'
      subst hg; subst hg'
      rw [hh] at hh'
      simp at hh'
      exact hne hh'.2
theorem owns_ne_block {w : World} {b s n : Nat} {e t : TypeId} {v : Value} {xs : List Value} {p : Nat} {c : Array Value} (h : w.ownsRow b e s v n xs) (hp : w.heap[p]? = some (.cells c t (0, 0))) (hne : e ≠ t) : v.ownBlock ≠ some p := by
  intro hg
  rcases h.2 with ⟨hv, _⟩ | ⟨g1, c1, cur1, hv, _, hh, _⟩
  · rw [hv] at hg; simp [Value.ownBlock] at hg
  · rw [hv] at hg
    simp [Value.ownBlock] at hg
    subst hg
    rw [hp] at hh
    simp at hh
    exact hne hh.2.symm

/-- Numbers below 256 as cells. -/
def B8 (l : List Nat) : List Value := l.map fun x => Value.int .u8 ((x : Nat) : Int)
theorem B8_length (l : List Nat) : (B8 l).length = l.length := by simp [B8]
theorem B8_append (a b : List Nat) : B8 (a ++ b) = B8 a ++ B8 b := by simp [B8]

/-- A slice that can be read: its elements. -/
def Sl (w : World) (k : IntKind) (ao : Option Addr) (len cap : Nat) (l : List Int) : Prop :=
  l.length = len ∧ len ≤ cap ∧ cap ≤ maxLen ∧ (ao = none → cap = 0) ∧ (len = 0 ∨ ∃ b off, ao = some ⟨b, off, none⟩ ∧ b < w.heap.size ∧ ∀ i, i < len → w.cell? ⟨b, off + i, none⟩ = some (.int k (l.getD i 0)))

theorem cell_lt {w : World} {a : Addr} {v : Value} (h : w.cell? a = some v) : a.block < w.heap.size := by
  by_cases hn : a.block < w.heap.size
  · exact hn
  · simp [World.cell?, hn] at h

theorem Sl.below {w w' : World} {k : IntKind} {ao : Option Addr} {len cap : Nat} {l : List Int} (h : Sl w k ao len cap l) (hb : Below w.heap.size w w') : Sl w' k ao len cap l := by
  obtain ⟨h1, h2, h3, h4, h5⟩ := h
  refine ⟨h1, h2, h3, h4, ?_⟩
  rcases h5 with h5 | ⟨b, off, rfl, hlt, h5⟩
  · exact .inl h5
  · exact .inr ⟨b, off, rfl, by have := hb.size; omega, fun i hi => by rw [hb.cell (p := ⟨b, off + i, none⟩) hlt]; exact h5 i hi⟩

theorem Sl.kept {F : Nat → Prop} {w w' : World} {k : IntKind} {ao : Option Addr} {len cap : Nat} {l : List Int} (h : Sl w k ao len cap l) (hb : Kept F w w') (hf : ∀ x, ao = some x → ¬ F x.block) : Sl w' k ao len cap l := by
  obtain ⟨h1, h2, h3, h4, h5⟩ := h
  refine ⟨h1, h2, h3, h4, ?_⟩
  rcases h5 with h5 | ⟨b, off, rfl, hlt, h5⟩
  · exact .inl h5
  · exact .inr ⟨b, off, rfl, by have := hb.size; omega, fun i hi => by rw [hb.cell (p := ⟨b, off + i, none⟩) hlt (hf ⟨b, off, none⟩ rfl)]; exact h5 i hi⟩

theorem Sl.kept0 {F : Nat → Prop} {w w' : World} {k : IntKind} {ao : Option Addr} {len cap : Nat} {l : List Int} (h : Sl w k ao len cap l) (hb : Kept F w w') (hf : len = 0 ∨ ∀ x, ao = some x → ¬ F x.block) : Sl w' k ao len cap l := by
  rcases hf with h0 | hf
  · obtain ⟨h1, h2, h3, h4, h5⟩ := h
    exact ⟨h1, h2, h3, h4, .inl h0⟩
  · exact h.kept hb hf

/-- A row of numbers does not lie in a block of one cell that is none. -/
theorem Sl.set {w : World} {k : IntKind} {ao : Option Addr} {len cap : Nat} {l : List Int} {B : Nat} {v : Value} {t : TypeId} (h : Sl w k ao len cap l) (hb : w.heap[B]? = some (.cells #[v] t (0, 0))) (hv : ∀ n, v ≠ .int k n) (u : Value) : Sl (w.setCell ⟨B, 0, none⟩ u) k ao len cap l := by
  refine h.kept0 (Kept.setCell (F := fun k => k = B) (Kept.refl _ _) (.inl rfl) u) ?_
  by_cases h0 : len = 0
  · exact .inl h0
  · refine .inr fun x hx hB => ?_
    rcases h.2.2.2.2 with h5 | ⟨b, off, hao, hlt, h5⟩
    · exact h0 h5
    · rw [hao] at hx
      obtain rfl := Option.some.inj hx
      have h6 := h5 0 (by omega)
      subst hB
      simp [World.cell?, hb] at h6
      match off, h6 with
      | 0, h6 => simp at h6; exact hv _ h6

/-- An owned row of numbers can be read. -/
theorem Sl.of_owns {w : World} {base : Nat} {e : TypeId} {k : IntKind} {v : Value} {l : List Int} (h : w.ownsRow base e 1 v l.length (l.map (Value.int k))) :
    ∃ ao cap, v = .slice ao l.length cap ∧ Sl w k ao l.length cap l ∧ v.ownBlock = ao.map (·.block) := by
  have h0 := h
  rcases h.2 with ⟨h1, h2⟩ | ⟨g, cap, cur, hv, hg, hh, hc, hm, _⟩
  · have hl : l = [] := List.eq_nil_of_length_eq_zero h2
    subst hl
    exact ⟨none, 0, h1, ⟨rfl, Nat.le_refl _, by simp [maxLen], fun _ => rfl, .inl rfl⟩, by rw [h1]; rfl⟩
  · subst hv
    refine ⟨some ⟨g, 0, none⟩, cap, rfl, ⟨rfl, hc, hm, by simp, .inr ⟨g, 0, rfl, lt_of_block hh, fun i hi => ?_⟩⟩, rfl⟩
    rw [Nat.zero_add, h0.cellAt i (by omega)]
    simp [List.getD, hi]

theorem heap_setCell_one {w : World} {p : Nat} {a : Value} {t : TypeId} (h : w.heap[p]? = some (.cells #[a] t (0, 0))) (u : Value) :
    (w.setCell ⟨p, 0, none⟩ u).heap[p]? = some (.cells #[u] t (0, 0)) := by
  simp only [World.setCell, Array.getElem?_modify, h]; simp

theorem Sl.news {w : World} {k : IntKind} {ao : Option Addr} {len cap : Nat} {l : List Int} (h : Sl w k ao len cap l) : ∀ ad, ao = some ad → ∀ j u, (l.map (Value.int k))[j]? = some u → w.cell? (ad.add j) = some u := by
  obtain ⟨h1, h2, h3, h4, h5⟩ := h
  intro ad had j u hu
  have hj : j < l.length := by have := (List.getElem?_eq_some_iff.1 hu).1; simpa using this
  rcases h5 with h5 | ⟨b, off, hao, hlt, h5⟩
  · omega
  · rw [hao] at had
    obtain rfl := Option.some.inj had
    rw [Addr.add_lit, h5 j (by omega)]
    simpa [List.getD, hj] using hu

/-- Bytes as whole numbers. -/
def ints (l : List Nat) : List Int := l.map fun x => ((x : Nat) : Int)
theorem ints_length (l : List Nat) : (ints l).length = l.length := by simp [ints]
theorem B8_ints (l : List Nat) : B8 l = (ints l).map (Value.int .u8) := by simp [B8, ints]
theorem ints_getD (l : List Nat) (i : Nat) : (ints l).getD i 0 = ((l.getD i 0 : Nat) : Int) := by
  by_cases h : i < l.length <;> simp [ints, List.getD, h]

theorem Sl.of_bytes {w : World} {base : Nat} {e : TypeId} {v : Value} {l : List Nat} (h : w.ownsRow base e 1 v l.length (B8 l)) :
    ∃ ao cap, v = .slice ao l.length cap ∧ Sl w .u8 ao l.length cap (ints l) ∧ v.ownBlock = ao.map (·.block) := by
  rw [B8_ints] at h
  have := Sl.of_owns (l := ints l) (k := .u8) (by rw [ints_length]; exact h)
  rwa [ints_length] at this

theorem Sl.one (w : World) (t : TypeId) (k : IntKind) (a : Int) : Sl (w.alloc (.cells #[.int k a] t)) k (some ⟨w.heap.size, 0, none⟩) 1 1 [a] := by
  refine ⟨rfl, Nat.le_refl _, by decide, by simp, .inr ⟨_, _, rfl, by simp, ?_⟩⟩
  intro i hi
  match i, hi with
  | 0, _ => simp

theorem AS.below {w w' : World} {v v' : Value} (h : AS w v w' v') {B : Nat} (hB : B ≤ w.heap.size) (hv : ∀ k, v.ownBlock = some k → B ≤ k) : Below B w w' := h.1.below hB hv

theorem Sl.news1 {w : World} {k : IntKind} (t : TypeId) (a : Int) : ∀ ad, some (⟨w.heap.size, 0, none⟩ : Addr) = some ad → ∀ j u, [Value.int k a][j]? = some u → (w.alloc (.cells #[.int k a] t)).cell? (ad.add j) = some u := by
  intro ad had j u hj
  obtain rfl := Option.some.inj had
  match j, hj with
  | 0, hj => simp at hj; subst hj; simp [Addr.add]

theorem one_oneCell (k : IntKind) (a : Int) : ∀ u ∈ [Value.int k a], u.oneCell' = true := by
  intro u hu; simp at hu; subst hu; rfl


theorem run_load_none (P : Program) (a : Addr) (w : World) : (loadCells a 0).run P w = .ok #[] w := by
  simp [loadCells, loadCellsFrom]

/-- The text of bytes that can be read. -/
theorem str_of {w : World} {ao : Option Addr} {len cap : Nat} {l : List Int} (h : Sl w .u8 ao len cap l) : (convert 49 9 (.slice ao len cap)).run Try.prog w = .ok (.string (strOfNums l)) w := by
  obtain ⟨h1, h2, h3, h4, h5⟩ := h
  cases ao with
  | none =>
    obtain rfl := h4 rfl
    obtain rfl : len = 0 := by omega
    obtain rfl : l = [] := List.eq_nil_of_length_eq_zero h1
    exact run_convert_bytes_nil w 49 5 Try.underlying49 Try.underlying5 0 0 9 Try.underlying9
  | some x =>
    by_cases h0 : len = 0
    · subst h0
      obtain rfl : l = [] := List.eq_nil_of_length_eq_zero h1
      rw [run_convert_bytes_string w 49 9 5 _ 0 cap Try.underlying49 Try.underlying5 Try.underlying9, run_bytesToString w x 0 cap [] (run_load_none _ _ _)]
      rfl
    · rcases h5 with h5 | ⟨b, off, hx, hlt, h5⟩
      · omega
      · obtain rfl := Option.some.inj hx
        exact run_convert_bytes_arg w 49 5 Try.underlying49 Try.underlying5 b off len cap l h1 h5 9 Try.underlying9

theorem Try.infoU8 : (Try.prog.info? 5).map (fun i => (i.zero, i.size, i.bytes)) = some (some (.int .u8 0), 1, 1) := by kernel_rfl
theorem pow_int (k : Nat) : ((2 ^ k : Nat) : Int) = (2 : Int) ^ k := Int.natCast_pow 2 k
end Go.Proofs.Ytlbchdlokimpfaa

/- Steps of such a region: rows of bytes that grow, a value's new cell, what is stored into it. -/
import Derived.Test.YtahpbenobhodnaaV14
import Derived.Test.YtahpbenobhodnaaV12
import Derived.Test.YtahpbenobhodnaaZB
import Derived.Test.YtahpbenobhodnaaH8
namespace Go.Proofs.Ytahpbenobhodnaa.V
set_option linter.unusedVariables false
open Go.RowKit

theorem wp_of_list {P : Program} {ops : Array Oper} {o : Oper} {a : Act} {w : World} {K : Act → World → Prop} {Q : Exit → Act → World → Prop} (hg : o.guard = none) (h : wpList P ops (fun e a w => e = .normal ∧ K a w) [o] a w) : o.wp P a w K Q := by
  unfold wpList at h
  have hw : Region.wanted o (yielded ops a.tmps) = true := by simp [Region.wanted, hg]
  rw [hw] at h
  simp only [if_true] at h
  rcases h with h | ⟨_, a', w', he, _⟩
  · unfold Oper.wp at *
    generalize (execOp a.eval o).run P w = r at *
    cases r with
    | ok n w' =>
      cases n <;> simp only [Oper.upon, wpList] at h ⊢ <;> first
        | exact h.2
        | exact Rows.mono h fun _ _ he => he.2
        | exact Calls.mono h fun e w'' he => by
            cases e with
            | returned v => exact he.2
            | panicked c => exact absurd he.1 (by simp)
            | outgrown => obtain ⟨_, _, he, _⟩ := he; exact absurd he (by simp)
    | halt x w' =>
      cases x <;> simp only [Oper.upon] at h ⊢
      exact absurd h.1 (by simp)
  · exact absurd he (by simp)

/-- A row of bytes of the region's own. -/
def Ent.own (B : Nat) (l : List Nat) : Ent := ⟨fun v w => w.ownsRow B 5 1 v l.length (B8 l), fun hb h => owns_of_block h fun g hg => hb.block g (owns_lt h hg).2⟩
/-- A value's new cell. -/
def Ent.cell (B : Nat) (k i : Int) (s : ByteArray) : Ent := ⟨fun v w => ∃ b, v = .pointer (some ⟨b, 0, none⟩) ∧ B ≤ b ∧ At w b k i s, fun hb ⟨b, h1, h2, h3⟩ => ⟨b, h1, h2, h3.below hb⟩⟩
/-- What such an append leaves. -/
def Safe (B : Nat) (e : Ent) : Prop := ∀ (v : Value) (w w' : World) (u : Value) (l : List Nat), w.ownsRow B 5 1 u l.length (B8 l) → Kept (fun k => u.ownBlock = some k) w w' → e.p v w → e.p v w'
theorem Safe.is (B : Nat) (x : Value) : Safe B (Ent.is x) := fun _ _ _ _ _ _ _ h => h
theorem Safe.cell (B : Nat) (k i : Int) (s : ByteArray) : Safe B (Ent.cell B k i s) := by
  rintro v w w' u l ho hk ⟨b, h1, h2, h3⟩
  refine ⟨b, h1, h2, ?_⟩
  unfold At at *
  rw [hk.block b (lt_of_block h3) (owns_ne_block ho h3 (by decide))]
  exact h3
theorem Touch.app {ops : Array Oper} {Q : Exit → Act → World → Prop} {tbl : List (Nat × Ent)} {bs al : List Nat} {w0 : World} {X : Act → World → Prop} {jx j : Nat} {o : Oper} {s x : Nat} {l news : List Nat} {ao : Option Addr} {m c : Nat} (hg : o.guard = none) (ho : o.op = .call { callee := .builtin .append, args := #[.tmp s, .tmp x], argTypes := #[24, 24] })
    (hs : get tbl s = Ent.own w0.heap.size l) (hx : get tbl x = Ent.is (.slice ao m c)) (hsl : Sl w0 .u8 ao m c (ints news)) (hlim : l.length + m ≤ 140737488355328) (hd : ∀ d, o.dst = some d → get tbl d = Ent.own w0.heap.size (l ++ news)) (hj : j ≠ jx) (hfr : ∀ d, d ∈ bs ∨ d ∈ al → Safe w0.heap.size (get tbl d)) :
    Touch Try.prog ops Q tbl bs al w0 X jx j o := by
  intro a w hb hk
  have h1 : w.ownsRow w0.heap.size 5 1 (a.eval (.tmp s)) l.length (B8 l) := by
    have := hk s (looks_op (by rw [ho]; simp [Op.operands, Call.operands]))
    rwa [hs] at this
  have h2 : a.eval (.tmp x) = .slice ao m c := by
    have := hk x (looks_op (by rw [ho]; simp [Op.operands, Call.operands]))
    rwa [hx] at this
  refine ⟨hg, wp_of_list (ops := ops) hg (wpList_app hg (.tmp s) (.tmp x) ho w0.heap.size _ l rfl h1 ao m c news h2 (hsl.below hb) hlim hb.size (l ++ news) rfl ?_)⟩
  intro v' w' ho' has
  refine ⟨rfl, has.below hb.size (fun k hk => (owns_lt h1 hk).1), ⟨v', rfl, fun d hdd => by rw [hd d hdd]; exact ho'⟩, fun d hdd v hp => hfr d hdd v w w' _ l h1 has.1 hp, fun h => absurd h hj⟩
/-- No bytes, in new memory. -/
theorem Step.empty {ops : Array Oper} {Q : Exit → Act → World → Prop} {tbl : List (Nat × Ent)} {w0 : World} {o : Oper} (hw : Wants tbl ops o) (ho : o.op = .buildSlice 24 0 #[]) (hd : ∀ d, o.dst = some d → get tbl d = Ent.own w0.heap.size []) : Step Try.prog ops Q tbl w0 o := by
  refine Step.run hw fun a w hb hk => ⟨.slice (some ⟨w.heap.size, 0, none⟩) 0 0, w.alloc (.cells #[] 5), ?_, (Below.refl _ _).alloc (Nat.le_refl _) _, fun d h => ?_⟩
  · simp only [execOp, ho]
    simp [go_sem]
  · rw [hd d h]
    exact owns_base (owns_none w) fun g hg => by have := (owns_lt (owns_none w) hg).1; have := hb.size; omega
/-- A value's new cell. -/
theorem Step.cell {ops : Array Oper} {Q : Exit → Act → World → Prop} {tbl : List (Nat × Ent)} {w0 : World} {o : Oper} (hw : Wants tbl ops o) (ho : o.op = .alloc 23) (hd : ∀ d, o.dst = some d → get tbl d = Ent.cell w0.heap.size 0 0 ⟨#[]⟩) : Step Try.prog ops Q tbl w0 o := by
  refine Step.run hw fun a w hb hk => ⟨.pointer (some ⟨w.heap.size, 0, none⟩), w.alloc (.cells #[.int .i64 0, .int .i64 0, .string ⟨#[]⟩] 23), ?_, (Below.refl _ _).alloc (Nat.le_refl _) _, fun d h => ?_⟩
  · simp only [execOp, ho]
    simp [go_sem]
  · rw [hd d h]
    exact ⟨_, rfl, hb.size, At.new w 0 0 ⟨#[]⟩⟩
/-- Three, of which the second are bytes that can be read. -/
def Ent.tup (x z : Value) (k : Nat) (l : List Nat) : Ent := ⟨fun v w => ∃ a c, v = .tuple #[x, .slice a k c, z] ∧ Sl w .u8 a k c (ints l), fun hb ⟨a, c, h1, h2⟩ => ⟨a, c, h1, h2.below hb⟩⟩
theorem Step.ext0 {ops : Array Oper} {Q : Exit → Act → World → Prop} {tbl : List (Nat × Ent)} {w0 : World} {o : Oper} {s k : Nat} {l : List Nat} {x z : Value} (hw : Wants tbl ops o) (ho : o.op = .extract (.tmp s) 0) (hs : get tbl s = Ent.tup x z k l) (hd : ∀ d, o.dst = some d → get tbl d = Ent.is x) : Step Try.prog ops Q tbl w0 o := by
  refine Step.value hw fun a w hb hk => ⟨x, ?_, fun d h => by rw [hd d h]; rfl⟩
  have h1 := hk s (looks_op (by rw [ho]; simp [Op.operands]))
  rw [hs] at h1
  obtain ⟨a1, c1, h2, h3⟩ := h1
  simp only [execOp, ho, h2]
  simp [go_sem]
theorem Step.ext2 {ops : Array Oper} {Q : Exit → Act → World → Prop} {tbl : List (Nat × Ent)} {w0 : World} {o : Oper} {s k : Nat} {l : List Nat} {x z : Value} (hw : Wants tbl ops o) (ho : o.op = .extract (.tmp s) 2) (hs : get tbl s = Ent.tup x z k l) (hd : ∀ d, o.dst = some d → get tbl d = Ent.is z) : Step Try.prog ops Q tbl w0 o := by
  refine Step.value hw fun a w hb hk => ⟨z, ?_, fun d h => by rw [hd d h]; rfl⟩
  have h1 := hk s (looks_op (by rw [ho]; simp [Op.operands]))
  rw [hs] at h1
  obtain ⟨a1, c1, h2, h3⟩ := h1
  simp only [execOp, ho, h2]
  simp [go_sem]
theorem Step.ext1 {ops : Array Oper} {Q : Exit → Act → World → Prop} {tbl : List (Nat × Ent)} {w0 : World} {o : Oper} {s k : Nat} {l : List Nat} {x z : Value} (hw : Wants tbl ops o) (ho : o.op = .extract (.tmp s) 1) (hs : get tbl s = Ent.tup x z k l) (hd : ∀ d, o.dst = some d → get tbl d = Ent.sl k l) : Step Try.prog ops Q tbl w0 o := by
  intro a w hb hk
  have h1 := hk s (looks_op (by rw [ho]; simp [Op.operands]))
  rw [hs] at h1
  obtain ⟨a1, c1, h2, h3⟩ := h1
  refine .inl ⟨hw.wanted hk, ?_⟩
  unfold Oper.wp
  have hr : (execOp a.eval o).run Try.prog w = .ok (.value (.slice a1 k c1)) w := by
    simp only [execOp, ho, h2]
    simp [go_sem]
  rw [hr]
  exact ⟨Below.refl _ _, _, rfl, fun d h => by rw [hd d h]; exact ⟨a1, c1, rfl, h3⟩⟩
/-- What a value's cell that is stored into leaves. -/
def SafeV (e : Ent) : Prop := ∀ (v : Value) (w : World) (b : Nat) (k i k' i' : Int) (s s' : ByteArray), At w b k i s → e.p v w → e.p v (putV w b k' i' s')
theorem SafeV.is (x : Value) : SafeV (Ent.is x) := fun _ _ _ _ _ _ _ _ _ _ h => h
theorem SafeV.sl (k : Nat) (l : List Nat) : SafeV (Ent.sl k l) := by
  rintro v w b k i k' i' s s' hA ⟨a, c, h1, h2⟩
  exact ⟨a, c, h1, h2.putV hA k' i' s'⟩
theorem SafeV.tup (x z : Value) (k : Nat) (l : List Nat) : SafeV (Ent.tup x z k l) := by
  rintro v w b k i k' i' s s' hA ⟨a, c, h1, h2⟩
  exact ⟨a, c, h1, h2.putV hA k' i' s'⟩
/-- The slot's cell holds that value. -/
def Laid (d B : Nat) (k i : Int) (s : ByteArray) (a : Act) (w : World) : Prop := ∃ b, a.eval (.tmp d) = .pointer (some ⟨b, 0, none⟩) ∧ B ≤ b ∧ At w b k i s
theorem Laid.put {d B : Nat} {k i : Int} {s : ByteArray} {a : Act} {w w' : World} {x : Option Nat} {v : Value} (h : Laid d B k i s a w) (hb : Below w.heap.size w w') (hx : x ≠ some d) : Laid d B k i s (a.put x v) w' := by
  obtain ⟨b, h1, h2, h3⟩ := h
  refine ⟨b, ?_, h2, h3.below hb⟩
  rw [Act.eval_put (fun y hy e => ?_)]
  · exact h1
  · injection e with e
    subst e
    exact hx hy
theorem Touch.lay {ops : Array Oper} {Q : Exit → Act → World → Prop} {tbl : List (Nat × Ent)} {bs al : List Nat} {w0 : World} {j : Nat} {o : Oper} {s x : Nat} {k i : Int} {z : ByteArray} (hg : o.guard = none) (ho : o.op = .store 23 (.tmp s) (.tmp x)) (hn : o.dst = none)
    (hs : get tbl s = Ent.cell w0.heap.size 0 0 ⟨#[]⟩) (hx : get tbl x = Ent.is (.agg #[.int .i64 k, .int .i64 i, .string z])) (hfr : ∀ d, d ∈ bs ∨ d ∈ al → SafeV (get tbl d)) :
    Touch Try.prog ops Q tbl bs al w0 (Laid s w0.heap.size k i z) j j o := by
  intro a w hb hk
  have h1 := hk s (looks_op (by rw [ho]; simp [Op.operands]))
  rw [hs] at h1
  obtain ⟨b, h1, hB, hA⟩ := h1
  have h2 : a.eval (.tmp x) = .agg #[.int .i64 k, .int .i64 i, .string z] := by
    have := hk x (looks_op (by rw [ho]; simp [Op.operands]))
    rwa [hx] at this
  obtain ⟨a1, a2, a3⟩ := hA.cells
  obtain ⟨f1, f2, f3⟩ := hA.thawed
  refine ⟨hg, ?_⟩
  have hr : (execOp a.eval o).run Try.prog w = .ok .skip (putV w b k i z) := by
    simp only [execOp, ho, h1, h2]
    simp [go_sem, a1, a2, a3, f1, f2, f3, putV]
  unfold Oper.wp
  rw [hr]
  refine ⟨(((Below.refl w0.heap.size w).setCell (p := ⟨b, 0, Option.none⟩) hB _).setCell (p := ⟨b, 1, Option.none⟩) hB _).setCell (p := ⟨b, 2, Option.none⟩) hB _, ⟨undef, rfl, fun d h => by rw [hn] at h; cases h⟩, fun d hdd v hp => hfr d hdd v w b 0 0 k i ⟨#[]⟩ z hA hp, fun _ => ?_⟩
  rw [hn]
  exact ⟨b, h1, hB, hA.set k i z⟩
theorem puts_eval {a : Act} {ds : List Nat} {vs : Nat → Value} {d : Nat} (h : d ∈ ds) (hl : d < a.tmps.size) : (puts a ds vs).eval (.tmp d) = vs d := by
  obtain ⟨p1, p2, p3⟩ := puts_get vs ds a
  have h1 := p3 d
  rw [if_pos ⟨h, hl⟩, eval_get (by rw [p2]; exact hl)] at h1
  exact Option.some.inj h1
theorem mem_alive {D : List (Nat × List Nat)} {ops : Array Oper} {j d : Nat} (L : List Nat) (h : d ∈ alive D ops j) (e : (alive D ops j == L) = true) : d ∈ L := by
  rw [beq_iff_eq] at e; rwa [e] at h
/-- No other operation behind it writes the slot. -/
def once (l : List Oper) (jx d : Nat) : Bool := (List.range l.length).all fun i => i == jx || waits l.toArray l.length jx i || (l[i]?).bind (·.dst) != some d
theorem once_get {l : List Oper} {jx d : Nat} (h : once l jx d = true) {i : Nat} {o : Oper} (ho : l[i]? = some o) (hw : waits l.toArray l.length jx i = false) (hne : i ≠ jx) : o.dst ≠ some d := by
  intro hd
  have hi : i < l.length := (List.getElem?_eq_some_iff.1 ho).1
  have h1 := List.all_eq_true.1 h i (List.mem_range.2 hi)
  rw [ho, hw] at h1
  simp [hne, hd] at h1
end Go.Proofs.Ytahpbenobhodnaa.V

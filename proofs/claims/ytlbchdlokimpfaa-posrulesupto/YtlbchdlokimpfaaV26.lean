/- Steps of the statements on sets: a set's new block, what is stored into it, numbers that were told. -/
import Derived.Test.YtlbchdlokimpfaaV25
import Derived.Test.YtlbchdlokimpfaaV14
namespace Go.Proofs.Ytlbchdlokimpfaa
set_option linter.unusedVariables false
open Go.RowKit
theorem NewSet.apart {w : World} {B n b : Nat} {s x y : Value} (h : NewSet w B s n) (hA : AtS w b x y) : ∃ T ao len cap, s = .agg #[.int .i64 (n : Int), .iface T (.slice ao len cap)] ∧ ∀ z, ao = some z → z.block ≠ b := by
  obtain ⟨T, ao, len, cap, h1, h2⟩ := h
  refine ⟨T, ao, len, cap, h1, fun z hz e => ?_⟩
  obtain ⟨_, cs, t, fr, h4, h5⟩ := h2 z hz
  unfold AtS at hA
  rw [e, hA] at h4
  injection h4 with h4
  injection h4 with _ h6 _
  exact h5 h6.symm
theorem SetAt.keep {w : World} {v x y : Value} {rep B b : Nat} {bs : List Bool} (h : SetAt w v rep bs) (hn : NewSet w B v bs.length) (hA : AtS w b x y) (x' y' : Value) : SetAt ((w.setCell ⟨b, 0, none⟩ x').setCell ⟨b, 1, none⟩ y') v rep bs := by
  obtain ⟨T, ao, len, cap, rfl, hne⟩ := hn.apart hA
  obtain ⟨h1, kept, h2, h3⟩ := h
  have : kept = .iface T (.slice ao len cap) := by simpa using h2.symm
  subst this
  exact ⟨h1, _, rfl, (h3.away hne 0 _).away hne 1 _⟩
theorem NewSet.keep {w : World} {v x y : Value} {n B b : Nat} (hn : NewSet w B v n) (hA : AtS w b x y) (x' y' : Value) : NewSet ((w.setCell ⟨b, 0, none⟩ x').setCell ⟨b, 1, none⟩ y') B v n := by
  obtain ⟨T, ao, len, cap, h1, h2⟩ := hn
  refine ⟨T, ao, len, cap, h1, fun z hz => ?_⟩
  obtain ⟨h3, cs, t, fr, h4, h5⟩ := h2 z hz
  have hne : z.block ≠ b := fun e => by
    unfold AtS at hA
    rw [e, hA] at h4
    injection h4 with h4
    injection h4 with _ h6 _
    exact h5 h6.symm
  exact ⟨h3, cs, t, fr, by rw [Below.heap_setCell _ _ _ _ hne, Below.heap_setCell _ _ _ _ hne]; exact h4, h5⟩
end Go.Proofs.Ytlbchdlokimpfaa
namespace Go.Proofs.Ytlbchdlokimpfaa.V
set_option linter.unusedVariables false
open Go.RowKit
section
variable {ops : Array Oper} {Q : Exit → Act → World → Prop} {tbl : List (Nat × Ent)} {w0 : World} {o : Oper}
/-- A set's new block; numbers that were told. -/
def Ent.sbox (B : Nat) : Ent := ⟨fun v w => ∃ b, v = .pointer (some ⟨b, 0, none⟩) ∧ B ≤ b ∧ AtS w b (.int .i64 0) .nilIface, fun hb ⟨b, h1, h2, h3⟩ => ⟨b, h1, h2, h3.below hb⟩⟩
def Ent.slI (n : Nat) (l : List Int) : Ent := ⟨fun v w => ∃ a c, v = .slice a n c ∧ Sl w .i64 a n c l, fun hb ⟨a, c, h1, h2⟩ => ⟨a, c, h1, h2.below hb⟩⟩
theorem Step.sbox (hw : Wants tbl ops o) (ho : o.op = .alloc 28) (hd : ∀ d, o.dst = some d → get tbl d = Ent.sbox w0.heap.size) : Step Try.prog ops Q tbl w0 o := by
  refine Step.run hw fun a w hb hk => ⟨.pointer (some ⟨w.heap.size, 0, none⟩), w.alloc (.cells #[.int .i64 0, .nilIface] 28), ?_, (Below.refl _ _).alloc (Nat.le_refl _) _, fun d h => ?_⟩
  · simp only [execOp, ho]
    simp [go_sem]
  · rw [hd d h]
    exact ⟨_, rfl, hb.size, AtS.new w _ _⟩
/-- What the store into a set's block leaves. -/
def SafeS (e : Ent) : Prop := ∀ (v : Value) (w : World) (b : Nat) (x y x' y' : Value), AtS w b x y → e.p v w → e.p v ((w.setCell ⟨b, 0, none⟩ x').setCell ⟨b, 1, none⟩ y')
theorem SafeS.is (x : Value) : SafeS (Ent.is x) := fun _ _ _ _ _ _ _ _ h => h
theorem SafeS.laid (B ra : Nat) (bs : List Bool) : SafeS (Ent.laid B ra bs) := by
  rintro v w b x y x' y' hA ⟨s, h1, h2, h3⟩
  exact ⟨s, h1, h2.keep h3 hA x' y', h3.keep hA x' y'⟩
theorem SafeS.set (B ra : Nat) (bs : List Bool) : SafeS (Ent.set B ra bs) := by
  rintro v w b x y x' y' hA ⟨h2, h3⟩
  exact ⟨h2.keep h3 hA x' y', h3.keep hA x' y'⟩
/-- The slot's block holds the set. -/
def LaidS (d B ra : Nat) (bs : List Bool) (a : Act) (w : World) : Prop := ∃ b T ao len cap, a.eval (.tmp d) = .pointer (some ⟨b, 0, none⟩) ∧ B ≤ b ∧ AtS w b (.int .i64 (bs.length : Int)) (.iface T (.slice ao len cap)) ∧ SetAt w (.agg #[.int .i64 (bs.length : Int), .iface T (.slice ao len cap)]) ra bs ∧ NewSet w B (.agg #[.int .i64 (bs.length : Int), .iface T (.slice ao len cap)]) bs.length
theorem LaidS.put {d B ra : Nat} {bs : List Bool} {a : Act} {w w' : World} {x : Option Nat} {v : Value} (h : LaidS d B ra bs a w) (hb : Below w.heap.size w w') (hx : x ≠ some d) : LaidS d B ra bs (a.put x v) w' := by
  obtain ⟨b, T, ao, len, cap, h1, h2, h3, h4, h5⟩ := h
  refine ⟨b, T, ao, len, cap, ?_, h2, h3.below hb, h4.below hb, h5.below hb⟩
  rw [Act.eval_put (fun y hy e => ?_)]
  · exact h1
  · injection e with e
    subst e
    exact hx hy
theorem Touch.layS {bs al : List Nat} {j s x ra : Nat} {cs : List Bool} (hg : o.guard = none) (ho : o.op = .store 28 (.tmp s) (.tmp x)) (hn : o.dst = none)
    (hs : get tbl s = Ent.sbox w0.heap.size) (hx : get tbl x = Ent.set w0.heap.size ra cs) (hfr : ∀ d, d ∈ bs ∨ d ∈ al → SafeS (get tbl d)) :
    Touch Try.prog ops Q tbl bs al w0 (LaidS s w0.heap.size ra cs) j j o := by
  intro a w hb hk
  have h1 := hk s (looks_op (by rw [ho]; simp [Op.operands]))
  rw [hs] at h1
  obtain ⟨b, h1, hB, hA⟩ := h1
  have h2 := hk x (looks_op (by rw [ho]; simp [Op.operands]))
  rw [hx] at h2
  obtain ⟨h2, h3⟩ := h2
  obtain ⟨T, ao, len, cap, he, hne⟩ := h3.apart hA
  obtain ⟨a1, a2⟩ := hA.cells
  obtain ⟨f1, f2⟩ := hA.thawed
  have e2 := he
  rw [he] at h2 h3
  refine ⟨hg, ?_⟩
  have hr : (execOp a.eval o).run Try.prog w = .ok .skip ((w.setCell ⟨b, 0, none⟩ (.int .i64 (cs.length : Int))).setCell ⟨b, 1, none⟩ (.iface T (.slice ao len cap))) := by
    simp only [execOp, ho, h1, e2]
    simp [go_sem, a1, a2, f1, f2]
  unfold Oper.wp
  rw [hr]
  refine ⟨((Below.refl w0.heap.size w).setCell (p := ⟨b, 0, Option.none⟩) hB _).setCell (p := ⟨b, 1, Option.none⟩) hB _, ⟨undef, rfl, fun d h => by rw [hn] at h; cases h⟩, fun d hdd v hp => hfr d hdd v w b _ _ _ _ hA hp, fun _ => ?_⟩
  rw [hn]
  exact ⟨b, T, ao, len, cap, h1, hB, hA.set _ _, h2.keep h3 hA _ _, h3.keep hA _ _⟩
theorem Step.idxA {s B i : Nat} (hw : Wants tbl ops o) (ho : o.op = .indexAddr 50 (.tmp s) (.const (.int .i64 (i : Int)))) (hs : get tbl s = Ent.is (.pointer (some ⟨B, 0, none⟩))) (hi : i < 2) (hd : ∀ d, o.dst = some d → get tbl d = Ent.is (.pointer (some ⟨B, i, none⟩))) : Step Try.prog ops Q tbl w0 o := by
  refine Step.value hw fun a w hb hk => ⟨_, ?_, fun d h => by rw [hd d h]; rfl⟩
  have h1 : a.eval (.tmp s) = .pointer (some ⟨B, 0, none⟩) := by
    have := hk s (looks_op (by rw [ho]; simp [Op.operands]))
    rwa [hs] at this
  have h2 : i = 0 ∨ i = 1 := by omega
  rcases h2 with rfl | rfl <;> (simp only [execOp, ho, h1]; simp [go_sem])
theorem Step.ldU8 {s B j : Nat} {n : Int} (hw : Wants tbl ops o) (ho : o.op = .load 5 (.tmp s)) (hs : get tbl s = Ent.is (.pointer (some ⟨B, j, none⟩))) (hl : B < w0.heap.size) (hB : w0.cell? ⟨B, j, none⟩ = some (.int .u8 n)) (hd : ∀ d, o.dst = some d → get tbl d = Ent.is (.int .u8 n)) : Step Try.prog ops Q tbl w0 o := by
  refine Step.value hw fun a w hb hk => ⟨_, ?_, fun d h => by rw [hd d h]; rfl⟩
  have h1 : a.eval (.tmp s) = .pointer (some ⟨B, j, none⟩) := by
    have := hk s (looks_op (by rw [ho]; simp [Op.operands]))
    rwa [hs] at this
  have h2 : w.cell? ⟨B, j, none⟩ = some (.int .u8 n) := by rw [hb.cell (p := ⟨B, j, none⟩) hl]; exact hB
  simp only [execOp, ho, h1]
  simp [go_sem, h2]
theorem run_rem3 (w : World) (r : Int) (h : 0 ≤ r) : (binOp .rem 5 (.int .u8 r) (.int .u8 3)).run Try.prog w = .ok (.int .u8 (r % 3)) w := by
  simp [go_sem]
  exact Int.tmod_eq_emod_of_nonneg h
theorem run_conv8 (w : World) (q : Int) (h : 0 ≤ q) (h1 : q < 256) : (convert 5 3 (.int .u8 q)).run Try.prog w = .ok (.int .i64 q) w := by
  have e : IntKind.i64.wrap q = q := by rw [IntKind.wrap_i64]; omega
  simp [go_sem, e]
theorem run_add1 (w : World) (q : Int) (h : 0 ≤ q) (h1 : q < 256) : (binOp .add 3 (.int .i64 1) (.int .i64 q)).run Try.prog w = .ok (.int .i64 (1 + q)) w := by
  have e : IntKind.i64.wrap (1 + q) = 1 + q := by rw [IntKind.wrap_i64]; omega
  simp [go_sem, e]
theorem Step.lenI {s n : Nat} {l : List Int} (hw : Wants tbl ops o) (ho : o.op = .call { callee := .builtin .len, args := #[.tmp s], argTypes := #[22] }) (hs : get tbl s = Ent.slI n l) (hd : ∀ d, o.dst = some d → get tbl d = Ent.is (.int .i64 (n : Int))) : Step Try.prog ops Q tbl w0 o := by
  refine Step.value hw fun a w hb hk => ⟨.int .i64 (n : Int), ?_, fun d h => by rw [hd d h]; rfl⟩
  have h1 := hk s (looks_op (by rw [ho]; simp [Op.operands, Call.operands]))
  rw [hs] at h1
  obtain ⟨a1, c1, h2, -⟩ := h1
  have h3 := slot_of h2
  simp only [execOp, ho]
  simp [h3, go_sem, Builtin.len_]
end
end Go.Proofs.Ytlbchdlokimpfaa.V

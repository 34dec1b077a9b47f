/- What ToText and ToInts tell. -/
import Derived.Test.YtmhfpipeoojacaaBdL
import Derived.Lib.SlBytesConst
namespace Go.Proofs.Ytmhfpipeoojacaa
set_option linter.unusedVariables false
open Go.RowKit

/-- ToText's text, and the bytes behind it. -/
def TextAns (n : Int) (l : List Nat) (B0 : Nat) (w : World) (v1 v2 : Value) : Prop :=
  v1 = .string (strOfNums (ints (E.yS n l))) ∧ ∃ a2 c2, v2 = .slice a2 (E.yR n l).length c2 ∧ Sl w .u8 a2 (E.yR n l).length c2 (ints (E.yR n l))
theorem TextAns.good {n : Int} {l : List Nat} {B0 : Nat} {w : World} {a2 : Option Addr} {c2 : Nat} (h : E.xE n l = 0) (hs : Sl w .u8 a2 (E.xR l).length c2 (ints (E.xR l))) : TextAns n l B0 w (.string (strOfNums (ints (E.xS l)))) (.slice a2 (E.xR l).length c2) := by
  unfold TextAns E.yS E.yR; rw [if_pos h, if_pos h]; exact ⟨rfl, a2, c2, rfl, hs⟩
theorem Sl.nil (w : World) (k : IntKind) : Sl w k none 0 0 [] := ⟨rfl, Nat.le_refl _, by decide, fun _ => rfl, .inl rfl⟩
theorem TextAns.bad {n : Int} {l : List Nat} {B0 : Nat} {w : World} (h : E.xE n l ≠ 0) : TextAns n l B0 w (.string ⟨#[]⟩) (.slice none 0 0) := by
  unfold TextAns E.yS E.yR; rw [if_neg h, if_neg h]; exact ⟨rfl, none, 0, rfl, Sl.nil _ _⟩
theorem TextAns.keptE {n : Int} {l : List Nat} {B0 : Nat} {w : World} {v1 v2 : Value} {B : Nat} (h : TextAns n l B0 w v1 v2) (hb : w.heap[B]? = some (.cells #[.int .i64 0] 28 (0, 0))) (hB : B < B0) (u : Value) : TextAns n l B0 (w.setCell ⟨B, 0, none⟩ u) v1 v2 := by
  obtain ⟨h1, a2, c2, h2, h3⟩ := h
  exact ⟨h1, a2, c2, h2, h3.set hb (by simp) u⟩
theorem TextAns.shape {n : Int} {l : List Nat} {B0 : Nat} {w : World} {v1 v2 : Value} (h : TextAns n l B0 w v1 v2) : ∃ x1 a2 l2 c2, v1 = .string x1 ∧ v2 = .slice a2 l2 c2 := by
  obtain ⟨h1, a2, c2, h2, _⟩ := h
  exact ⟨_, a2, _, c2, h1, h2⟩
theorem TextAns.keptS {n : Int} {l : List Nat} {B0 : Nat} {w : World} {x1 : ByteArray} {a2 : Option Addr} {l2 c2 B3 B4 : Nat} (h : TextAns n l B0 w (.string x1) (.slice a2 l2 c2)) (h3 : w.heap[B3]? = some (.cells #[.string x1] 9 (0, 0))) (h4 : w.heap[B4]? = some (.cells #[.slice a2 l2 c2] 36 (0, 0))) (hne : B3 ≠ B4) {u v : Value} :
    TextAns n l B0 ((w.setCell ⟨B3, 0, none⟩ u).setCell ⟨B4, 0, none⟩ v).drew (.string x1) (.slice a2 l2 c2) := by
  obtain ⟨h1, a2', c2', h2, h5⟩ := h
  refine ⟨h1, a2', c2', h2, ((h5.set h3 (by simp) u).set (B := B4) (v := .slice a2 l2 c2) (t := 36) ?_ (by simp) v).kept ((Kept.refl (fun _ => False) _).drew) (by simp)⟩
  rw [Below.heap_setCell _ _ _ _ (show B4 ≠ B3 from fun e => hne e.symm)]; exact h4

/-- ToInts' numbers, and the bytes behind them. -/
def IntsAns (n : Int) (l : List Nat) (B0 : Nat) (w : World) (v1 v2 : Value) : Prop :=
  (∃ a1 c1, v1 = .slice a1 (E.iL n l).length c1 ∧ Sl w .i64 a1 (E.iL n l).length c1 (E.iL n l) ∧ ∀ x, a1 = some x → B0 ≤ x.block) ∧ ∃ a2 c2, v2 = .slice a2 (E.iR n l).length c2 ∧ Sl w .u8 a2 (E.iR n l).length c2 (ints (E.iR n l))
theorem IntsAns.good {n : Int} {l : List Nat} {B0 : Nat} {w : World} {a1 a2 : Option Addr} {c1 c2 : Nat} (h : E.iE n l = 0) (hs1 : Sl w .i64 a1 (E.tL n.toNat l).length c1 (E.tL n.toNat l)) (hx : ∀ x, a1 = some x → B0 ≤ x.block) (hs : Sl w .u8 a2 (E.tR n.toNat l).length c2 (ints (E.tR n.toNat l))) : IntsAns n l B0 w (.slice a1 (E.tL n.toNat l).length c1) (.slice a2 (E.tR n.toNat l).length c2) := by
  unfold IntsAns E.iL E.iR; rw [if_pos h, if_pos h]; exact ⟨⟨a1, c1, rfl, hs1, hx⟩, a2, c2, rfl, hs⟩
theorem IntsAns.bad {n : Int} {l : List Nat} {B0 : Nat} {w : World} (h : E.iE n l ≠ 0) : IntsAns n l B0 w (.slice none 0 0) (.slice none 0 0) := by
  unfold IntsAns E.iL E.iR; rw [if_neg h, if_neg h]; exact ⟨⟨none, 0, rfl, Sl.nil _ _, by simp⟩, none, 0, rfl, Sl.nil _ _⟩
/-- A row of numbers does not lie in a block of one cell of an unlike type. -/
theorem IntsAns.keptE {n : Int} {l : List Nat} {B0 : Nat} {w : World} {v1 v2 : Value} {B : Nat} (h : IntsAns n l B0 w v1 v2) (hb : w.heap[B]? = some (.cells #[.int .i64 0] 28 (0, 0))) (hB : B < B0) (u : Value) : IntsAns n l B0 (w.setCell ⟨B, 0, none⟩ u) v1 v2 := by
  obtain ⟨⟨a1, c1, h1, h3, hx⟩, a2, c2, h2, h4⟩ := h
  exact ⟨⟨a1, c1, h1, h3.kept (Kept.setCell (F := fun k => k = B) (Kept.refl _ _) (.inl rfl) u) (fun x e h => by have := hx x e; omega), hx⟩, a2, c2, h2, h4.set hb (by simp) u⟩
theorem IntsAns.shape {n : Int} {l : List Nat} {B0 : Nat} {w : World} {v1 v2 : Value} (h : IntsAns n l B0 w v1 v2) : ∃ a1 l1 c1 a2 l2 c2, v1 = .slice a1 l1 c1 ∧ v2 = .slice a2 l2 c2 := by
  obtain ⟨⟨a1, c1, h1, _, _⟩, a2, c2, h2, _⟩ := h
  exact ⟨a1, _, c1, a2, _, c2, h1, h2⟩
theorem IntsAns.keptS {n : Int} {l : List Nat} {B0 : Nat} {w : World} {a1 a2 : Option Addr} {l1 c1 l2 c2 B3 B4 : Nat} (h : IntsAns n l B0 w (.slice a1 l1 c1) (.slice a2 l2 c2)) (h3 : w.heap[B3]? = some (.cells #[.slice a1 l1 c1] 123 (0, 0))) (h4 : w.heap[B4]? = some (.cells #[.slice a2 l2 c2] 36 (0, 0))) (hne : B3 ≠ B4) {u v : Value} :
    IntsAns n l B0 ((w.setCell ⟨B3, 0, none⟩ u).setCell ⟨B4, 0, none⟩ v).drew (.slice a1 l1 c1) (.slice a2 l2 c2) := by
  obtain ⟨⟨a1', c1', h1, h6, hx⟩, a2', c2', h2, h5⟩ := h
  have h4' : ∀ u, (w.setCell ⟨B3, 0, none⟩ u).heap[B4]? = some (.cells #[.slice a2 l2 c2] 36 (0, 0)) := fun u => by
    rw [Below.heap_setCell _ _ _ _ (show B4 ≠ B3 from fun e => hne e.symm)]; exact h4
  exact ⟨⟨a1', c1', h1, ((h6.set h3 (by simp) u).set (h4' u) (by simp) v).kept ((Kept.refl (fun _ => False) _).drew) (by simp), hx⟩,
    a2', c2', h2, ((h5.set h3 (by simp) u).set (h4' u) (by simp) v).kept ((Kept.refl (fun _ => False) _).drew) (by simp)⟩
theorem TextAns.base {n : Int} {l : List Nat} {B0 B1 : Nat} {w : World} {v1 v2 : Value} (h : TextAns n l B0 w v1 v2) (hB : B1 ≤ B0) : TextAns n l B1 w v1 v2 := h
theorem IntsAns.base {n : Int} {l : List Nat} {B0 B1 : Nat} {w : World} {v1 v2 : Value} (h : IntsAns n l B0 w v1 v2) (hB : B1 ≤ B0) : IntsAns n l B1 w v1 v2 := by
  obtain ⟨⟨a1, c1, h1, h3, hx⟩, h2⟩ := h
  exact ⟨⟨a1, c1, h1, h3, fun x e => Nat.le_trans hB (hx x e)⟩, h2⟩
end Go.Proofs.Ytmhfpipeoojacaa
/- The contract of leb's ToText. -/
namespace Go.Proofs.Ytmhfpipeoojacaa
set_option linter.unusedVariables false
open Go.RowKit

set_option maxHeartbeats 400000 in
theorem totextc_any (B1 B2 B3 B4 : Nat) (ao : Option Addr) (len cap : Nat) (l : List Nat) (n : Int) (w : World) (h1 : w.heap[B1]? = some (.cells #[.slice ao len cap] 36 (0, 0))) (h2 : w.heap[B2]? = some (.cells #[.int .i64 n] 3 (0, 0))) (h3 : w.heap[B3]? = some (.cells #[.string ⟨#[]⟩] 9 (0, 0))) (h4 : w.heap[B4]? = some (.cells #[.slice none 0 0] 36 (0, 0))) (hne : B3 ≠ B4)
    (h : Sl w .u8 ao len cap (ints l)) (h256 : ∀ x ∈ l, x < 256) (hm : len ≤ 140737488355328) (hn0 : -9223372036854775808 ≤ n) (hn1 : n < 9223372036854775808) :
    Calls Try.prog 110 #[.pointer (some ⟨B1, 0, none⟩), .pointer (some ⟨B2, 0, none⟩), .pointer (some ⟨B3, 0, none⟩), .pointer (some ⟨B4, 0, none⟩)] w fun e w' =>
      ((E.xE n l = 0 ∧ e = .returned (.tuple #[])) ∨ (E.xE n l ≠ 0 ∧ e = pan ((E.xE n l : Nat) : Int))) ∧ (∃ v1 v2, w'.heap[B3]? = some (.cells #[v1] 9 (0, 0)) ∧ w'.heap[B4]? = some (.cells #[v2] 36 (0, 0)) ∧ TextAns n l w.heap.size w' v1 v2) ∧ Kept (fun k => k = B3 ∨ k = B4 ∨ w.heap.size ≤ k) w w' := by
  obtain ⟨c1, f1⟩ := cell_of_heap h1
  obtain ⟨c2, f2⟩ := cell_of_heap h2
  have H3 := hide h3
  have H4 := hide h4
  have HN := hide hne
  have b3 := lt_of_block h3
  have b4 := lt_of_block h4
  clear h1 h2 h3 h4
  go_enter Try.func110, Try.ntmps110
  go_wp2_with fail
  refine (totext_in _ _ _ l _ _ h h256 hm hn0 hn1).mono ?_
  rintro e w1 ⟨⟨hg, a2, c2, rfl, hs2⟩ | ⟨hg, rfl⟩, hbel⟩
  · have g3 : w1.heap[B3]? = some (.cells #[.string ⟨#[]⟩] 9 (0, 0)) := by rw [hbel.block _ b3]; exact H3.out
    have g4 : w1.heap[B4]? = some (.cells #[.slice none 0 0] 36 (0, 0)) := by rw [hbel.block _ b4]; exact H4.out
    obtain ⟨c3, f3⟩ := cell_of_heap g3
    obtain ⟨c4, f4⟩ := cell_of_heap g4
    have c4' : ∀ u, (w1.setCell ⟨B3, 0, none⟩ u).cell? ⟨B4, 0, none⟩ = some (.slice none 0 0) := fun u => by
      rw [World.cell?_setCell_other _ _ _ _ (by intro e; injection e with e; exact hne e)]; exact c4
    have G3 := hide g3
    have G4 := hide g4
    have HG := hide hg
    have HB := hide hbel
    have HS2 := hide hs2
    clear hs2
    clear g3 g4 hg hbel
    go_wp2
    go_end0
    have g4' : ∀ u, (w1.setCell ⟨B3, 0, none⟩ u).heap[B4]? = some (.cells #[.slice none 0 0] 36 (0, 0)) := fun u => by rw [Below.heap_setCell _ _ _ _ (show B4 ≠ B3 from fun e => HN.out e.symm)]; exact G4.out
    have g3' : ∀ u v, ((w1.setCell ⟨B3, 0, none⟩ u).setCell ⟨B4, 0, none⟩ v).heap[B3]? = some (.cells #[u] 9 (0, 0)) := fun u v => by
      rw [Below.heap_setCell _ _ _ _ (show B3 ≠ B4 from HN.out)]; exact heap_setCell_one G3.out _
    refine ⟨.inl ⟨HG.out, rfl⟩, ⟨_, _, g3' _ _, heap_setCell_one (g4' _) _, ?_⟩, Kept.setCell (Kept.setCell (Kept.mono (Kept.of_below HB.out (fun _ => False)) (fun _ hx => hx.elim)) (.inl (.inl rfl)) _) (.inl (.inr (.inl rfl))) _⟩
    exact TextAns.good HG.out ((HS2.out.set G3.out (by simp) _).set (g4' _) (by simp) _)
  · have g3 : w1.heap[B3]? = some (.cells #[.string ⟨#[]⟩] 9 (0, 0)) := by rw [hbel.block _ b3]; exact H3.out
    have g4 : w1.heap[B4]? = some (.cells #[.slice none 0 0] 36 (0, 0)) := by rw [hbel.block _ b4]; exact H4.out
    have G3 := hide g3
    have G4 := hide g4
    have HG := hide hg
    have HB := hide hbel
    clear hg g3 g4 hbel
    unfold pan
    go_wp2
    exact ⟨rfl, .inr ⟨HG.out, rfl⟩, ⟨_, _, G3.out, G4.out, TextAns.bad HG.out⟩, Kept.of_below HB.out _⟩

theorem Try.enterToTextC (args : Array Value) (w : World) : (callFunc 110 args).run Try.prog w = .ok (.enter 110 args) w :=
  enter_fn Try.func110 (by decide +kernel) rfl args w

set_option maxHeartbeats 1000000 in
/-- ToText. -/
theorem totext_any (ao : Option Addr) (len cap : Nat) (l : List Nat) (n : Int) (w : World) (h : Sl w .u8 ao len cap (ints l)) (h256 : ∀ x ∈ l, x < 256) (hm : len ≤ 140737488355328) (hn0 : -9223372036854775808 ≤ n) (hn1 : n < 9223372036854775808) :
    Calls Try.prog 107 #[.slice ao len cap, .int .i64 n] w fun e w' => ∃ v1 v2, e = .returned (.tuple #[v1, v2, .int .i64 ((E.xE n l : Nat) : Int)]) ∧ TextAns n l w.heap.size w' v1 v2 ∧ Below w.heap.size w w' := by
  have hmf : ∀ (fn : Fn) (first cap : Array Value) (w : World), (Instr.makeFunc fn first cap).run Try.prog w = .ok (.func fn first cap) w := fun _ _ _ _ => rfl
  go_enter Try.func107, Try.ntmps107
  go_wp2_with fail
  refine (caught_any 110 _ _ (fun er w1 => er = ((E.xE n l : Nat) : Int) ∧ (∃ v1 v2, w1.heap[w.heap.size + 1 + 1]? = some (.cells #[v1] 9 (0, 0)) ∧ w1.heap[w.heap.size + 1 + 1 + 1]? = some (.cells #[v2] 36 (0, 0)) ∧ w1.heap[w.heap.size + 1 + 1 + 1 + 1]? = some (.cells #[.int .i64 0] 28 (0, 0)) ∧ TextAns n l (w.heap.size + 1 + 1 + 1 + 1 + 1) w1 v1 v2) ∧ Below w.heap.size w w1) (Try.enterToTextC _) ?h).mono ?_
  case h =>
    have b1 := heap_alloc_new w (.cells #[.slice ao len cap] 36)
    have b2 := heap_alloc_new (w.alloc (.cells #[.slice ao len cap] 36)) (.cells #[.int .i64 n] 3)
    have b3 := heap_alloc_new ((w.alloc (.cells #[.slice ao len cap] 36)).alloc (.cells #[.int .i64 n] 3)) (.cells #[.string ⟨#[]⟩] 9)
    have b4 := heap_alloc_new (((w.alloc (.cells #[.slice ao len cap] 36)).alloc (.cells #[.int .i64 n] 3)).alloc (.cells #[.string ⟨#[]⟩] 9)) (.cells #[.slice none 0 0] 36)
    have b5 := heap_alloc_new ((((w.alloc (.cells #[.slice ao len cap] 36)).alloc (.cells #[.int .i64 n] 3)).alloc (.cells #[.string ⟨#[]⟩] 9)).alloc (.cells #[.slice none 0 0] 36)) (.cells #[.int .i64 0] 28)
    have hbel : Below w.heap.size w (((((w.alloc (.cells #[.slice ao len cap] 36)).alloc (.cells #[.int .i64 n] 3)).alloc (.cells #[.string ⟨#[]⟩] 9)).alloc (.cells #[.slice none 0 0] 36)).alloc (.cells #[.int .i64 0] 28)) :=
      (((((Below.refl _ _).alloc (Nat.le_refl _) _).alloc (by simp) _).alloc (by simp; omega) _).alloc (by simp; omega) _).alloc (by simp; omega) _
    simp only [World.size_alloc] at b2 b3 b4 b5
    refine (totextc_any _ _ _ _ ao len cap l n _ (heap_alloc_keep _ (heap_alloc_keep _ (heap_alloc_keep _ (heap_alloc_keep _ b1)))) (heap_alloc_keep _ (heap_alloc_keep _ (heap_alloc_keep _ b2))) (heap_alloc_keep _ (heap_alloc_keep _ b3)) (heap_alloc_keep _ b4) (by omega) (h.below hbel) h256 hm hn0 hn1).mono ?_
    rintro e w1 ⟨he, ⟨v1, v2, e1, e2, e3⟩, hk⟩
    have g5 : w1.heap[w.heap.size + 1 + 1 + 1 + 1]? = some (.cells #[.int .i64 0] 28 (0, 0)) := by
      rw [hk.block _ (by simp) (by simp; omega)]
      exact b5
    refine ⟨((E.xE n l : Nat) : Int), ?_, by simp only [World.size_alloc]; exact g5, rfl, ⟨v1, v2, e1, e2, g5, e3.base (by simp only [World.size_alloc]; omega)⟩, hbel.trans (hk.below (by simp; omega) (by intro k hk; simp at hk; omega))⟩
    rcases he with ⟨h0, he⟩ | ⟨h0, he⟩
    · exact .inl ⟨by rw [h0]; rfl, he⟩
    · exact .inr ⟨by omega, he⟩
  rintro e w2 ⟨er, w1, ⟨her, ⟨v1, v2, hb1, hb2, hb5, hans⟩, hbel⟩, rfl, rfl⟩
  simp only [World.size_alloc]
  have s2 : (w1.setCell ⟨w.heap.size + 1 + 1 + 1 + 1, 0, none⟩ (.int .i64 er)).heap[w.heap.size + 1 + 1]? = some (.cells #[v1] 9 (0, 0)) := by rw [Below.heap_setCell _ _ _ _ (by show _ ≠ w.heap.size + 1 + 1 + 1 + 1; omega)]; exact hb1
  have s3 : (w1.setCell ⟨w.heap.size + 1 + 1 + 1 + 1, 0, none⟩ (.int .i64 er)).heap[w.heap.size + 1 + 1 + 1]? = some (.cells #[v2] 36 (0, 0)) := by rw [Below.heap_setCell _ _ _ _ (by show _ ≠ w.heap.size + 1 + 1 + 1 + 1; omega)]; exact hb2
  have hans2 := hans.keptE hb5 (by omega) (.int .i64 er)
  have hbel2 := hbel.setCell (p := ⟨w.heap.size + 1 + 1 + 1 + 1, 0, none⟩) (by show w.heap.size ≤ w.heap.size + 1 + 1 + 1 + 1; omega) (.int .i64 er)
  have HB := hide hbel2
  have HE := hide her
  obtain ⟨w3, hw3⟩ : ∃ w3, w1.setCell ⟨w.heap.size + 1 + 1 + 1 + 1, 0, none⟩ (.int .i64 er) = w3 := ⟨_, rfl⟩
  rw [hw3] at s2 s3 HB hans2 ⊢
  obtain ⟨c2, f2⟩ := cell_of_heap s2
  obtain ⟨c3, f3⟩ := cell_of_heap s3
  have c3' : ∀ u, (w3.setCell ⟨w.heap.size + 1 + 1, 0, none⟩ u).cell? ⟨w.heap.size + 1 + 1 + 1, 0, none⟩ = some v2 := fun u => by
    rw [World.cell?_setCell_other _ _ _ _ (by intro e; injection e with e; omega)]; exact c3
  have f3' : ∀ u, (w3.setCell ⟨w.heap.size + 1 + 1, 0, none⟩ u).frozen? ⟨w.heap.size + 1 + 1 + 1, 0, none⟩ = false := fun u => by
    rw [World.frozen?_setCell]; exact f3
  have HA := hide hans2
  have S2 := hide s2
  have S3 := hide s3
  obtain ⟨x1, a2, l2, cc2, hv1, hv2⟩ := hans.shape
  subst hv1 hv2
  clear hbel2 hbel hb1 hb2 hb5 her hw3 s2 s3 h h256 hans hans2
  go_wp2
  go_region
  go_wp2
  have c2' : ∀ u v, ((w3.setCell ⟨w.heap.size + 1 + 1, 0, none⟩ u).setCell ⟨w.heap.size + 1 + 1 + 1, 0, none⟩ v).cell? ⟨w.heap.size + 1 + 1, 0, none⟩ = some u := fun u v => by
    rw [World.cell?_setCell_other _ _ _ _ (by intro e; injection e with e; omega)]; simp [World.cell?_setCell_same, c2]
  have c4' : ∀ u v, ((w3.setCell ⟨w.heap.size + 1 + 1, 0, none⟩ u).setCell ⟨w.heap.size + 1 + 1 + 1, 0, none⟩ v).cell? ⟨w.heap.size + 1 + 1 + 1, 0, none⟩ = some v := fun u v => by
    simp [World.cell?_setCell_same, c3']
  refine bodyPost_ret (v := .tuple #[.string x1, .slice a2 l2 cc2, .int .i64 er]) (by simp [results, Try.results107, go_sem, c2', c4']) rfl ⟨_, _, by rw [HE.out], ?_, ?_⟩
  · exact (HA.out.keptS S2.out S3.out (by omega)).base (by omega)
  · exact (((HB.out.setCell (p := ⟨w.heap.size + 1 + 1, 0, none⟩) (by show w.heap.size ≤ w.heap.size + 1 + 1; omega) _).setCell (p := ⟨w.heap.size + 1 + 1 + 1, 0, none⟩) (by show w.heap.size ≤ w.heap.size + 1 + 1 + 1; omega) _)).drew
end Go.Proofs.Ytmhfpipeoojacaa
/- The contract of leb's ToInts. -/
namespace Go.Proofs.Ytmhfpipeoojacaa
set_option linter.unusedVariables false
open Go.RowKit

set_option maxHeartbeats 400000 in
theorem tointsc_any (B1 B2 B3 B4 : Nat) (ao : Option Addr) (len cap : Nat) (l : List Nat) (n : Int) (w : World) (h1 : w.heap[B1]? = some (.cells #[.slice ao len cap] 36 (0, 0))) (h2 : w.heap[B2]? = some (.cells #[.int .i64 n] 3 (0, 0))) (h3 : w.heap[B3]? = some (.cells #[.slice none 0 0] 123 (0, 0))) (h4 : w.heap[B4]? = some (.cells #[.slice none 0 0] 36 (0, 0))) (hne : B3 ≠ B4)
    (h : Sl w .u8 ao len cap (ints l)) (h256 : ∀ x ∈ l, x < 256) (hm : len ≤ 140737488355328 ∧ (len ≤ 1099511627776 ∨ n ≤ 1099511627776)) (hn0 : -9223372036854775808 ≤ n) (hn1 : n < 9223372036854775808) :
    Calls Try.prog 108 #[.pointer (some ⟨B1, 0, none⟩), .pointer (some ⟨B2, 0, none⟩), .pointer (some ⟨B3, 0, none⟩), .pointer (some ⟨B4, 0, none⟩)] w fun e w' =>
      ((E.iE n l = 0 ∧ e = .returned (.tuple #[])) ∨ (E.iE n l ≠ 0 ∧ e = pan ((E.iE n l : Nat) : Int))) ∧ (∃ v1 v2, w'.heap[B3]? = some (.cells #[v1] 123 (0, 0)) ∧ w'.heap[B4]? = some (.cells #[v2] 36 (0, 0)) ∧ IntsAns n l w.heap.size w' v1 v2) ∧ Kept (fun k => k = B3 ∨ k = B4 ∨ w.heap.size ≤ k) w w' := by
  obtain ⟨c1, f1⟩ := cell_of_heap h1
  obtain ⟨c2, f2⟩ := cell_of_heap h2
  have H3 := hide h3
  have H4 := hide h4
  have HN := hide hne
  have b3 := lt_of_block h3
  have b4 := lt_of_block h4
  clear h1 h2 h3 h4
  go_enter Try.func108, Try.ntmps108
  go_wp2_with fail
  refine (toints_inN _ _ _ l _ _ h h256 hm hn1).mono ?_
  rintro e w1 ⟨⟨hg, a1, c1, a2, c2, rfl, hs1, hs2, hx⟩ | ⟨hg, rfl⟩, hbel⟩
  · have g3 : w1.heap[B3]? = some (.cells #[.slice none 0 0] 123 (0, 0)) := by rw [hbel.block _ b3]; exact H3.out
    have g4 : w1.heap[B4]? = some (.cells #[.slice none 0 0] 36 (0, 0)) := by rw [hbel.block _ b4]; exact H4.out
    obtain ⟨c3, f3⟩ := cell_of_heap g3
    obtain ⟨c4, f4⟩ := cell_of_heap g4
    have c4' : ∀ u, (w1.setCell ⟨B3, 0, none⟩ u).cell? ⟨B4, 0, none⟩ = some (.slice none 0 0) := fun u => by
      rw [World.cell?_setCell_other _ _ _ _ (by intro e; injection e with e; exact hne e)]; exact c4
    have G3 := hide g3
    have G4 := hide g4
    have HG := hide hg
    have HB := hide hbel
    have HS1 := hide hs1
    have HS2 := hide hs2
    have HX := hide hx
    clear hs1 hs2 hx
    clear g3 g4 hg hbel
    go_wp2
    go_end0
    have g4' : ∀ u, (w1.setCell ⟨B3, 0, none⟩ u).heap[B4]? = some (.cells #[.slice none 0 0] 36 (0, 0)) := fun u => by rw [Below.heap_setCell _ _ _ _ (show B4 ≠ B3 from fun e => HN.out e.symm)]; exact G4.out
    have g3' : ∀ u v, ((w1.setCell ⟨B3, 0, none⟩ u).setCell ⟨B4, 0, none⟩ v).heap[B3]? = some (.cells #[u] 123 (0, 0)) := fun u v => by
      rw [Below.heap_setCell _ _ _ _ (show B3 ≠ B4 from HN.out)]; exact heap_setCell_one G3.out _
    refine ⟨.inl ⟨HG.out, rfl⟩, ⟨_, _, g3' _ _, heap_setCell_one (g4' _) _, ?_⟩, Kept.setCell (Kept.setCell (Kept.mono (Kept.of_below HB.out (fun _ => False)) (fun _ hx => hx.elim)) (.inl (.inl rfl)) _) (.inl (.inr (.inl rfl))) _⟩
    exact IntsAns.good HG.out ((HS1.out.set G3.out (by simp) _).set (g4' _) (by simp) _) HX.out ((HS2.out.set G3.out (by simp) _).set (g4' _) (by simp) _)
  · have g3 : w1.heap[B3]? = some (.cells #[.slice none 0 0] 123 (0, 0)) := by rw [hbel.block _ b3]; exact H3.out
    have g4 : w1.heap[B4]? = some (.cells #[.slice none 0 0] 36 (0, 0)) := by rw [hbel.block _ b4]; exact H4.out
    have G3 := hide g3
    have G4 := hide g4
    have HG := hide hg
    have HB := hide hbel
    clear hg g3 g4 hbel
    unfold pan
    go_wp2
    exact ⟨rfl, .inr ⟨HG.out, rfl⟩, ⟨_, _, G3.out, G4.out, IntsAns.bad HG.out⟩, Kept.of_below HB.out _⟩

theorem Try.enterToIntsC (args : Array Value) (w : World) : (callFunc 108 args).run Try.prog w = .ok (.enter 108 args) w :=
  enter_fn Try.func108 (by decide +kernel) rfl args w

set_option maxHeartbeats 1000000 in
/-- ToInts. -/
theorem toints_anyN (ao : Option Addr) (len cap : Nat) (l : List Nat) (n : Int) (w : World) (h : Sl w .u8 ao len cap (ints l)) (h256 : ∀ x ∈ l, x < 256) (hm : len ≤ 140737488355328 ∧ (len ≤ 1099511627776 ∨ n ≤ 1099511627776)) (hn0 : -9223372036854775808 ≤ n) (hn1 : n < 9223372036854775808) :
    Calls Try.prog 105 #[.slice ao len cap, .int .i64 n] w fun e w' => ∃ v1 v2, e = .returned (.tuple #[v1, v2, .int .i64 ((E.iE n l : Nat) : Int)]) ∧ IntsAns n l w.heap.size w' v1 v2 ∧ Below w.heap.size w w' := by
  have hmf : ∀ (fn : Fn) (first cap : Array Value) (w : World), (Instr.makeFunc fn first cap).run Try.prog w = .ok (.func fn first cap) w := fun _ _ _ _ => rfl
  go_enter Try.func105, Try.ntmps105
  go_wp2_with fail
  refine (caught_any 108 _ _ (fun er w1 => er = ((E.iE n l : Nat) : Int) ∧ (∃ v1 v2, w1.heap[w.heap.size + 1 + 1]? = some (.cells #[v1] 123 (0, 0)) ∧ w1.heap[w.heap.size + 1 + 1 + 1]? = some (.cells #[v2] 36 (0, 0)) ∧ w1.heap[w.heap.size + 1 + 1 + 1 + 1]? = some (.cells #[.int .i64 0] 28 (0, 0)) ∧ IntsAns n l (w.heap.size + 1 + 1 + 1 + 1 + 1) w1 v1 v2) ∧ Below w.heap.size w w1) (Try.enterToIntsC _) ?h).mono ?_
  case h =>
    have b1 := heap_alloc_new w (.cells #[.slice ao len cap] 36)
    have b2 := heap_alloc_new (w.alloc (.cells #[.slice ao len cap] 36)) (.cells #[.int .i64 n] 3)
    have b3 := heap_alloc_new ((w.alloc (.cells #[.slice ao len cap] 36)).alloc (.cells #[.int .i64 n] 3)) (.cells #[.slice none 0 0] 123)
    have b4 := heap_alloc_new (((w.alloc (.cells #[.slice ao len cap] 36)).alloc (.cells #[.int .i64 n] 3)).alloc (.cells #[.slice none 0 0] 123)) (.cells #[.slice none 0 0] 36)
    have b5 := heap_alloc_new ((((w.alloc (.cells #[.slice ao len cap] 36)).alloc (.cells #[.int .i64 n] 3)).alloc (.cells #[.slice none 0 0] 123)).alloc (.cells #[.slice none 0 0] 36)) (.cells #[.int .i64 0] 28)
    have hbel : Below w.heap.size w (((((w.alloc (.cells #[.slice ao len cap] 36)).alloc (.cells #[.int .i64 n] 3)).alloc (.cells #[.slice none 0 0] 123)).alloc (.cells #[.slice none 0 0] 36)).alloc (.cells #[.int .i64 0] 28)) :=
      (((((Below.refl _ _).alloc (Nat.le_refl _) _).alloc (by simp) _).alloc (by simp; omega) _).alloc (by simp; omega) _).alloc (by simp; omega) _
    simp only [World.size_alloc] at b2 b3 b4 b5
    refine (tointsc_any _ _ _ _ ao len cap l n _ (heap_alloc_keep _ (heap_alloc_keep _ (heap_alloc_keep _ (heap_alloc_keep _ b1)))) (heap_alloc_keep _ (heap_alloc_keep _ (heap_alloc_keep _ b2))) (heap_alloc_keep _ (heap_alloc_keep _ b3)) (heap_alloc_keep _ b4) (by omega) (h.below hbel) h256 hm hn0 hn1).mono ?_
    rintro e w1 ⟨he, ⟨v1, v2, e1, e2, e3⟩, hk⟩
    have g5 : w1.heap[w.heap.size + 1 + 1 + 1 + 1]? = some (.cells #[.int .i64 0] 28 (0, 0)) := by
      rw [hk.block _ (by simp) (by simp; omega)]
      exact b5
    refine ⟨((E.iE n l : Nat) : Int), ?_, by simp only [World.size_alloc]; exact g5, rfl, ⟨v1, v2, e1, e2, g5, e3.base (by simp only [World.size_alloc]; omega)⟩, hbel.trans (hk.below (by simp; omega) (by intro k hk; simp at hk; omega))⟩
    rcases he with ⟨h0, he⟩ | ⟨h0, he⟩
    · exact .inl ⟨by rw [h0]; rfl, he⟩
    · exact .inr ⟨by omega, he⟩
  rintro e w2 ⟨er, w1, ⟨her, ⟨v1, v2, hb1, hb2, hb5, hans⟩, hbel⟩, rfl, rfl⟩
  simp only [World.size_alloc]
  have s2 : (w1.setCell ⟨w.heap.size + 1 + 1 + 1 + 1, 0, none⟩ (.int .i64 er)).heap[w.heap.size + 1 + 1]? = some (.cells #[v1] 123 (0, 0)) := by rw [Below.heap_setCell _ _ _ _ (by show _ ≠ w.heap.size + 1 + 1 + 1 + 1; omega)]; exact hb1
  have s3 : (w1.setCell ⟨w.heap.size + 1 + 1 + 1 + 1, 0, none⟩ (.int .i64 er)).heap[w.heap.size + 1 + 1 + 1]? = some (.cells #[v2] 36 (0, 0)) := by rw [Below.heap_setCell _ _ _ _ (by show _ ≠ w.heap.size + 1 + 1 + 1 + 1; omega)]; exact hb2
  have hans2 := hans.keptE hb5 (by omega) (.int .i64 er)
  have hbel2 := hbel.setCell (p := ⟨w.heap.size + 1 + 1 + 1 + 1, 0, none⟩) (by show w.heap.size ≤ w.heap.size + 1 + 1 + 1 + 1; omega) (.int .i64 er)
  have HB := hide hbel2
  have HE := hide her
  obtain ⟨w3, hw3⟩ : ∃ w3, w1.setCell ⟨w.heap.size + 1 + 1 + 1 + 1, 0, none⟩ (.int .i64 er) = w3 := ⟨_, rfl⟩
  rw [hw3] at s2 s3 HB hans2 ⊢
  obtain ⟨c2, f2⟩ := cell_of_heap s2
  obtain ⟨c3, f3⟩ := cell_of_heap s3
  have c3' : ∀ u, (w3.setCell ⟨w.heap.size + 1 + 1, 0, none⟩ u).cell? ⟨w.heap.size + 1 + 1 + 1, 0, none⟩ = some v2 := fun u => by
    rw [World.cell?_setCell_other _ _ _ _ (by intro e; injection e with e; omega)]; exact c3
  have f3' : ∀ u, (w3.setCell ⟨w.heap.size + 1 + 1, 0, none⟩ u).frozen? ⟨w.heap.size + 1 + 1 + 1, 0, none⟩ = false := fun u => by
    rw [World.frozen?_setCell]; exact f3
  have HA := hide hans2
  have S2 := hide s2
  have S3 := hide s3
  obtain ⟨a1, l1, cc1, a2, l2, cc2, hv1, hv2⟩ := hans.shape
  subst hv1 hv2
  clear hbel2 hbel hb1 hb2 hb5 her hw3 s2 s3 h h256 hans hans2
  go_wp2
  go_region
  go_wp2
  have c2' : ∀ u v, ((w3.setCell ⟨w.heap.size + 1 + 1, 0, none⟩ u).setCell ⟨w.heap.size + 1 + 1 + 1, 0, none⟩ v).cell? ⟨w.heap.size + 1 + 1, 0, none⟩ = some u := fun u v => by
    rw [World.cell?_setCell_other _ _ _ _ (by intro e; injection e with e; omega)]; simp [World.cell?_setCell_same, c2]
  have c4' : ∀ u v, ((w3.setCell ⟨w.heap.size + 1 + 1, 0, none⟩ u).setCell ⟨w.heap.size + 1 + 1 + 1, 0, none⟩ v).cell? ⟨w.heap.size + 1 + 1 + 1, 0, none⟩ = some v := fun u v => by
    simp [World.cell?_setCell_same, c3']
  refine bodyPost_ret (v := .tuple #[.slice a1 l1 cc1, .slice a2 l2 cc2, .int .i64 er]) (by simp [results, Try.results105, go_sem, c2', c4']) rfl ⟨_, _, by rw [HE.out], ?_, ?_⟩
  · exact (HA.out.keptS S2.out S3.out (by omega)).base (by omega)
  · exact (((HB.out.setCell (p := ⟨w.heap.size + 1 + 1, 0, none⟩) (by show w.heap.size ≤ w.heap.size + 1 + 1; omega) _).setCell (p := ⟨w.heap.size + 1 + 1 + 1, 0, none⟩) (by show w.heap.size ≤ w.heap.size + 1 + 1 + 1; omega) _)).drew
/-- The same, where all bytes could be numbers. -/
theorem toints_any (ao : Option Addr) (len cap : Nat) (l : List Nat) (n : Int) (w : World) (h : Sl w .u8 ao len cap (ints l)) (h256 : ∀ x ∈ l, x < 256) (hm : len ≤ 1099511627776) (hn0 : -9223372036854775808 ≤ n) (hn1 : n < 9223372036854775808) :
    Calls Try.prog 105 #[.slice ao len cap, .int .i64 n] w fun e w' => ∃ v1 v2, e = .returned (.tuple #[v1, v2, .int .i64 ((E.iE n l : Nat) : Int)]) ∧ IntsAns n l w.heap.size w' v1 v2 ∧ Below w.heap.size w w' :=
  toints_anyN ao len cap l n w h h256 ⟨by omega, .inl hm⟩ hn0 hn1
end Go.Proofs.Ytmhfpipeoojacaa
/- The contracts of Ints, Text; the reference's Same; the statements' own head: 'shown'. -/
namespace Go.Proofs.Ytmhfpipeoojacaa
set_option linter.unusedVariables false
open Go.RowKit

theorem take_snocI (l : List Int) (k : Nat) (h : k < l.length) : l.take (k + 1) = l.take k ++ [l.getD k 0] := by
  rw [List.take_succ_eq_append_getElem h]; simp [List.getD, h]
theorem In_getD {l : List Int} (h : E.In l) (j : Nat) : -9223372036854775808 ≤ l.getD j 0 ∧ l.getD j 0 < 9223372036854775808 := by
  by_cases hj : j < l.length
  · have : l.getD j 0 = l[j] := by simp [List.getD, hj]
    rw [this]; exact h _ (List.getElem_mem hj)
  · simp [List.getD, hj]
theorem In_take {l : List Int} (h : E.In l) (j : Nat) : E.In (l.take j) := fun x hx => h x (List.mem_of_mem_take hx)
theorem lebs_take_le (l : List Int) (h : E.In l) (j : Nat) : (E.lebs (l.take j)).length ≤ 10 * l.length := by
  have h1 := E.lebs_le (l.take j) (In_take h j)
  have h2 : (l.take j).length ≤ l.length := by simp; omega
  omega

/-- A text's bytes. -/
def sb (s : ByteArray) : List Nat := s.data.toList.map UInt8.toNat
theorem sb_length (s : ByteArray) : (sb s).length = s.size := by simp [sb]
theorem sb_lt (s : ByteArray) : ∀ x ∈ sb s, x < 256 := by
  intro x hx
  obtain ⟨y, _, rfl⟩ := List.mem_map.1 hx
  exact y.toNat_lt
theorem strCells_sb (s : ByteArray) : Lib.strCells s = B8 (sb s) := by
  simp [Lib.strCells, B8, sb]

/-- Text. -/
theorem text_any (s : ByteArray) (w : World) (hs : s.size + 10 ≤ 140737488355328) :
    Calls Try.prog 71 #[.string s] w fun e w' => ∃ v, e = .returned v ∧ w'.ownsRow w.heap.size 5 1 v (E.leb s.size ++ sb s).length (B8 (E.leb s.size ++ sb s)) ∧ Below w.heap.size w w' := by
  obtain ⟨i0, hi, hz0, hz1, hz2⟩ := info_parts Try.infoU8
  have hl := E.leb_ten s.size (by omega)
  go_enter Try.func71, Try.ntmps71
  go_wp2_with fail
  refine (put_any _ w (by omega) (by omega)).mono ?_
  rintro e w1 ⟨v1, rfl, ho1, hb1⟩
  rw [Int.toNat_natCast] at ho1
  go_wp2_with (at_builtin; refine Lib.wpList_append_own_string w1 rfl _ _ 36 9 rfl w.heap.size 5 i0 Try.underlying36 Try.underlying9 hi hz0 hz1 hz2 _ _ _ rfl ho1 s rfl ?c1 ?c2 ?c3 ?_)
  case c1 => unfold maxLen; omega
  case c2 => omega
  case c3 => exact hb1.size
  intro v2 w2 ho2 hg2 _
  go_wp2
  go_ret
  refine ⟨v2, rfl, ?_, hb1.trans ?_⟩
  · rw [B8_append, List.length_append, sb_length, ← strCells_sb]; exact ho2
  · exact (((Kept.refl (fun k => w.heap.size ≤ k) w1).grown hg2 (fun k hk => .inl (owns_lt ho1 hk).1))).below hb1.size (fun k hk => hk)
theorem Sl.four (w : World) (t : TypeId) (fr : Nat × Nat) (a b c d : Int) : Sl (w.alloc (.cells #[.int .u8 a, .int .u8 b, .int .u8 c, .int .u8 d] t fr)) .u8 (some ⟨w.heap.size, 0, none⟩) 4 4 [a, b, c, d] := by
  have hb := heap_alloc_new w (.cells #[.int .u8 a, .int .u8 b, .int .u8 c, .int .u8 d] t fr)
  refine ⟨rfl, Nat.le_refl _, by decide, by simp, .inr ⟨_, _, rfl, by simp, ?_⟩⟩
  intro i hi
  generalize w.alloc (.cells #[.int .u8 a, .int .u8 b, .int .u8 c, .int .u8 d] t fr) = w' at hb
  match i, hi with
  | 0, _ => simp [World.cell?, hb]
  | 1, _ => simp [World.cell?, hb]
  | 2, _ => simp [World.cell?, hb]
  | 3, _ => simp [World.cell?, hb]
theorem leb_300 : E.leb 300 = [172, 2] := by rw [E.leb_big _ (by omega), E.leb_small _ (by omega)]
theorem str_300 : strOfNums (ints [172, 2]) = ⟨#[172, 2]⟩ := by decide
theorem xE_abc : E.xE 9 [2, 97, 98, 99] = 0 := by decide
theorem yS_abc : strOfNums (ints (E.yS 9 [2, 97, 98, 99])) = ⟨#[97, 98]⟩ := by decide
theorem yR_abc : E.yR 9 [2, 97, 98, 99] = [99] := by decide
theorem str_99 : strOfNums (ints [99]) = ⟨#[99]⟩ := by decide
theorem zig_1 : E.zig (-1) = 1 := by decide

end Go.Proofs.Ytmhfpipeoojacaa

/- The contract of leb's ToText. -/
import Derived.Test.YtahpbenobhodnaaY
namespace Go.Proofs.Ytahpbenobhodnaa
set_option linter.unusedVariables false
open Go.RowKit

set_option maxHeartbeats 400000 in
theorem totextc_any (B1 B2 B3 B4 : Nat) (ao : Option Addr) (len cap : Nat) (l : List Nat) (n : Int) (w : World) (h1 : w.heap[B1]? = some (.cells #[.slice ao len cap] 24 (0, 0))) (h2 : w.heap[B2]? = some (.cells #[.int .i64 n] 3 (0, 0))) (h3 : w.heap[B3]? = some (.cells #[.string ⟨#[]⟩] 9 (0, 0))) (h4 : w.heap[B4]? = some (.cells #[.slice none 0 0] 24 (0, 0))) (hne : B3 ≠ B4)
    (h : Sl w .u8 ao len cap (ints l)) (h256 : ∀ x ∈ l, x < 256) (hm : len ≤ 140737488355328) (hn0 : -9223372036854775808 ≤ n) (hn1 : n < 9223372036854775808) :
    Calls Try.prog 57 #[.pointer (some ⟨B1, 0, none⟩), .pointer (some ⟨B2, 0, none⟩), .pointer (some ⟨B3, 0, none⟩), .pointer (some ⟨B4, 0, none⟩)] w fun e w' =>
      ((E.xE n l = 0 ∧ e = .returned (.tuple #[])) ∨ (E.xE n l ≠ 0 ∧ e = pan ((E.xE n l : Nat) : Int))) ∧ (∃ v1 v2, w'.heap[B3]? = some (.cells #[v1] 9 (0, 0)) ∧ w'.heap[B4]? = some (.cells #[v2] 24 (0, 0)) ∧ TextAns n l w.heap.size w' v1 v2) ∧ Kept (fun k => k = B3 ∨ k = B4 ∨ w.heap.size ≤ k) w w' := by
  obtain ⟨c1, f1⟩ := cell_of_heap h1
  obtain ⟨c2, f2⟩ := cell_of_heap h2
  have H3 := hide h3
  have H4 := hide h4
  have HN := hide hne
  have b3 := lt_of_block h3
  have b4 := lt_of_block h4
  clear h1 h2 h3 h4
  go_enter Try.func57, Try.ntmps57
  go_wp2_with fail
  refine (totext_in _ _ _ l _ _ h h256 hm hn0 hn1).mono ?_
  rintro e w1 ⟨⟨hg, a2, c2, rfl, hs2⟩ | ⟨hg, rfl⟩, hbel⟩
  · have g3 : w1.heap[B3]? = some (.cells #[.string ⟨#[]⟩] 9 (0, 0)) := by rw [hbel.block _ b3]; exact H3.out
    have g4 : w1.heap[B4]? = some (.cells #[.slice none 0 0] 24 (0, 0)) := by rw [hbel.block _ b4]; exact H4.out
    obtain ⟨c3, f3⟩ := cell_of_heap g3
    obtain ⟨c4, f4⟩ := cell_of_heap g4
    have c4' : ∀ u, (w1.setCell ⟨B3, 0, none⟩ u).cell? ⟨B4, 0, none⟩ = some (.slice none 0 0) := fun u => by
      rw [World.cell?_setCell_other _ _ _ _ (by intro e; injection e with e; exact hne e)]; exact c4
    have G3 := hide g3
    have G4 := hide g4
    have HG := hide hg
    have HB := hide hbel
    have HS2 := hide hs2
    clear hs2
    clear g3 g4 hg hbel
    go_wp2
    go_end0
    have g4' : ∀ u, (w1.setCell ⟨B3, 0, none⟩ u).heap[B4]? = some (.cells #[.slice none 0 0] 24 (0, 0)) := fun u => by rw [Below.heap_setCell _ _ _ _ (show B4 ≠ B3 from fun e => HN.out e.symm)]; exact G4.out
    have g3' : ∀ u v, ((w1.setCell ⟨B3, 0, none⟩ u).setCell ⟨B4, 0, none⟩ v).heap[B3]? = some (.cells #[u] 9 (0, 0)) := fun u v => by
      rw [Below.heap_setCell _ _ _ _ (show B3 ≠ B4 from HN.out)]; exact heap_setCell_one G3.out _
    refine ⟨.inl ⟨HG.out, rfl⟩, ⟨_, _, g3' _ _, heap_setCell_one (g4' _) _, ?_⟩, Kept.setCell (Kept.setCell (Kept.mono (Kept.of_below HB.out (fun _ => False)) (fun _ hx => hx.elim)) (.inl (.inl rfl)) _) (.inl (.inr (.inl rfl))) _⟩
    exact TextAns.good HG.out ((HS2.out.set G3.out (by simp) _).set (g4' _) (by simp) _)
  · have g3 : w1.heap[B3]? = some (.cells #[.string ⟨#[]⟩] 9 (0, 0)) := by rw [hbel.block _ b3]; exact H3.out
    have g4 : w1.heap[B4]? = some (.cells #[.slice none 0 0] 24 (0, 0)) := by rw [hbel.block _ b4]; exact H4.out
    have G3 := hide g3
    have G4 := hide g4
    have HG := hide hg
    have HB := hide hbel
    clear hg g3 g4 hbel
    unfold pan
    go_wp2
    exact ⟨rfl, .inr ⟨HG.out, rfl⟩, ⟨_, _, G3.out, G4.out, TextAns.bad HG.out⟩, Kept.of_below HB.out _⟩

theorem Try.enterToTextC (args : Array Value) (w : World) : (callFunc 57 args).run Try.prog w = .ok (.enter 57 args) w :=
  enter_fn Try.func57 (by decide +kernel) rfl args w

set_option maxHeartbeats 1000000 in
/-- ToText. -/
theorem totext_any (ao : Option Addr) (len cap : Nat) (l : List Nat) (n : Int) (w : World) (h : Sl w .u8 ao len cap (ints l)) (h256 : ∀ x ∈ l, x < 256) (hm : len ≤ 140737488355328) (hn0 : -9223372036854775808 ≤ n) (hn1 : n < 9223372036854775808) :
    Calls Try.prog 48 #[.slice ao len cap, .int .i64 n] w fun e w' => ∃ v1 v2, e = .returned (.tuple #[v1, v2, .int .i64 ((E.xE n l : Nat) : Int)]) ∧ TextAns n l w.heap.size w' v1 v2 ∧ Below w.heap.size w w' := by
  have hmf : ∀ (fn : Fn) (first cap : Array Value) (w : World), (Instr.makeFunc fn first cap).run Try.prog w = .ok (.func fn first cap) w := fun _ _ _ _ => rfl
  go_enter Try.func48, Try.ntmps48
  go_wp2_with fail
  refine (caught_any 57 _ _ (fun er w1 => er = ((E.xE n l : Nat) : Int) ∧ (∃ v1 v2, w1.heap[w.heap.size + 1 + 1]? = some (.cells #[v1] 9 (0, 0)) ∧ w1.heap[w.heap.size + 1 + 1 + 1]? = some (.cells #[v2] 24 (0, 0)) ∧ w1.heap[w.heap.size + 1 + 1 + 1 + 1]? = some (.cells #[.int .i64 0] 26 (0, 0)) ∧ TextAns n l (w.heap.size + 1 + 1 + 1 + 1 + 1) w1 v1 v2) ∧ Below w.heap.size w w1) (Try.enterToTextC _) ?h).mono ?_
  case h =>
    have b1 := heap_alloc_new w (.cells #[.slice ao len cap] 24)
    have b2 := heap_alloc_new (w.alloc (.cells #[.slice ao len cap] 24)) (.cells #[.int .i64 n] 3)
    have b3 := heap_alloc_new ((w.alloc (.cells #[.slice ao len cap] 24)).alloc (.cells #[.int .i64 n] 3)) (.cells #[.string ⟨#[]⟩] 9)
    have b4 := heap_alloc_new (((w.alloc (.cells #[.slice ao len cap] 24)).alloc (.cells #[.int .i64 n] 3)).alloc (.cells #[.string ⟨#[]⟩] 9)) (.cells #[.slice none 0 0] 24)
    have b5 := heap_alloc_new ((((w.alloc (.cells #[.slice ao len cap] 24)).alloc (.cells #[.int .i64 n] 3)).alloc (.cells #[.string ⟨#[]⟩] 9)).alloc (.cells #[.slice none 0 0] 24)) (.cells #[.int .i64 0] 26)
    have hbel : Below w.heap.size w (((((w.alloc (.cells #[.slice ao len cap] 24)).alloc (.cells #[.int .i64 n] 3)).alloc (.cells #[.string ⟨#[]⟩] 9)).alloc (.cells #[.slice none 0 0] 24)).alloc (.cells #[.int .i64 0] 26)) :=
      (((((Below.refl _ _).alloc (Nat.le_refl _) _).alloc (by simp) _).alloc (by simp; omega) _).alloc (by simp; omega) _).alloc (by simp; omega) _
    simp only [World.size_alloc] at b2 b3 b4 b5
    refine (totextc_any _ _ _ _ ao len cap l n _ (heap_alloc_keep _ (heap_alloc_keep _ (heap_alloc_keep _ (heap_alloc_keep _ b1)))) (heap_alloc_keep _ (heap_alloc_keep _ (heap_alloc_keep _ b2))) (heap_alloc_keep _ (heap_alloc_keep _ b3)) (heap_alloc_keep _ b4) (by omega) (h.below hbel) h256 hm hn0 hn1).mono ?_
    rintro e w1 ⟨he, ⟨v1, v2, e1, e2, e3⟩, hk⟩
    have g5 : w1.heap[w.heap.size + 1 + 1 + 1 + 1]? = some (.cells #[.int .i64 0] 26 (0, 0)) := by
      rw [hk.block _ (by simp) (by simp; omega)]
      exact b5
    refine ⟨((E.xE n l : Nat) : Int), ?_, by simp only [World.size_alloc]; exact g5, rfl, ⟨v1, v2, e1, e2, g5, e3.base (by simp only [World.size_alloc]; omega)⟩, hbel.trans (hk.below (by simp; omega) (by intro k hk; simp at hk; omega))⟩
    rcases he with ⟨h0, he⟩ | ⟨h0, he⟩
    · exact .inl ⟨by rw [h0]; rfl, he⟩
    · exact .inr ⟨by omega, he⟩
  rintro e w2 ⟨er, w1, ⟨her, ⟨v1, v2, hb1, hb2, hb5, hans⟩, hbel⟩, rfl, rfl⟩
  simp only [World.size_alloc]
  have s2 : (w1.setCell ⟨w.heap.size + 1 + 1 + 1 + 1, 0, none⟩ (.int .i64 er)).heap[w.heap.size + 1 + 1]? = some (.cells #[v1] 9 (0, 0)) := by rw [Below.heap_setCell _ _ _ _ (by show _ ≠ w.heap.size + 1 + 1 + 1 + 1; omega)]; exact hb1
  have s3 : (w1.setCell ⟨w.heap.size + 1 + 1 + 1 + 1, 0, none⟩ (.int .i64 er)).heap[w.heap.size + 1 + 1 + 1]? = some (.cells #[v2] 24 (0, 0)) := by rw [Below.heap_setCell _ _ _ _ (by show _ ≠ w.heap.size + 1 + 1 + 1 + 1; omega)]; exact hb2
  have hans2 := hans.keptE hb5 (by omega) (.int .i64 er)
  have hbel2 := hbel.setCell (p := ⟨w.heap.size + 1 + 1 + 1 + 1, 0, none⟩) (by show w.heap.size ≤ w.heap.size + 1 + 1 + 1 + 1; omega) (.int .i64 er)
  have HB := hide hbel2
  have HE := hide her
  obtain ⟨w3, hw3⟩ : ∃ w3, w1.setCell ⟨w.heap.size + 1 + 1 + 1 + 1, 0, none⟩ (.int .i64 er) = w3 := ⟨_, rfl⟩
  rw [hw3] at s2 s3 HB hans2 ⊢
  obtain ⟨c2, f2⟩ := cell_of_heap s2
  obtain ⟨c3, f3⟩ := cell_of_heap s3
  have c3' : ∀ u, (w3.setCell ⟨w.heap.size + 1 + 1, 0, none⟩ u).cell? ⟨w.heap.size + 1 + 1 + 1, 0, none⟩ = some v2 := fun u => by
    rw [World.cell?_setCell_other _ _ _ _ (by intro e; injection e with e; omega)]; exact c3
  have f3' : ∀ u, (w3.setCell ⟨w.heap.size + 1 + 1, 0, none⟩ u).frozen? ⟨w.heap.size + 1 + 1 + 1, 0, none⟩ = false := fun u => by
    rw [World.frozen?_setCell]; exact f3
  have HA := hide hans2
  have S2 := hide s2
  have S3 := hide s3
  obtain ⟨x1, a2, l2, cc2, hv1, hv2⟩ := hans.shape
  subst hv1 hv2
  clear hbel2 hbel hb1 hb2 hb5 her hw3 s2 s3 h h256 hans hans2
  go_wp2
  go_region
  go_wp2
  have c2' : ∀ u v, ((w3.setCell ⟨w.heap.size + 1 + 1, 0, none⟩ u).setCell ⟨w.heap.size + 1 + 1 + 1, 0, none⟩ v).cell? ⟨w.heap.size + 1 + 1, 0, none⟩ = some u := fun u v => by
    rw [World.cell?_setCell_other _ _ _ _ (by intro e; injection e with e; omega)]; simp [World.cell?_setCell_same, c2]
  have c4' : ∀ u v, ((w3.setCell ⟨w.heap.size + 1 + 1, 0, none⟩ u).setCell ⟨w.heap.size + 1 + 1 + 1, 0, none⟩ v).cell? ⟨w.heap.size + 1 + 1 + 1, 0, none⟩ = some v := fun u v => by
    simp [World.cell?_setCell_same, c3']
  refine bodyPost_ret (v := .tuple #[.string x1, .slice a2 l2 cc2, .int .i64 er]) (by simp [results, Try.results48, go_sem, c2', c4']) rfl ⟨_, _, by rw [HE.out], ?_, ?_⟩
  · exact (HA.out.keptS S2.out S3.out (by omega)).base (by omega)
  · exact (((HB.out.setCell (p := ⟨w.heap.size + 1 + 1, 0, none⟩) (by show w.heap.size ≤ w.heap.size + 1 + 1; omega) _).setCell (p := ⟨w.heap.size + 1 + 1 + 1, 0, none⟩) (by show w.heap.size ≤ w.heap.size + 1 + 1 + 1; omega) _)).drew
end Go.Proofs.Ytahpbenobhodnaa

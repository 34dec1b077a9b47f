/- Questions of two sets: both, either, not. -/
import Derived.Test.YtlbchdlokimpfaaBH
namespace Go.Proofs.Ytlbchdlokimpfaa
set_option linter.unusedVariables false
set_option maxRecDepth 10000
open Go.RowKit

/-- Two function values in boxes. -/
theorem two_boxes (w : World) (x y : Value) (t : TypeId) : ((w.alloc (.cells #[x] t)).alloc (.cells #[y] t)).cell? ⟨w.heap.size, 0, none⟩ = some x ∧ ((w.alloc (.cells #[x] t)).alloc (.cells #[y] t)).cell? ⟨w.heap.size + 1, 0, none⟩ = some y ∧ Below w.heap.size w ((w.alloc (.cells #[x] t)).alloc (.cells #[y] t)) ∧ ((w.alloc (.cells #[x] t)).alloc (.cells #[y] t)).heap.size = w.heap.size + 2 := by
  refine ⟨((Boxed.new w t x).alloc _).cell, ?_, bthen (below_one w _) (below_one _ _), by simp⟩
  have := (Boxed.new (w.alloc (.cells #[x] t)) t y).cell
  rwa [World.size_alloc] at this
theorem both_any (f g : Fn) (bd cp bd2 cp2 : Array Value) (w : World) :
    Calls Try.prog 43 #[.func f bd cp, .func g bd2 cp2] w fun e w' => e = .returned (.func (.func 50) #[] #[.pointer (some ⟨w.heap.size, 0, none⟩), .pointer (some ⟨w.heap.size + 1, 0, none⟩)]) ∧ w' = (w.alloc (.cells #[.func f bd cp] 55)).alloc (.cells #[.func g bd2 cp2] 55) := by
  go_enter Try.func43, Try.ntmps43
  go_wp2_with fail
  go_ret
  exact ⟨rfl, rfl⟩
set_option maxHeartbeats 1000000 in
theorem both_asks {f g : Nat → Bool} {n : Nat} {v1 v2 : Value} {w : World} (h1 : Asks v1 w f n) (h2 : Asks v2 w g n) (hn : n ≤ 4096) :
    Asks (.func (.func 50) #[] #[.pointer (some ⟨w.heap.size, 0, none⟩), .pointer (some ⟨w.heap.size + 1, 0, none⟩)]) ((w.alloc (.cells #[v1] 55)).alloc (.cells #[v2] 55)) (fun k => f k && g k) n := by
  obtain ⟨g1, bd1, cp1, rfl, he1, hs1⟩ := h1
  obtain ⟨g2, bd2, cp2, rfl, he2, hs2⟩ := h2
  obtain ⟨c1, c2, hb, hsz⟩ := two_boxes w (.func (.func g1) bd1 cp1) (.func (.func g2) bd2 cp2) 55
  refine ⟨_, _, _, rfl, enters_of Try.func50 (by kernel_rfl) rfl, fun W hW k hk => ?_⟩
  obtain ⟨w2, hw2⟩ : ∃ w2, (w.alloc (.cells #[.func (.func g1) bd1 cp1] 55)).alloc (.cells #[.func (.func g2) bd2 cp2] 55) = w2 := ⟨_, rfl⟩
  rw [hw2] at c1 c2 hb hsz hW
  have d1 : W.cell? ⟨w.heap.size, 0, none⟩ = some (.func (.func g1) bd1 cp1) := by rw [hW.cell (p := ⟨w.heap.size, 0, none⟩) (by simp; omega)]; exact c1
  have D2 : Hid (∀ W', Below W.heap.size W W' → W'.cell? ⟨w.heap.size + 1, 0, none⟩ = some (.func (.func g2) bd2 cp2)) := fun W' h => by
    have := hW.size
    rw [h.cell (p := ⟨w.heap.size + 1, 0, none⟩) (by simp; omega), hW.cell (p := ⟨w.heap.size + 1, 0, none⟩) (by simp; omega)]; exact c2
  have hwW : Below w.heap.size w W := hb.trans (hW.mono hb.size)
  have H1 := hide (hs1 W hwW k hk)
  have H2 := hide (show ∀ W', Below W.heap.size W W' → Calls Try.prog g2 (bd2.push (Value.int .i64 (k : Int)) ++ cp2) W' fun e W'' => e = .returned (.bool (g k)) ∧ Below W'.heap.size W' W'' from fun W' h => hs2 W' (hwW.trans (h.mono hwW.size)) k hk)
  have hk2 : (k : Int) < 4096 := by omega
  show Calls Try.prog 50 #[.int .i64 (k : Int), .pointer (some ⟨w.heap.size, 0, none⟩), .pointer (some ⟨w.heap.size + 1, 0, none⟩)] W fun e W' => e = .returned (.bool (f k && g k)) ∧ Below W.heap.size W W'
  obtain ⟨x, hx⟩ : ∃ x, f k = x := ⟨_, rfl⟩
  rw [hx] at H1 ⊢
  clear hs1 hs2 hw2 hb hW c1 c2 hwW hx hk hsz
  cases x with
  | false =>
    go_enter Try.func50, Try.ntmps50
    go_wp2_with fail
    refine H1.out.mono ?_
    rintro e w3 ⟨rfl, hb3⟩
    have HB3 := hide hb3
    clear hb3 d1
    go_wp2
    go_ret
    exact ⟨rfl, HB3.out⟩
  | true =>
    go_enter Try.func50, Try.ntmps50
    go_wp2_with fail
    refine H1.out.mono ?_
    rintro e w3 ⟨rfl, hb3⟩
    have d2 := D2.out w3 hb3
    have HB3 := hide hb3
    clear hb3 d1
    go_wp2_with fail
    refine (H2.out w3 HB3.out).mono ?_
    rintro e w4 ⟨rfl, hb4⟩
    have HB4 := hide (bthen HB3.out hb4)
    clear hb4 d2
    go_wp2
    go_ret
    exact ⟨rfl, HB4.out⟩
theorem either_any (f g : Fn) (bd cp bd2 cp2 : Array Value) (w : World) :
    Calls Try.prog 44 #[.func f bd cp, .func g bd2 cp2] w fun e w' => e = .returned (.func (.func 51) #[] #[.pointer (some ⟨w.heap.size, 0, none⟩), .pointer (some ⟨w.heap.size + 1, 0, none⟩)]) ∧ w' = (w.alloc (.cells #[.func f bd cp] 55)).alloc (.cells #[.func g bd2 cp2] 55) := by
  go_enter Try.func44, Try.ntmps44
  go_wp2_with fail
  go_ret
  exact ⟨rfl, rfl⟩
set_option maxHeartbeats 1000000 in
theorem either_asks {f g : Nat → Bool} {n : Nat} {v1 v2 : Value} {w : World} (h1 : Asks v1 w f n) (h2 : Asks v2 w g n) (hn : n ≤ 4096) :
    Asks (.func (.func 51) #[] #[.pointer (some ⟨w.heap.size, 0, none⟩), .pointer (some ⟨w.heap.size + 1, 0, none⟩)]) ((w.alloc (.cells #[v1] 55)).alloc (.cells #[v2] 55)) (fun k => f k || g k) n := by
  obtain ⟨g1, bd1, cp1, rfl, he1, hs1⟩ := h1
  obtain ⟨g2, bd2, cp2, rfl, he2, hs2⟩ := h2
  obtain ⟨c1, c2, hb, hsz⟩ := two_boxes w (.func (.func g1) bd1 cp1) (.func (.func g2) bd2 cp2) 55
  refine ⟨_, _, _, rfl, enters_of Try.func51 (by kernel_rfl) rfl, fun W hW k hk => ?_⟩
  obtain ⟨w2, hw2⟩ : ∃ w2, (w.alloc (.cells #[.func (.func g1) bd1 cp1] 55)).alloc (.cells #[.func (.func g2) bd2 cp2] 55) = w2 := ⟨_, rfl⟩
  rw [hw2] at c1 c2 hb hsz hW
  have d1 : W.cell? ⟨w.heap.size, 0, none⟩ = some (.func (.func g1) bd1 cp1) := by rw [hW.cell (p := ⟨w.heap.size, 0, none⟩) (by simp; omega)]; exact c1
  have D2 : Hid (∀ W', Below W.heap.size W W' → W'.cell? ⟨w.heap.size + 1, 0, none⟩ = some (.func (.func g2) bd2 cp2)) := fun W' h => by
    have := hW.size
    rw [h.cell (p := ⟨w.heap.size + 1, 0, none⟩) (by simp; omega), hW.cell (p := ⟨w.heap.size + 1, 0, none⟩) (by simp; omega)]; exact c2
  have hwW : Below w.heap.size w W := hb.trans (hW.mono hb.size)
  have H1 := hide (hs1 W hwW k hk)
  have H2 := hide (show ∀ W', Below W.heap.size W W' → Calls Try.prog g2 (bd2.push (Value.int .i64 (k : Int)) ++ cp2) W' fun e W'' => e = .returned (.bool (g k)) ∧ Below W'.heap.size W' W'' from fun W' h => hs2 W' (hwW.trans (h.mono hwW.size)) k hk)
  have hk2 : (k : Int) < 4096 := by omega
  show Calls Try.prog 51 #[.int .i64 (k : Int), .pointer (some ⟨w.heap.size, 0, none⟩), .pointer (some ⟨w.heap.size + 1, 0, none⟩)] W fun e W' => e = .returned (.bool (f k || g k)) ∧ Below W.heap.size W W'
  obtain ⟨x, hx⟩ : ∃ x, f k = x := ⟨_, rfl⟩
  rw [hx] at H1 ⊢
  clear hs1 hs2 hw2 hb hW c1 c2 hwW hx hk hsz
  cases x with
  | true =>
    go_enter Try.func51, Try.ntmps51
    go_wp2_with fail
    refine H1.out.mono ?_
    rintro e w3 ⟨rfl, hb3⟩
    have HB3 := hide hb3
    clear hb3 d1
    go_wp2
    go_ret
    exact ⟨rfl, HB3.out⟩
  | false =>
    go_enter Try.func51, Try.ntmps51
    go_wp2_with fail
    refine H1.out.mono ?_
    rintro e w3 ⟨rfl, hb3⟩
    have d2 := D2.out w3 hb3
    have HB3 := hide hb3
    clear hb3 d1
    go_wp2_with fail
    refine (H2.out w3 HB3.out).mono ?_
    rintro e w4 ⟨rfl, hb4⟩
    have HB4 := hide (bthen HB3.out hb4)
    clear hb4 d2
    go_wp2
    go_ret
    exact ⟨rfl, HB4.out⟩
theorem not_any (f : Fn) (bd cp : Array Value) (w : World) :
    Calls Try.prog 45 #[.func f bd cp] w fun e w' => e = .returned (.func (.func 52) #[] #[.pointer (some ⟨w.heap.size, 0, none⟩)]) ∧ w' = w.alloc (.cells #[.func f bd cp] 55) := by
  go_enter Try.func45, Try.ntmps45
  go_wp2_with fail
  go_ret
  exact ⟨rfl, rfl⟩
set_option maxHeartbeats 1000000 in
theorem not_asks {f : Nat → Bool} {n : Nat} {v1 : Value} {w : World} (h1 : Asks v1 w f n) (hn : n ≤ 4096) :
    Asks (.func (.func 52) #[] #[.pointer (some ⟨w.heap.size, 0, none⟩)]) (w.alloc (.cells #[v1] 55)) (fun k => !f k) n := by
  obtain ⟨g1, bd1, cp1, rfl, he1, hs1⟩ := h1
  have c1 := (Boxed.new w 55 (.func (.func g1) bd1 cp1)).cell
  have hb := below_one w (.cells #[.func (.func g1) bd1 cp1] 55)
  refine ⟨_, _, _, rfl, enters_of Try.func52 (by kernel_rfl) rfl, fun W hW k hk => ?_⟩
  have d1 : W.cell? ⟨w.heap.size, 0, none⟩ = some (.func (.func g1) bd1 cp1) := by rw [hW.cell (p := ⟨w.heap.size, 0, none⟩) (by simp)]; exact c1
  have hwW : Below w.heap.size w W := hb.trans (hW.mono hb.size)
  have H1 := hide (hs1 W hwW k hk)
  have hk2 : (k : Int) < 4096 := by omega
  show Calls Try.prog 52 #[.int .i64 (k : Int), .pointer (some ⟨w.heap.size, 0, none⟩)] W fun e W' => e = .returned (.bool (!f k)) ∧ Below W.heap.size W W'
  obtain ⟨x, hx⟩ : ∃ x, f k = x := ⟨_, rfl⟩
  rw [hx] at H1 ⊢
  clear hs1 hb hW c1 hwW hx hk
  go_enter Try.func52, Try.ntmps52
  go_wp2_with fail
  refine H1.out.mono ?_
  rintro e w3 ⟨rfl, hb3⟩
  have HB3 := hide hb3
  clear hb3 d1
  go_wp2
  go_ret
  exact ⟨rfl, HB3.out⟩
end Go.Proofs.Ytlbchdlokimpfaa

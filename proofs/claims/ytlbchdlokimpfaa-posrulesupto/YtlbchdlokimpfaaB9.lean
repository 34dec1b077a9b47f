/- Sets in memory, in their three ways; laid down from numbers that a function tells. -/
import Derived.Test.YtlbchdlokimpfaaB8
namespace Go.Proofs.Ytlbchdlokimpfaa
set_option linter.unusedVariables false
set_option maxRecDepth 10000
open Go.RowKit

/-- How a set's numbers are kept, in a way. -/
def SetR (w : World) (kept : Value) (rep : Nat) (bs : List Bool) : Prop :=
  (rep = 1 ∧ ∃ ao len cap, kept = .iface 76 (.slice ao len cap) ∧ SlP w ao len cap (Z.rg (Z.ls bs))) ∨
  (rep = 2 ∧ ∃ ao len cap, kept = .iface 79 (.slice ao len cap) ∧ Sl w .u64 ao len cap (Z.is (Z.bw bs))) ∨
  (rep = 3 ∧ ∃ ao len cap, kept = .iface 81 (.slice ao len cap) ∧ Sl w .i64 ao len cap (Z.is (Z.ls bs)))
theorem SetR.below {w w' : World} {kept : Value} {rep : Nat} {bs : List Bool} (h : SetR w kept rep bs) (hb : Below w.heap.size w w') : SetR w' kept rep bs := by
  rcases h with ⟨h1, ao, len, cap, h2, h3⟩ | ⟨h1, ao, len, cap, h2, h3⟩ | ⟨h1, ao, len, cap, h2, h3⟩
  · exact .inl ⟨h1, ao, len, cap, h2, h3.below hb⟩
  · exact .inr (.inl ⟨h1, ao, len, cap, h2, h3.below hb⟩)
  · exact .inr (.inr ⟨h1, ao, len, cap, h2, h3.below hb⟩)
theorem SetR.iface {w : World} {kept : Value} {rep : Nat} {bs : List Bool} (h : SetR w kept rep bs) : ∃ T ao len cap, kept = .iface T (.slice ao len cap) := by
  rcases h with ⟨h1, ao, len, cap, h2, h3⟩ | ⟨h1, ao, len, cap, h2, h3⟩ | ⟨h1, ao, len, cap, h2, h3⟩ <;> exact ⟨_, _, _, _, h2⟩
/-- Numbers that lie in no block lie as they lay when it is written. -/
theorem cell_set_ne {w : World} {b B i j : Nat} (h : b ≠ B) (v : Value) : (w.setCell ⟨B, j, none⟩ v).cell? ⟨b, i, none⟩ = w.cell? ⟨b, i, none⟩ := World.cell?_of_block (w := w) (Below.heap_setCell _ _ _ _ h)
theorem Sl.away {w : World} {k : IntKind} {ao : Option Addr} {len cap : Nat} {l : List Int} (h : Sl w k ao len cap l) {B : Nat} (hn : ∀ x, ao = some x → x.block ≠ B) (j : Nat) (v : Value) : Sl (w.setCell ⟨B, j, none⟩ v) k ao len cap l := by
  obtain ⟨h1, h2, h3, h4, h5⟩ := h
  refine ⟨h1, h2, h3, h4, ?_⟩
  rcases h5 with h5 | ⟨b, off, rfl, hlt, h5⟩
  · exact .inl h5
  · exact .inr ⟨b, off, rfl, by simpa using hlt, fun i hi => by rw [cell_set_ne (hn _ rfl)]; exact h5 i hi⟩
theorem SlP.away {w : World} {ao : Option Addr} {len cap : Nat} {l : List (Nat × Nat)} (h : SlP w ao len cap l) {B : Nat} (hn : ∀ x, ao = some x → x.block ≠ B) (j : Nat) (v : Value) : SlP (w.setCell ⟨B, j, none⟩ v) ao len cap l := by
  obtain ⟨h1, h2, h3, h4, h5⟩ := h
  refine ⟨h1, h2, h3, h4, ?_⟩
  rcases h5 with h5 | ⟨b, off, rfl, hlt, h5⟩
  · exact .inl h5
  · exact .inr ⟨b, off, rfl, by simpa using hlt, fun i x hx => by rw [cell_set_ne (hn _ rfl), cell_set_ne (hn _ rfl)]; exact h5 i x hx⟩
theorem SetR.away {w : World} {T : TypeId} {ao : Option Addr} {len cap : Nat} {rep : Nat} {bs : List Bool} (h : SetR w (.iface T (.slice ao len cap)) rep bs) {B : Nat} (hn : ∀ x, ao = some x → x.block ≠ B) (j : Nat) (v : Value) : SetR (w.setCell ⟨B, j, none⟩ v) (.iface T (.slice ao len cap)) rep bs := by
  rcases h with ⟨h1, ao', len', cap', h2, h3⟩ | ⟨h1, ao', len', cap', h2, h3⟩ | ⟨h1, ao', len', cap', h2, h3⟩
  · injection h2 with e1 e2; injection e2 with e2 e3 e4; subst e2 e3 e4; subst e1; exact .inl ⟨h1, _, _, _, rfl, h3.away hn j v⟩
  · injection h2 with e1 e2; injection e2 with e2 e3 e4; subst e2 e3 e4; subst e1; exact .inr (.inl ⟨h1, _, _, _, rfl, h3.away hn j v⟩)
  · injection h2 with e1 e2; injection e2 with e2 e3 e4; subst e2 e3 e4; subst e1; exact .inr (.inr ⟨h1, _, _, _, rfl, h3.away hn j v⟩)
/-- A set. -/
def SetAt (w : World) (v : Value) (rep : Nat) (bs : List Bool) : Prop := bs.length ≤ 4096 ∧ ∃ kept, v = .agg #[.int .i64 (bs.length : Int), kept] ∧ SetR w kept rep bs
theorem SetAt.below {w w' : World} {v : Value} {rep : Nat} {bs : List Bool} (h : SetAt w v rep bs) (hb : Below w.heap.size w w') : SetAt w' v rep bs := by
  obtain ⟨h1, kept, h2, h3⟩ := h
  exact ⟨h1, kept, h2, h3.below hb⟩
/-- A set whose numbers lie in blocks from B on, none of them a set's. -/
def NewSet (w : World) (B : Nat) (s : Value) (n : Nat) : Prop := ∃ T ao len cap, s = .agg #[.int .i64 (n : Int), .iface T (.slice ao len cap)] ∧ ∀ x, ao = some x → B ≤ x.block ∧ ∃ (cs : Array Value) (t : TypeId) (fr : Nat × Nat), w.heap[x.block]? = some (.cells cs t fr) ∧ t ≠ 28
theorem NewSet.mono {w : World} {B B' n : Nat} {s : Value} (h : NewSet w B s n) (hb : B' ≤ B) : NewSet w B' s n := by
  obtain ⟨T, ao, len, cap, h1, h2⟩ := h
  exact ⟨T, ao, len, cap, h1, fun x hx => ⟨Nat.le_trans hb (h2 x hx).1, (h2 x hx).2⟩⟩
theorem NewSet.below {w w' : World} {B n : Nat} {s : Value} (h : NewSet w B s n) (hb : Below w.heap.size w w') : NewSet w' B s n := by
  obtain ⟨T, ao, len, cap, h1, h2⟩ := h
  refine ⟨T, ao, len, cap, h1, fun x hx => ?_⟩
  obtain ⟨h3, cs, t, fr, h4, h5⟩ := h2 x hx
  exact ⟨h3, cs, t, fr, by rw [hb.block x.block (lt_of_block h4)]; exact h4, h5⟩
theorem ls_lt {bs : List Bool} : ∀ n ∈ Z.ls bs, n < bs.length := fun n hn => ps_lt hn
theorem ls_len (bs : List Bool) : (Z.ls bs).length ≤ bs.length := ps_len bs bs.length

theorem isway_any (r : Nat) (h1 : 1 ≤ r) (h3 : r ≤ 3) (w : World) : Calls Try.prog 40 #[.int .i64 (r : Int)] w fun e w' => e = .returned (.bool true) ∧ w' = w := by
  have hr : r = 1 ∨ r = 2 ∨ r = 3 := by omega
  rcases hr with rfl | rfl | rfl <;> (go_enter Try.func40, Try.ntmps40; go_wp2; go_ret; exact ⟨rfl, rfl⟩)
theorem maybe_any (n r : Nat) (hn : n ≤ 4096) (h1 : 1 ≤ r) (h3 : r ≤ 3) (w : World) : Calls Try.prog 31 #[.int .i64 (n : Int), .int .i64 (r : Int)] w fun e w' => e = .returned (.bool true) ∧ w' = w := by
  have h0 : (0 : Int) ≤ (n : Int) := by omega
  have hn2 : (n : Int) ≤ 4096 := by omega
  go_enter Try.func31, Try.ntmps31
  go_wp2_with fail
  refine (isway_any r h1 h3 _).mono ?_
  rintro e w1 ⟨rfl, rfl⟩
  go_wp2
  go_ret
  exact ⟨rfl, rfl⟩

/-- A set's block. -/
def AtS (w : World) (b : Nat) (x y : Value) : Prop := w.heap[b]? = some (.cells #[x, y] 28 (0, 0))
theorem AtS.new (w : World) (x y : Value) : AtS (w.alloc (.cells #[x, y] 28)) w.heap.size x y := heap_alloc_new w _
theorem AtS.below {w w' : World} {b : Nat} {x y : Value} (h : AtS w b x y) (hb : Below w.heap.size w w') : AtS w' b x y := by
  unfold AtS at *; rw [hb.block b (lt_of_block h)]; exact h
theorem AtS.cells {w : World} {b : Nat} {x y : Value} (h : AtS w b x y) : w.cell? ⟨b, 0, none⟩ = some x ∧ w.cell? ⟨b, 1, none⟩ = some y := cells_two h
theorem AtS.thawed {w : World} {b : Nat} {x y : Value} (h : AtS w b x y) : w.frozen? ⟨b, 0, none⟩ = false ∧ w.frozen? ⟨b, 1, none⟩ = false := by
  unfold AtS at h; simp [World.frozen?, h]
theorem heap_setCell_at {w : World} {b i : Nat} {cs : Array Value} {t : TypeId} (v : Value) (h : w.heap[b]? = some (.cells cs t (0, 0))) : (w.setCell ⟨b, i, none⟩ v).heap[b]? = some (.cells (cs.setIfInBounds i v) t (0, 0)) := by
  obtain ⟨hlt, hk⟩ := Array.getElem?_eq_some_iff.1 h
  show (w.heap.modify b _)[b]? = _
  rw [Array.getElem?_eq_getElem (by rw [Array.size_modify]; exact hlt), Array.getElem_modify_self, hk]
  rfl
theorem AtS.set {w : World} {b : Nat} {x y : Value} (h : AtS w b x y) (x' y' : Value) : AtS ((w.setCell ⟨b, 0, none⟩ x').setCell ⟨b, 1, none⟩ y') b x' y' := heap_setCell_at y' (heap_setCell_at x' h)

theorem results_set0 {fn : Func} {p : Tmp} (h : fn.results = #[.cell p 28]) (tmps : Array Value) (w : World) (g : Nat) {x y : Value} (hp : tmps.getD p undef = .pointer (some ⟨g, 0, none⟩)) (hA : AtS w g x y) :
    (results fn tmps).run Try.prog w = .ok (.agg #[x, y]) w := by
  have hp' : tmps[p]?.getD undef = .pointer (some ⟨g, 0, none⟩) := by simpa using hp
  unfold AtS at hA
  simp [results, h, hp', asAddr, run_loadVar_row w g 28 28 _ (0, 0) _ hA Try.underlying28 rfl (by kernel_rfl)]
theorem results_set1 {fn : Func} {p u : Tmp} (h : fn.results = #[.cell p 28, .tmp u]) (tmps : Array Value) (w : World) (g : Nat) {x y : Value} (hp : tmps.getD p undef = .pointer (some ⟨g, 0, none⟩)) (hA : AtS w g x y) :
    (results fn tmps).run Try.prog w = .ok (.tuple #[.agg #[x, y], tmps.getD u undef]) w := by
  have hp' : tmps[p]?.getD undef = .pointer (some ⟨g, 0, none⟩) := by simpa using hp
  unfold AtS at hA
  simp [results, h, hp', asAddr, run_loadVar_row w g 28 28 _ (0, 0) _ hA Try.underlying28 rfl (by kernel_rfl)]

set_option maxHeartbeats 1000000 in
theorem laid_any (v : Value) (w : World) (bs : List Bool) (hn : bs.length ≤ 4096) (r : Nat) (h1 : 1 ≤ r) (h3 : r ≤ 3) (h : GivesR v w (Z.is (Z.ls bs))) :
    Calls Try.prog 32 #[.int .i64 (bs.length : Int), v, .int .i64 (r : Int)] w fun e w' => ∃ s, e = .returned s ∧ SetAt w' s r bs ∧ NewSet w' w.heap.size s bs.length ∧ Below w.heap.size w w' := by
  have hg := h
  obtain ⟨g, lb, n₀, rfl, -⟩ := hg
  have hb0 := below_one w (.cells #[.int .i64 0, .nilIface] 28)
  have hl := ls_len bs
  have hlt := ls_lt (bs := bs)
  have hfo := fo_is bs
  obtain ⟨n, hnn⟩ : ∃ n, bs.length = n := ⟨_, rfl⟩
  rw [hnn] at hn hl hlt hfo ⊢
  have H := hide (h.below hb0)
  have HLT := hide hlt
  have HFO := hide hfo
  have HN := hide hnn
  have HB0 := hide hb0
  have HA := hide (AtS.new w (.int .i64 0) .nilIface)
  have HFIN : Hid (∀ (T : TypeId) (ao : Option Addr) (len cap : Nat) (w1 : World), Below (w.alloc (.cells #[.int .i64 0, .nilIface] 28)).heap.size (w.alloc (.cells #[.int .i64 0, .nilIface] 28)) w1 → NewAt (w.alloc (.cells #[.int .i64 0, .nilIface] 28)) w1 ao → SetR w1 (.iface T (.slice ao len cap)) r bs →
      SetAt ((w1.setCell ⟨w.heap.size, 0, none⟩ (.int .i64 (n : Int))).setCell ⟨w.heap.size, 1, none⟩ (.iface T (.slice ao len cap))) (.agg #[.int .i64 (n : Int), .iface T (.slice ao len cap)]) r bs ∧ NewSet ((w1.setCell ⟨w.heap.size, 0, none⟩ (.int .i64 (n : Int))).setCell ⟨w.heap.size, 1, none⟩ (.iface T (.slice ao len cap))) w.heap.size (.agg #[.int .i64 (n : Int), .iface T (.slice ao len cap)]) n ∧ Below w.heap.size w ((w1.setCell ⟨w.heap.size, 0, none⟩ (.int .i64 (n : Int))).setCell ⟨w.heap.size, 1, none⟩ (.iface T (.slice ao len cap)))) := by
    intro T ao len cap w1 hb hx0 hs
    have hx : ∀ x, ao = some x → w.heap.size + 1 ≤ x.block ∧ ∃ (cs : Array Value) (t : TypeId) (fr : Nat × Nat), w1.heap[x.block]? = some (.cells cs t fr) ∧ t ≠ 28 := fun x e => by have := hx0 x e; rwa [World.size_alloc] at this
    have hb1 := hb0.trans (hb.mono hb0.size)
    refine ⟨⟨by omega, _, by rw [hnn], ((hs.away (B := w.heap.size) (fun x e => by have := (hx x e).1; omega) 0 _).away (fun x e => by have := (hx x e).1; omega) 1 _)⟩, ⟨_, _, _, _, rfl, fun x e => by
      obtain ⟨h3, cs, t, fr, h4, h5⟩ := hx x e
      exact ⟨by omega, cs, t, fr, by rw [Below.heap_setCell _ _ _ _ (by simp; omega), Below.heap_setCell _ _ _ _ (by simp; omega)]; exact h4, h5⟩⟩, (hb1.setCell (p := ⟨w.heap.size, 0, none⟩) (Nat.le_refl _) _).setCell (p := ⟨w.heap.size, 1, none⟩) (Nat.le_refl _) _⟩
  clear h hlt hfo hnn hb0
  have hr : r = 1 ∨ r = 2 ∨ r = 3 := by omega
  rcases hr with rfl | rfl | rfl
  · go_enter Try.func32, Try.ntmps32
    go_wp2_with fail
    refine (toranges_any _ _ (Z.ls bs) (by omega) (fun x hx => by have := HLT.out x hx; omega) H.out).mono ?_
    rintro e w1 ⟨ao, cap, rfl, hs, hx, hb⟩
    have hA := HA.out.below hb
    obtain ⟨c0, c1⟩ := hA.cells
    obtain ⟨f0, f1⟩ := hA.thawed
    have HF := hide (HFIN.out _ _ _ _ w1 hb hx (.inl ⟨rfl, _, _, _, rfl, hs⟩))
    have HAA := hide hA
    clear hs hb hA hx
    go_wp2_with fail
    exact bodyPost_ret (results_set0 Try.results32 _ _ w.heap.size rfl (HAA.out.set _ _)) rfl ⟨_, rfl, HF.out⟩
  · go_enter Try.func32, Try.ntmps32
    go_wp2_with fail
    refine (tobitmap_any _ _ n (Z.ls bs) hn (by omega) HLT.out H.out).mono ?_
    rintro e w1 ⟨ao, cap, rfl, hs, hx, hb⟩
    rw [HFO.out] at hs
    have hA := HA.out.below hb
    obtain ⟨c0, c1⟩ := hA.cells
    obtain ⟨f0, f1⟩ := hA.thawed
    have HF := hide (HFIN.out _ _ _ _ w1 hb hx (.inr (.inl ⟨rfl, _, _, _, rfl, hs⟩)))
    have HAA := hide hA
    clear hs hb hA hx
    go_wp2_with fail
    exact bodyPost_ret (results_set0 Try.results32 _ _ w.heap.size rfl (HAA.out.set _ _)) rfl ⟨_, rfl, HF.out⟩
  · go_enter Try.func32, Try.ntmps32
    go_wp2_with fail
    refine (collect_any _ _ (Z.is (Z.ls bs)) (by simp [Z.is]; omega) H.out.gives.spans).mono ?_
    rintro e w1 ⟨ao, cap, rfl, hs, hx, hb⟩
    have hA := HA.out.below hb
    obtain ⟨c0, c1⟩ := hA.cells
    obtain ⟨f0, f1⟩ := hA.thawed
    have HF := hide (HFIN.out _ _ _ _ w1 hb hx (.inr (.inr ⟨rfl, _, _, _, rfl, hs⟩)))
    have HAA := hide hA
    clear hs hb hA hx
    go_wp2_with fail
    exact bodyPost_ret (results_set0 Try.results32 _ _ w.heap.size rfl (HAA.out.set _ _)) rfl ⟨_, rfl, HF.out⟩
end Go.Proofs.Ytlbchdlokimpfaa

/- Numbers that a function tells, laid as words of bits. -/
import Derived.Test.YtlbchdlokimpfaaB7
import Derived.Test.YtlbchdlokimpfaaV23
namespace Go.Proofs.Ytlbchdlokimpfaa
set_option linter.unusedVariables false
set_option maxRecDepth 10000
open Go.RowKit
attribute [local go_sem] Oper.semAt_some

theorem Try.infoU64b : (Try.prog.info? 87).map (fun i => (i.zero, i.size, i.bytes)) = some (some (.int .u64 0), 1, 8) := by kernel_rfl
/-- The set of what was told so far. -/
def Z.sf (n : Nat) {ps : List Int} (pre : List { x : Int // x ∈ ps }) : List Bool := Z.fo n (pre.map (·.1))
/-- Its words, as values. -/
def Z.wv (bs : List Bool) : List Value := (Z.bw bs).map fun (x : Nat) => Value.int .u64 (x : Int)
theorem wv_length (bs : List Bool) : (Z.wv bs).length = (bs.length + 63) / 64 := by simp [Z.wv, bw_length]
theorem wv_none (n : Nat) : Z.wv (Z.fo n []) = List.replicate ((n + 63) / 64) (.int .u64 0) := by
  rw [fo_none, Z.wv, bw_none]
  simp
theorem wv_at (bs : List Bool) {q : Nat} (h : q < (bs.length + 63) / 64) : (Z.wv bs)[q]? = some (.int .u64 (((Z.bw bs).getD q 0 : Nat) : Int)) := by
  simp [Z.wv, List.getD, bw_length, h]
theorem wv_set (bs : List Bool) {x : Nat} (hx : x < bs.length) : Z.wv (bs.set x true) = (Z.wv bs).set (x / 64) (.int .u64 (((Z.bw bs).getD (x / 64) 0 ||| 2 ^ (x % 64) : Nat) : Int)) := by
  unfold Z.wv
  rw [bw_set bs hx, List.map_set]

def tbTbl (B G m k x : Nat) : List (Nat × V.Ent) :=
  [(5, V.Ent.is (.pointer (some ⟨B, 0, none⟩))), (6, V.Ent.is (.int .i64 (k : Int))), (14, V.Ent.is (.slice (some ⟨G, 0, none⟩) m m)), (15, V.Ent.is (.int .i64 (k : Int))), (16, V.Ent.is (.int .i64 ((k / 64 : Nat) : Int))), (17, V.Ent.is (.pointer (some ⟨G, 0 + k / 64, none⟩))), (18, V.Ent.is (.int .u64 (x : Int))), (19, V.Ent.is (.int .i64 (k : Int))), (20, V.Ent.is (.int .i64 ((k % 64 : Nat) : Int))), (21, V.Ent.is (.int .u64 ((2 ^ (k % 64) : Nat) : Int))), (22, V.Ent.is (.int .u64 ((x ||| 2 ^ (k % 64) : Nat) : Int))), (23, V.Ent.is (.pointer (some ⟨G, 0 + k / 64, none⟩)))]
theorem ownsRow_own {β : Type} (n₀ : Nat) (e : TypeId) (size : Nat) (v : Value) (k : Nat) (f : β → List Value) : Own (fun s W => W.ownsRow n₀ e size v k (f s)) := by
  rintro s X Y row hr hg hrow
  refine hr.kept hg ?_
  rcases hr.2 with ⟨rfl, _⟩ | ⟨g, cap, cur, rfl, _, hgb, _⟩
  · exact .inl rfl
  · refine .inr fun e' => ?_
    obtain ⟨o, ho, hc⟩ := hrow g (by simpa [Value.ownBlock] using e'.symm)
    rw [hgb] at ho; cases ho; cases hc
set_option maxHeartbeats 4000000 in
theorem tobitmap_any (v : Value) (w : World) (n : Nat) (l : List Nat) (hn : n ≤ 4096) (hl : l.length ≤ 4096) (hlt : ∀ x ∈ l, x < n) (h : GivesR v w (Z.is l)) :
    Calls Try.prog 48 #[.int .i64 (n : Int), v] w fun e w' => ∃ ao cap, e = .returned (.slice ao ((n + 63) / 64) cap) ∧ Sl w' .u64 ao ((n + 63) / 64) cap (Z.is (Z.bw (Z.fo n (Z.is l)))) ∧ NewAt w w' ao ∧ Below w.heap.size w w' := by
  obtain ⟨g, lb, n₀, rfl, hn₀, heg, hseq⟩ := h.sub
  obtain ⟨i0, hi0, hz0, hz1, hz2⟩ := info_parts Try.infoU64b
  obtain ⟨m, hm⟩ : ∃ m, (n + 63) / 64 = m := ⟨_, rfl⟩
  have hmm : m ≤ 64 := by omega
  have hmi : ((n : Int) + 64 - 1) / 64 = (m : Int) := by omega
  have HM := hide hm
  have HMI := hide hmi
  rw [hm]
  refine calls_marks Try.func48 rfl ?_
  simp only [Try.ntmps48, List.size_toArray, List.length_cons, List.length_nil, Nat.reduceAdd, Nat.reduceSub, Array.replicate_succ, Array.replicate_zero, List.push_toArray, List.append_toArray, List.nil_append, List.cons_append]
  have HEG := hide heg
  have HSEQ := hide hseq
  have HLT := hide hlt
  clear heg hseq h hlt hm
  go_wp2_with (at_make; refine wpList_make_full _ rfl _ _ 79 rfl w.heap.size 87 i0 (.int .u64 0) 1 Try.underlying79 hi0 hz0 hz1 _ _ _ _ m rfl rfl HMI.out HMI.out (by rw [hz2]; omega) (by unfold maxLen; omega) (by simp) ?_)
  intro w1 ho hg
  have hsz1 : w1.heap.size = w1.heap.size := rfl
  have hb1 : Below w.heap.size w w1 := (Below.refl _ w).grown hg (Nat.le_refl _) (by simp)
  have hlt1 : w.heap.size < w1.heap.size := (owns_lt ho rfl).2
  have ho1 : w1.ownsRow w.heap.size 87 1 (.slice (some ⟨w.heap.size, 0, none⟩) m m) m (Z.wv (Z.fo n [])) := by
    rw [wv_none, HM.out]
    rw [toList_madeCells_one] at ho
    exact ho
  have HO1 := hide ho1
  have HB1 := hide hb1
  clear ho ho1 hg hb1 hsz1
  go_wp2_with fail
  obtain ⟨w2, hw2⟩ : ∃ w2, w1.alloc (.cells #[.slice (some ⟨w.heap.size, 0, none⟩) m m] 79) = w2 := ⟨_, rfl⟩
  have bN := Boxed.new w1 79 (.slice (some ⟨w.heap.size, 0, none⟩) m m)
  have hB0 := HB1.out.alloc HB1.out.size (.cells #[.slice (some ⟨w.heap.size, 0, none⟩) m m] 79)
  have hb2 := below_one w1 (.cells #[.slice (some ⟨w.heap.size, 0, none⟩) m m] 79)
  have ho2 := owns_below HO1.out hb2
  have hsz : w2.heap.size = w1.heap.size + 1 := by rw [← hw2]; simp
  rw [hw2] at bN hB0 ho2 ⊢
  obtain ⟨B, hBB⟩ : ∃ B, w1.heap.size = B := ⟨_, rfl⟩
  rw [hBB] at bN hsz hlt1 ⊢
  clear hw2 HO1 HB1 hb2 hBB
  have hNl : (Z.is l).length ≤ 4096 := by simp [Z.is]; exact hl
  refine (wpIn_wide (n := 9)).1 (wpIn_rangeFunc_ownG rfl (by decide) (gf := g) (lb := lb) rfl trivial HEG.out HSEQ.out belowK_t (belowK_b (by omega)) hB0 (fun _ => rfl)
    (fun pre W => (Boxed W B 79 (.slice (some ⟨w.heap.size, 0, none⟩) m m) ∧ W.ownsRow w.heap.size 87 1 (.slice (some ⟨w.heap.size, 0, none⟩) m m) m (Z.wv (Z.sf n pre))) ∧ Below w.heap.size w W)
    (fun _ _ _ => False)
    (OwnFrom.and (OwnFrom.and (Own.from (boxed_own B 79 (fun _ : List { x : Int // x ∈ Z.is l } => .slice (some ⟨w.heap.size, 0, none⟩) m m)) _) (Own.from (ownsRow_own w.heap.size 87 1 (.slice (some ⟨w.heap.size, 0, none⟩) m m) m (fun pre : List { x : Int // x ∈ Z.is l } => Z.wv (Z.sf n pre))) _)) (ownFrom_below (Nat.le_refl _) (by omega)))
    (fun _ _ _ _ _ hs _ _ => hs)
    ⟨⟨bN, ho2⟩, hB0⟩
    (fun x => { tmps := #[.int .i64 (n : Int), .func (.func g) #[] lb, undef, undef, .slice none 0 0, .pointer (some ⟨B, 0, none⟩), .int .i64 x.1, .int .i64 (n : Int), .int .i64 ((n : Int) + 64), .int .i64 ((n : Int) + 64 - 1), .int .i64 (((n : Int) + 64 - 1) / 64), .slice (some ⟨w.heap.size, 0, none⟩) m m, .func (.func g) #[] lb, .int .i64 x.1, undef, undef, undef, undef, undef, undef, undef, undef, undef, undef, undef], defers := [] }) ?assign ?body ?done ?stop)
  case assign =>
    intro l x W K hK
    gi_wp2
    simpa [HMI.out] using hK
  case body =>
    rintro lo pre ⟨x, hx⟩ W ⟨⟨hbx, hrow⟩, hB⟩ hlt
    obtain ⟨k, hk, rfl⟩ := is_mem hx
    have hkn := HLT.out k hk
    have hsl : (Z.sf n pre).length = n := fo_length _ _
    obtain ⟨q, hq⟩ : ∃ q, k / 64 = q := ⟨_, rfl⟩
    obtain ⟨t, ht⟩ : ∃ t, k % 64 = t := ⟨_, rfl⟩
    have hm' := HM.out
    have hqm : q < m := by omega
    have ht64 : t < 64 := by omega
    have hat := wv_at (Z.sf n pre) (q := q) (by rw [hsl]; omega)
    have hset := wv_set (Z.sf n pre) (x := k) (by rw [hsl]; exact hkn)
    have hxlt := bw_lt (Z.sf n pre) q
    rw [hq, ht] at hset
    obtain ⟨x, hx0⟩ : ∃ x, (Z.bw (Z.sf n pre)).getD q 0 = x := ⟨_, rfl⟩
    rw [hx0] at hat hset hxlt
    obtain ⟨xs, hxs⟩ : ∃ xs, Z.wv (Z.sf n pre) = xs := ⟨_, rfl⟩
    rw [hxs] at hat hset hrow
    have hnew : Z.wv (Z.sf n (pre ++ [⟨(k : Int), hx⟩])) = xs.set q (.int .u64 ((x ||| 2 ^ t : Nat) : Int)) := by
      rw [← hset]
      unfold Z.sf
      rw [fo_snoc hkn, List.map_append]
      rfl
    have hc := hbx.cell
    have hcx : W.cell? ⟨w.heap.size, q, none⟩ = some (.int .u64 (x : Int)) := by rw [hrow.cellAt q (by omega)]; exact hat
    have hfx : W.frozen? ⟨w.heap.size, q, none⟩ = false := hrow.frozenAt _
    have hst := hrow.stored q (.int .u64 ((x ||| 2 ^ t : Nat) : Int))
    have hlB : B < W.heap.size := hbx.lt
    have hlG : w.heap.size < W.heap.size := (owns_lt hrow rfl).2
    have HNEW := hide hnew
    have HST := hide hst
    have HBX := hide hbx
    have HB := hide hB
    have HROW := hide hrow
    clear hnew hst hbx hB hrow hset hxs hx0 hat hsl hlt
    refine wpIn_block (region_in (by kernel_rfl) (by kernel_rfl) (by rintro ⟨_, _, h⟩; exact h) ?_)
    refine V.any_region_tail (w0 := W) 10 [14, 15, 16, 17, 18, 19, 20, 21, 22, 23] [5, 6] (tbTbl B w.heap.size m k x) (by decide) rfl (by kernel_rfl) (by kernel_rfl) (Below.refl _ _) ?hb ?hs ?hd
    case hb =>
      intro d hd
      simp only [List.mem_cons, List.not_mem_nil, or_false] at hd
      rcases hd with rfl | rfl <;> rfl
    case hs =>
      refine ⟨?_, ?_, ?_, ?_, ?_, ?_, ?_, ?_, ?_, ?_, trivial⟩
      · exact V.Step.ldB (.inl rfl) rfl rfl hlB hc (fun _ h => by cases h; rfl)
      · exact V.Step.move (.inl rfl) (.inl rfl) (.inl ⟨_, rfl⟩) (fun _ h => by cases h; rfl)
      · exact V.Step.bin (v1 := .int .i64 (k : Int)) (v2 := .int .i64 64) (v := .int .i64 ((k / 64 : Nat) : Int)) (.inl rfl) rfl (.inl ⟨_, rfl⟩) (.inr ⟨_, rfl⟩) rfl rfl (fun w => ⟨rfl, V.run_quo64 w k (by omega)⟩) (fun _ h => by cases h; rfl)
      · exact V.Step.idxW (.inl rfl) rfl rfl rfl (by omega) (fun _ h => by cases h; rfl)
      · exact V.Step.ldW (.inl rfl) rfl rfl hlG (by rw [Nat.zero_add, hq]; exact hcx) (fun _ h => by cases h; rfl)
      · exact V.Step.move (.inl rfl) (.inl rfl) (.inl ⟨_, rfl⟩) (fun _ h => by cases h; rfl)
      · exact V.Step.bin (v1 := .int .i64 (k : Int)) (v2 := .int .i64 64) (v := .int .i64 ((k % 64 : Nat) : Int)) (.inl rfl) rfl (.inl ⟨_, rfl⟩) (.inr ⟨_, rfl⟩) rfl rfl (fun w => ⟨rfl, V.run_rem64 w k (by omega)⟩) (fun _ h => by cases h; rfl)
      · exact V.Step.bin (v1 := .int .u64 1) (v2 := .int .i64 ((k % 64 : Nat) : Int)) (v := .int .u64 ((2 ^ (k % 64) : Nat) : Int)) (.inl rfl) rfl (.inr ⟨_, rfl⟩) (.inl ⟨_, rfl⟩) rfl rfl (fun w => ⟨rfl, V.run_shl1 w (k % 64) (by omega)⟩) (fun _ h => by cases h; rfl)
      · exact V.Step.bin (v1 := .int .u64 (x : Int)) (v2 := .int .u64 ((2 ^ (k % 64) : Nat) : Int)) (v := .int .u64 ((x ||| 2 ^ (k % 64) : Nat) : Int)) (.inl rfl) rfl (.inl ⟨_, rfl⟩) (.inl ⟨_, rfl⟩) rfl rfl (fun w => ⟨rfl, V.run_or64 w x _ hxlt (Nat.pow_lt_pow_right (by decide) (by omega : k % 64 < 64))⟩) (fun _ h => by cases h; rfl)
      · exact V.Step.idxW (.inl rfl) rfl rfl rfl (by omega) (fun _ h => by cases h; rfl)
    case hd =>
    intro vs wa hwa hk9
    have v14 : vs 14 = .slice (some ⟨w.heap.size, 0, none⟩) m m := hk9 0 _ 14 rfl rfl
    have v15 : vs 15 = .int .i64 (k : Int) := hk9 1 _ 15 rfl rfl
    have v16 : vs 16 = .int .i64 ((k / 64 : Nat) : Int) := hk9 2 _ 16 rfl rfl
    have v17 : vs 17 = .pointer (some ⟨w.heap.size, 0 + k / 64, none⟩) := hk9 3 _ 17 rfl rfl
    have v18 : vs 18 = .int .u64 (x : Int) := hk9 4 _ 18 rfl rfl
    have v19 : vs 19 = .int .i64 (k : Int) := hk9 5 _ 19 rfl rfl
    have v20 : vs 20 = .int .i64 ((k % 64 : Nat) : Int) := hk9 6 _ 20 rfl rfl
    have v21 : vs 21 = .int .u64 ((2 ^ (k % 64) : Nat) : Int) := hk9 7 _ 21 rfl rfl
    have v22 : vs 22 = .int .u64 ((x ||| 2 ^ (k % 64) : Nat) : Int) := hk9 8 _ 22 rfl rfl
    have v23 : vs 23 = .pointer (some ⟨w.heap.size, 0 + k / 64, none⟩) := hk9 9 _ 23 rfl rfl
    simp only [V.puts, List.foldl_cons, List.foldl_nil, v14, v15, v16, v17, v18, v19, v20, v21, v22, v23, Act.put, List.setIfInBounds_toArray, List.set_cons_zero, List.set_cons_succ]
    clear hk9 v14 v15 v16 v17 v18 v19 v20 v21 v22 v23
    simp only [List.drop]
    rw [hq, ht, Nat.zero_add]
    obtain ⟨y, hy⟩ : ∃ y, x ||| 2 ^ t = y := ⟨_, rfl⟩
    rw [hy] at HST HNEW ⊢
    have hro := owns_below HROW.out hwa
    have hbx2 : Boxed wa B 79 (.slice (some ⟨w.heap.size, 0, none⟩) m m) := (hwa.block _ hlB).trans HBX.out
    have hst2 := hro.stored q (.int .u64 (y : Int))
    have hfx2 : wa.frozen? ⟨w.heap.size, q, none⟩ = false := hro.frozenAt _
    have hcx2 : ∃ v, wa.cell? ⟨w.heap.size, q, none⟩ = some v := ⟨_, (hwa.cell (p := ⟨w.heap.size, q, none⟩) hlG).trans hcx⟩
    obtain ⟨v9, hcx2⟩ := hcx2
    have hbx3 := hbx2.kept hst2.2 (hbx2.not_row (by decide) hro)
    have hwo : KeepsOthers W wa := ⟨hwa.size, fun k o hk0 hc => (hwa.block k (lt_of_block hk0)).trans hk0⟩
    have HS2 := hide hst2.1
    have HBX3 := hide hbx3
    have HWA := hide hwa
    have HWO := hide hwo
    clear hro hbx2 hst2 hbx3 hwa hwo hcx hfx hc hlB
    go_wp2
    have hb4 := (HWA.out.mono HB.out.size).setCell (p := ⟨w.heap.size, q, none⟩) (Nat.le_refl _) (.int .u64 (y : Int))
    refine ⟨(HWO.out.trans (KeepsOthers.setCell _ _ _)).from _, hb4.mono hn₀, ⟨⟨HBX3.out, ?_⟩, HB.out.trans hb4⟩⟩
    rw [HNEW.out]
    exact HS2.out
  case done =>
    rintro D ys W hD hys ⟨⟨hbx, hrow⟩, hB⟩ hK
    have hro := ownsRow_putObj hrow (.deferred none) hK rfl
    have hws : Z.wv (Z.sf n ys) = (Z.is (Z.bw (Z.fo n (Z.is l)))).map (Value.int .u64) := by
      unfold Z.sf Z.wv
      rw [hys]
      simp [Z.is]
    have hwl : (Z.is (Z.bw (Z.fo n (Z.is l)))).length = m := by simp [Z.is, bw_length, fo_length]; exact HM.out
    rw [hws, ← hwl] at hro
    obtain ⟨ao, cap, hv, hsl, -⟩ := Sl.of_owns hro
    have HNW := hide (NewAt.of_owns hro (by decide) : NewAt w (W.putObj D (.deferred none)) (some ⟨w.heap.size, 0, none⟩))
    have hc := hbx.cell
    rw [hwl] at hv hsl
    injection hv with e1 e2 e3
    subst e1 e3
    have HSL := hide hsl
    have HB := hide hB
    clear hrow hro hbx hsl hB
    go_wp2
    refine ⟨by simp, .inl ⟨_, _, rfl, run_takeDeferred hK, ?_⟩⟩
    have hbp : Below w.heap.size W (W.putObj D (.deferred none)) := belowK_b (w := w2) (by omega) W D _ _ (by omega) hK rfl rfl
    exact ⟨_, results_tmp rfl _ _ _, _, _, rfl, HSL.out, HNW.out, HB.out.trans hbp⟩
  case stop =>
    rintro D c pre W _ _ h _
    exact h.elim
end Go.Proofs.Ytlbchdlokimpfaa

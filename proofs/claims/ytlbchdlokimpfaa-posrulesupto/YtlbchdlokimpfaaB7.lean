/- Numbers that a function tells, laid as spans, and as words of bits. -/
import Derived.Test.YtlbchdlokimpfaaB6
namespace Go.Proofs.Ytlbchdlokimpfaa
set_option linter.unusedVariables false
set_option maxRecDepth 10000
open Go.RowKit
attribute [local go_sem] Oper.semAt_some

/-- What was told so far, as numbers. -/
def tns {ps : List Int} (pre : List { x : Int // x ∈ ps }) : List Nat := pre.map fun x => x.1.toNat
theorem tns_snoc {ps : List Int} (pre : List { x : Int // x ∈ ps }) (x : { x : Int // x ∈ ps }) : tns (pre ++ [x]) = tns pre ++ [x.1.toNat] := by simp [tns]
theorem tns_all {l : List Nat} {ys : List { x : Int // x ∈ Z.is l }} (h : ys.map (·.1) = Z.is l) : tns ys = l := by
  have : tns ys = (ys.map (·.1)).map Int.toNat := by simp [tns]
  rw [this, h]
  unfold Z.is
  rw [List.map_map]
  conv => rhs; rw [← List.map_id l]
  apply List.map_congr_left
  intro x _
  simp
theorem is_mem {l : List Nat} {x : Int} (h : x ∈ Z.is l) : ∃ n : Nat, n ∈ l ∧ x = (n : Int) := by
  simp [Z.is] at h
  obtain ⟨n, h1, h2⟩ := h
  exact ⟨n, h1, h2.symm⟩
theorem rg_len (l : List Nat) : (Z.rg l).length ≤ l.length := by
  have : ∀ n (l : List Nat), l.length = n → (Z.rg l).length ≤ n := by
    intro n
    induction n with
    | zero => intro l h; have : l = [] := List.length_eq_zero_iff.1 h
              subst this; simp [Z.rg]
    | succ n ih =>
      intro l h
      rcases snoc_or l with rfl | ⟨q, x, rfl⟩
      · simp at h
      · have := ih q (by simpa using h)
        rw [rg_snoc]
        rcases snoc_or (Z.rg q) with he | ⟨r, ⟨a, b⟩, he⟩
        · rw [he, stp_nil]; simp
        · rw [he] at this
          by_cases hb : b = x
          · subst hb; rw [he, stp_on]; simp at this ⊢; omega
          · rw [he, stp_new _ _ _ _ hb]; simp at this ⊢; omega
  exact this _ l rfl
theorem rg_lt {l : List Nat} {M : Nat} (h : ∀ n ∈ l, n < M) : ∀ s ∈ Z.rg l, s.2 ≤ M := by
  have : ∀ n (l : List Nat), l.length = n → (∀ n ∈ l, n < M) → ∀ s ∈ Z.rg l, s.2 ≤ M := by
    intro n
    induction n with
    | zero => intro l h h2; have : l = [] := List.length_eq_zero_iff.1 h
              subst this; intro s hs; simp [Z.rg] at hs
    | succ n ih =>
      intro l hl h
      rcases snoc_or l with rfl | ⟨q, x, rfl⟩
      · simp at hl
      · have ih := ih q (by simpa using hl) (fun n hn => h n (by simp [hn]))
        have hx := h x (by simp)
        rw [rg_snoc]
        rcases snoc_or (Z.rg q) with he | ⟨r, ⟨a, b⟩, he⟩
        · rw [he, stp_nil]; intro s hs; simp at hs; subst hs; exact hx
        · rw [he] at ih
          by_cases hb : b = x
          · subst hb; rw [he, stp_on]; intro s hs
            rw [List.mem_append] at hs
            rcases hs with hs | hs
            · exact ih s (by simp [hs])
            · simp at hs; subst hs; exact hx
          · rw [he, stp_new _ _ _ _ hb]; intro s hs
            rw [List.mem_append] at hs
            rcases hs with hs | hs
            · exact ih s hs
            · simp at hs; subst hs; exact hx
  exact this _ l rfl h

theorem news_two (w : World) (t : TypeId) (x y : Value) : ∀ j u, [x, y][j]? = some u → (w.alloc (.cells #[x, y] t)).cell? (Addr.add ⟨w.heap.size, 0, none⟩ j) = some u := by
  intro j u hu
  match j, hu with
  | 0, hu => simp at hu; subst hu; simp [Addr.add]
  | 1, hu => simp at hu; subst hu; simp [Addr.add]
set_option maxHeartbeats 4000000 in
theorem toranges_any (v : Value) (w : World) (l : List Nat) (hl : l.length ≤ 4096) (hlt : ∀ n ∈ l, n < 4096) (h : GivesR v w (Z.is l)) :
    Calls Try.prog 47 #[v] w fun e w' => ∃ ao cap, e = .returned (.slice ao (Z.rg l).length cap) ∧ SlP w' ao (Z.rg l).length cap (Z.rg l) ∧ NewAt w w' ao ∧ Below w.heap.size w w' := by
  obtain ⟨g, lb, n₀, rfl, hn₀, heg, hseq⟩ := h.sub
  obtain ⟨i0, hi0, hz0, hz1, hz2⟩ := info_parts Try.infoSpan
  refine calls_marks Try.func47 rfl ?_
  simp only [Try.ntmps47, List.size_toArray, List.length_cons, List.length_nil, Nat.reduceAdd, Nat.reduceSub, Array.replicate_succ, Array.replicate_zero, List.push_toArray, List.append_toArray, List.nil_append, List.cons_append]
  have HEG := hide heg
  have HSEQ := hide hseq
  have HLT := hide hlt
  clear heg hseq h hlt
  go_wp2_with fail
  have bN := Boxed.new w 76 (.slice none 0 0)
  have hB0 := below_one w (.cells #[.slice none 0 0] 76)
  obtain ⟨w1, hw1⟩ : ∃ w1, w.alloc (.cells #[.slice none 0 0] 76) = w1 := ⟨_, rfl⟩
  have hsz : w1.heap.size = w.heap.size + 1 := by rw [← hw1]; simp
  rw [hw1] at bN hB0 ⊢
  clear hw1
  have hNl : (Z.is l).length ≤ 4096 := by simp [Z.is]; exact hl
  refine (wpIn_wide (n := 9)).1 (wpIn_rangeFunc_ownG rfl (by decide) (gf := g) (lb := lb) rfl trivial HEG.out HSEQ.out belowK_t (belowK_b (by omega)) hB0 (fun _ => rfl)
    (fun pre W => (∃ v, Boxed W w.heap.size 76 v ∧ W.ownsRow w.heap.size 86 2 v (Z.rg (tns pre)).length (cellsP (Z.rg (tns pre))) ∧ True) ∧ Below w.heap.size w W)
    (fun _ _ _ => False)
    (OwnFrom.and (Own.from (holdsRow_own w.heap.size w.heap.size 76 86 2 (fun pre : List { x : Int // x ∈ Z.is l } => (Z.rg (tns pre)).length) (fun pre => cellsP (Z.rg (tns pre))) (fun _ _ => True)) _) (ownFrom_below (Nat.le_refl _) (by omega)))
    (fun _ _ _ _ _ hs _ _ => hs)
    ⟨⟨_, bN, World.ownsRow_nil _ _ _ _, trivial⟩, hB0⟩
    (fun x => { tmps := #[.func (.func g) #[] lb, undef, .slice none 0 0, .pointer (some ⟨w.heap.size, 0, none⟩), .int .i64 x.1, undef, .func (.func g) #[] lb, .int .i64 x.1, undef, undef, undef, undef, undef, undef, undef, undef, undef, undef, undef, undef, undef, undef, undef, undef, undef, undef, undef, undef, undef, undef, undef, undef, undef, undef, undef, undef, undef, undef], defers := [] }) ?assign ?body ?done ?stop)
  case assign =>
    intro l x W K hK
    gi_wp2
    simpa using hK
  case body =>
    rintro lo pre ⟨x, hx⟩ W ⟨⟨v, hbx, hrow, -⟩, hB⟩ hlt
    obtain ⟨n, hn, rfl⟩ := is_mem hx
    have hn4 := HLT.out n hn
    have hpl : (tns pre).length < 4096 := by have : (tns pre).length = pre.length := by simp [tns]
                                             omega
    have hrl := rg_len (tns pre)
    obtain ⟨r, hr⟩ : ∃ r, Z.rg (tns pre) = r := ⟨_, rfl⟩
    have HRN : Hid (Z.rg (tns (pre ++ [⟨(n : Int), hx⟩])) = Z.stp r n) := by rw [tns_snoc, rg_snoc, hr]; rfl
    rw [hr] at hrow hrl
    have hrl2 : r.length < 4096 := by omega
    clear hr hrl hpl hlt
    obtain ⟨av, cv, rfl, sv, -⟩ := SlP.of_own (show OwnP W 86 w.heap.size v r from hrow)
    rcases snoc_or r with rfl | ⟨q, ⟨a, b⟩, rfl⟩
    · have hc := hbx.cell
      have hn5 : (n : Int) < 4096 := by omega
      gi_wp2_with (gi_at_builtin; refine wpListIn_append_own _ rfl _ _ 76 rfl w.heap.size 86 i0 (.agg #[.int .i64 0, .int .i64 0]) 2 16 Try.underlying76 hi0 hz0 hz1 hz2 rfl (by decide) _ 0 [] rfl (World.ownsRow.alloc hrow _) ⟨W.heap.size, 0, none⟩ 1 1 [.int .i64 (n : Int), .int .i64 ((n : Int) + 1)] rfl rfl (news_two _ _ _ _) (by simp [Value.oneCell']) (by unfold maxLen; omega) (by omega) (by have := hB.size; simp; omega) ?_)
      intro v' w3 hown hgrow hnil
      obtain ⟨h1, h2, h3, h4, h5⟩ := Boxed.appended (n₀ := w.heap.size) hbx (by decide) hrow hB.size (Nat.le_refl _) hown hgrow
      obtain ⟨ag, ac, rfl⟩ := ownsRow_succ hown
      have hc3 := h1.cell
      have hf3 := h1.frozen
      have H2 := hide h2
      have H3 := hide h3
      have H4 := hide h4
      have H5 := hide h5
      have HB := hide hB
      clear hbx hrow hB hc h1 h2 h3 h4 h5 hown hgrow hnil
      gi_wp2
      exact ⟨H4.out.from _, H5.out.mono hn₀, ⟨⟨_, H2.out, by rw [HRN.out, stp_nil]; exact H3.out, trivial⟩, HB.out.trans H5.out⟩⟩
    · obtain ⟨k, hk⟩ : ∃ k, q.length = k := ⟨_, rfl⟩
      have hk4 : k < 4095 := by simp at hrl2; omega
      have hql : (q ++ [(a, b)]).length = k + 1 := by simp [hk]
      obtain ⟨hg1, hg2⟩ := cellsP_get (q ++ [(a, b)]) k (a, b) (by rw [← hk]; simp)
      have hset := cellsP_last q a b (n + 1)
      rw [hk] at hset
      rw [hql] at hrow
      obtain ⟨xs, hxs⟩ : ∃ xs, cellsP (q ++ [(a, b)]) = xs := ⟨_, rfl⟩
      rw [hxs] at hrow hg1 hg2 hset
      obtain ⟨ag, ac, hv⟩ := ownsRow_succ hrow
      have hv2 : cv = ac := by injection hv
      have hv3 : av = some ⟨ag, 0, none⟩ := by injection hv
      subst hv2 hv3
      have hcb : W.cell? ⟨ag, k * 2 + 1, none⟩ = some (.int .i64 (b : Int)) := by rw [hrow.cellAt (k * 2 + 1) (by omega)]; exact hg2
      have hfb : W.frozen? ⟨ag, k * 2 + 1, none⟩ = false := hrow.frozenAt _
      have hc := hbx.cell
      have hn5 : (n : Int) < 4096 := by omega
      have hk5 : (k : Int) < 4096 := by omega
      rw [hql] at hbx hc
      have HK := hide hk
      clear hv sv hg1 hg2 hk hql
      by_cases hbn : b = n
      · have hbd : ((b : Int) == (n : Int)) = true := by simp [hbn]
        have hst := hrow.stored (k * 2 + 1) (.int .i64 ((n + 1 : Nat) : Int))
        have HNEW : Hid (Z.stp (q ++ [(a, b)]) n = q ++ [(a, n + 1)]) := by subst hbn; exact stp_on _ _ _
        have hb1 := hbx.kept hst.2 (hbx.not_row (by decide) hrow)
        have hoth : KeepsOthers W (W.setCell ⟨ag, k * 2 + 1, none⟩ (.int .i64 ((n + 1 : Nat) : Int))) := KeepsOthers.setCell _ _ _
        have hbel : Below w.heap.size W (W.setCell ⟨ag, k * 2 + 1, none⟩ (.int .i64 ((n + 1 : Nat) : Int))) := (Below.refl _ W).setCell (p := ⟨ag, k * 2 + 1, none⟩) ((hrow.lt ag rfl).1) _
        subst hbn
        rw [show ((b + 1 : Nat) : Int) = (b : Int) + 1 by omega] at hst hb1 hoth hbel
        have HST := hide hst.1
        have HB1 := hide hb1
        have HO := hide hoth
        have HBE := hide hbel
        have HB := hide hB
        have HSET := hide hset
        have HXS := hide hxs
        clear hst hb1 hoth hbel hB hset hbx hrow hxs
        gi_wp2
        refine ⟨HO.out.from _, HBE.out.mono hn₀, ⟨⟨_, HB1.out, ?_, trivial⟩, HB.out.trans HBE.out⟩⟩
        have h1 := HSET.out
        rw [show ((b + 1 : Nat) : Int) = (b : Int) + 1 by omega] at h1
        rw [HRN.out, HNEW.out, ← h1, show (q ++ [(a, b + 1)]).length = k + 1 by simp [HK.out]]
        exact HST.out
      · have hbd : ((b : Int) == (n : Int)) = false := by simp; omega
        have HNEW : Hid (Z.stp (q ++ [(a, b)]) n = (q ++ [(a, b)]) ++ [(n, n + 1)]) := stp_new _ _ _ _ hbn
        have HXS := hide hxs
        clear hfb hset hxs
        gi_wp2_with (gi_at_builtin; refine wpListIn_append_own _ rfl _ _ 76 rfl w.heap.size 86 i0 (.agg #[.int .i64 0, .int .i64 0]) 2 16 Try.underlying76 hi0 hz0 hz1 hz2 rfl (by decide) _ (k + 1) xs rfl (World.ownsRow.alloc hrow _) ⟨W.heap.size, 0, none⟩ 1 1 [.int .i64 (n : Int), .int .i64 ((n : Int) + 1)] rfl rfl (news_two _ _ _ _) (by simp [Value.oneCell']) (by unfold maxLen; omega) (by omega) (by have := hB.size; simp; omega) ?_)
        intro v' w3 hown hgrow hnil
        obtain ⟨h1, h2, h3, h4, h5⟩ := Boxed.appended (n₀ := w.heap.size) hbx (by decide) hrow hB.size (Nat.le_refl _) hown hgrow
        obtain ⟨ag, ac, rfl⟩ := ownsRow_succ hown
        have hc3 := h1.cell
        have hf3 := h1.frozen
        have H2 := hide h2
        have H3 := hide h3
        have H4 := hide h4
        have H5 := hide h5
        have HB := hide hB
        clear hbx hrow hB hc h1 h2 h3 h4 h5 hown hgrow hnil
        gi_wp2
        refine ⟨H4.out.from _, H5.out.mono hn₀, ⟨⟨_, H2.out, ?_, trivial⟩, HB.out.trans H5.out⟩⟩
        rw [HRN.out, HNEW.out, cellsP_append, HXS.out, show (q ++ [(a, b)] ++ [(n, n + 1)]).length = k + 1 + 1 by simp [HK.out]]
        exact H3.out
  case done =>
    rintro D ys W hD hys ⟨⟨v, hbx, hrow, -⟩, hB⟩ hK
    rw [tns_all hys] at hrow
    have hro : OwnP (W.putObj D (.deferred none)) 86 w.heap.size v (Z.rg l) := ownsRow_putObj hrow (.deferred none) hK rfl
    obtain ⟨ao, cap, rfl, hsl, hob⟩ := SlP.of_own hro
    have hnw : NewAt w (W.putObj D (.deferred none)) ao := NewAt.of_owns (e := 86) hro (by decide)
    have HNW := hide hnw
    clear hob hnw
    have hc := hbx.cell
    have HSL := hide hsl
    have HB := hide hB
    clear hrow hro hbx hsl hB
    go_wp2
    refine ⟨by simp, .inl ⟨_, _, rfl, run_takeDeferred hK, ?_⟩⟩
    have hbp : Below w.heap.size W (W.putObj D (.deferred none)) := belowK_b (w := w1) (by omega) W D _ _ (by omega) hK rfl rfl
    exact ⟨_, results_tmp rfl _ _ _, ao, cap, rfl, HSL.out, HNW.out, HB.out.trans hbp⟩
  case stop =>
    rintro D c pre W _ _ h _
    exact h.elim
end Go.Proofs.Ytlbchdlokimpfaa

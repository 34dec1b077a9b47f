/- The contract of val's Of. -/
import Derived.Test.YtmhfpipeoojacaaGreatBdR
import Derived.Test.YtmhfpipeoojacaaGreatBdD
import Derived.Test.YtmhfpipeoojacaaGreatBdQ
import Derived.Test.YtmhfpipeoojacaaGreatBdM
namespace Go.Proofs.YtmhfpipeoojacaaGreat
set_option linter.unusedVariables false
open Go.RowKit

theorem oE_null (l : List Nat) : Z.oE l 0 = 0 := by unfold Z.oE; rw [if_pos rfl]
theorem oW_null (l : List Nat) : Z.oW l 0 = ⟨0, 0, ⟨#[]⟩⟩ := rfl
theorem oS_null (l : List Nat) : Z.oS l 0 = l := rfl
theorem oE_else {l : List Nat} {kind : Int} (h0 : kind ≠ 0) (h1 : kind ≠ 1) (h2 : kind ≠ 2) (h3 : kind ≠ 3) : Z.oE l kind = 1 := by unfold Z.oE; rw [if_neg h0, if_neg h1, if_neg h2, if_neg h3]
theorem OfAns.put {l : List Nat} {kind : Int} {w w1 w2 : World} {b : Nat} {k i k' i' : Int} {s s' : ByteArray} {a : Option Addr} {n c : Nat} {E : Int} (hw : Below w.heap.size w w1) (h : OfAns l kind w1 (.returned (.tuple #[.agg #[.int .i64 k, .int .i64 i, .string s], .slice a n c, .int .i64 E])) w2) (hA : At w2 b k' i' s') (hb : w.heap.size ≤ b) :
    OfAns l kind w (.returned (.tuple #[.agg #[.int .i64 k, .int .i64 i, .string s], .slice a n c, .int .i64 E])) (putV w2 b k i s) := by
  obtain ⟨a1, c1, h1, h2, h3⟩ := h
  have hn : n = (Z.oR l kind).length ∧ a = a1 ∧ c = c1 := by
    simp [Ending.returned.injEq] at h1
    exact ⟨h1.2.1.2.1, h1.2.1.1, h1.2.1.2.2⟩
  obtain ⟨rfl, rfl, rfl⟩ := hn
  exact ⟨_, _, h1, h2.putV hA k i s, putV_below k i s (bthen hw h3) hb⟩
theorem OfAns.bel {l : List Nat} {kind : Int} {w w' : World} {e : Ending} (h : OfAns l kind w e w') : Below w.heap.size w w' := by
  obtain ⟨_, _, _, _, h⟩ := h
  exact h
theorem OfAns.shape {l : List Nat} {kind : Int} {w w' : World} {e : Ending} (h : OfAns l kind w e w') : ∃ k i s a n c E, e = .returned (.tuple #[.agg #[.int .i64 k, .int .i64 i, .string s], .slice a n c, .int .i64 E]) := by
  obtain ⟨a1, c1, h1, _⟩ := h
  exact ⟨_, _, _, _, _, _, _, h1⟩
set_option maxHeartbeats 1000000 in
theorem vof_any (ao : Option Addr) (len cap : Nat) (l : List Nat) (kind : Int) (w : World) (h : Sl w .u8 ao len cap (ints l)) (h256 : ∀ x ∈ l, x < 256) (hm : len ≤ 140737488355328) :
    Calls Tryz.prog 99 #[.slice ao len cap, .int .i64 kind] w (OfAns l kind w) := by
  have hl : l.length = len := by rw [← h.1, ints_length]
  have hA := At.new w 0 0 ⟨#[]⟩
  have b0 := hide (below_one w (.cells #[.int .i64 0, .int .i64 0, .string ⟨#[]⟩] 45))
  have HS := hide (h.below b0.out)
  have H2 := hide h256
  have HL := hide hl
  clear h h256 hl
  by_cases k0 : kind = 0
  · subst k0
    go_enter Tryz.func99, Tryz.ntmps99
    go_wp2_with fail
    refine (clone_any _ _ _ l _ HS.out hm).mono ?_
    rintro e w1 ⟨qa, qc, rfl, hs2, hb2⟩
    replace hA := hA.below hb2
    replace b0 := hide (bthen b0.out hb2)
    have hs3 := hide hs2
    clear hb2 hs2
    obtain ⟨a1, a2, a3⟩ := hA.cells
    obtain ⟨f1, f2, f3⟩ := hA.thawed
    replace hA := hide hA
    go_wp2
    refine bodyPost_ret (results_val Tryz.results99 _ _ w.heap.size rfl (hA.out.set 0 0 ⟨#[]⟩)) rfl ?_
    exact OfAns.yes (oE_null l) (oW_null l) (oS_null l) HL.out (hs3.out.putV hA.out 0 0 ⟨#[]⟩) (putV_below 0 0 ⟨#[]⟩ b0.out (Nat.le_refl _))
  · by_cases k1 : kind = 1
    · subst k1
      go_enter Tryz.func99, Tryz.ntmps99
      go_wp2_with fail
      refine (vtoint_any _ _ _ l _ HS.out H2.out hm).mono ?_
      intro e w1 ho
      obtain ⟨k, i, s, qa, qn, qc, qe, rfl⟩ := ho.shape
      replace hA := hA.below ho.bel
      have HO := hide ho
      clear ho
      obtain ⟨a1, a2, a3⟩ := hA.cells
      obtain ⟨f1, f2, f3⟩ := hA.thawed
      replace hA := hide hA
      go_wp2
      refine bodyPost_ret (results_val Tryz.results99 _ _ w.heap.size rfl (hA.out.set k i s)) rfl ?_
      exact OfAns.put b0.out HO.out hA.out (Nat.le_refl _)
    · by_cases k2 : kind = 2
      · subst k2
        go_enter Tryz.func99, Tryz.ntmps99
        go_wp2_with fail
        refine (vtofloat_any _ _ _ l _ HS.out H2.out hm).mono ?_
        intro e w1 ho
        obtain ⟨k, i, s, qa, qn, qc, qe, rfl⟩ := ho.shape
        replace hA := hA.below ho.bel
        have HO := hide ho
        clear ho
        obtain ⟨a1, a2, a3⟩ := hA.cells
        obtain ⟨f1, f2, f3⟩ := hA.thawed
        replace hA := hide hA
        go_wp2
        refine bodyPost_ret (results_val Tryz.results99 _ _ w.heap.size rfl (hA.out.set k i s)) rfl ?_
        exact OfAns.put b0.out HO.out hA.out (Nat.le_refl _)
      · by_cases k3 : kind = 3
        · subst k3
          go_enter Tryz.func99, Tryz.ntmps99
          go_wp2_with fail
          refine (vtotext_any _ _ _ l _ HS.out H2.out hm).mono ?_
          intro e w1 ho
          obtain ⟨k, i, s, qa, qn, qc, qe, rfl⟩ := ho.shape
          replace hA := hA.below ho.bel
          have HO := hide ho
          clear ho
          obtain ⟨a1, a2, a3⟩ := hA.cells
          obtain ⟨f1, f2, f3⟩ := hA.thawed
          replace hA := hide hA
          go_wp2
          refine bodyPost_ret (results_val Tryz.results99 _ _ w.heap.size rfl (hA.out.set k i s)) rfl ?_
          exact OfAns.put b0.out HO.out hA.out (Nat.le_refl _)
        · obtain ⟨a1, a2, a3⟩ := hA.cells
          obtain ⟨f1, f2, f3⟩ := hA.thawed
          replace hA := hide hA
          go_enter Tryz.func99, Tryz.ntmps99
          go_wp2
          refine bodyPost_ret (results_val Tryz.results99 _ _ w.heap.size rfl hA.out) rfl ?_
          exact OfAns.no (oE_else k0 k1 k2 k3) (by decide) b0.out
end Go.Proofs.YtmhfpipeoojacaaGreat
/- Parts of slices in a region that draws its order. -/
namespace Go.Proofs.YtmhfpipeoojacaaGreat.V
set_option linter.unusedVariables false
open Go.RowKit
variable {ops : Array Oper} {Q : Exit → Act → World → Prop} {tbl : List (Nat × Ent)} {w0 : World} {o : Oper}

theorem size_u8 (w : World) : (sizeOf 5).run Tryz.prog w = .ok 1 w := by
  obtain ⟨i0, hi, hz0, hz1, hz2⟩ := info_parts Tryz.infoU8
  simp [sizeOf, typeInfo, hi, hz1]
theorem elem_bytes : Tryz.prog.elem 23 = 5 := by kernel_rfl
theorem under_bytes : Tryz.prog.underlying 23 = some (.slice (Tryz.prog.elem 23)) := by rw [elem_bytes]; exact Tryz.underlying23

theorem Step.part {s p q i j len cap : Nat} {a0 : Option Addr} {l : List Nat} (hw : Wants tbl ops o) (ho : o.op = .slice 23 (.tmp s) (some (.tmp p)) (some (.tmp q)) none) (hs : get tbl s = Ent.is (.slice a0 len cap)) (hp : get tbl p = Ent.is (.int .i64 (i : Int))) (hq : get tbl q = Ent.is (.int .i64 (j : Int)))
    (hsl : Sl w0 .u8 a0 len cap (ints l)) (hij : i ≤ j) (hj : j ≤ len) (hd : ∀ d, o.dst = some d → get tbl d = Ent.sl (j - i) ((l.take j).drop i)) : Step Tryz.prog ops Q tbl w0 o := by
  refine Step.value hw fun a w hb hk => ⟨.slice (if cap = i then a0 else a0.map (·.add (i * 1))) (j - i) (cap - i), ?_, fun d h => ?_⟩
  · have h1 : a.eval (.tmp s) = .slice a0 len cap := by
      have := hk s (looks_op (by rw [ho]; simp [Op.operands]))
      rwa [hs] at this
    have h2 : a.eval (.tmp p) = .int .i64 (i : Int) := by
      have := hk p (looks_op (by rw [ho]; simp [Op.operands]))
      rwa [hp] at this
    have h3 : a.eval (.tmp q) = .int .i64 (j : Int) := by
      have := hk q (looks_op (by rw [ho]; simp [Op.operands]))
      rwa [hq] at this
    have hc := hsl.2.1
    have hr := run_slice_lh (P := Tryz.prog) w 23 a0 len cap under_bytes .i64 .i64 (i : Int) (j : Int) (by omega) (by omega) (by omega)
    rw [elem_bytes, size_u8] at hr
    simp only [Result.andThen_ok, Int.toNat_natCast, sliced] at hr
    simp only [execOp, ho, h1, h2, h3, Option.map_some, Option.map_none]
    have hr2 := run_sliceAt_slice (P := Tryz.prog) w 23 (.slice a0 len cap) (some (.int .i64 (i : Int))) (some (.int .i64 (j : Int))) none under_bytes
    simp [hr2, hr]
  · rw [hd d h]
    have := (hsl.below hb).part i j hij hj
    rw [← ints_take, ← ints_drop] at this
    exact ⟨_, _, rfl, this⟩
theorem Step.rest {s p i len cap : Nat} {a0 : Option Addr} {l : List Nat} (hw : Wants tbl ops o) (ho : o.op = .slice 23 (.tmp s) (some (.tmp p)) none none) (hs : get tbl s = Ent.is (.slice a0 len cap)) (hp : get tbl p = Ent.is (.int .i64 (i : Int)))
    (hsl : Sl w0 .u8 a0 len cap (ints l)) (hi : i ≤ len) (hd : ∀ d, o.dst = some d → get tbl d = Ent.sl (len - i) (l.drop i)) : Step Tryz.prog ops Q tbl w0 o := by
  refine Step.value hw fun a w hb hk => ⟨.slice (if cap = i then a0 else a0.map (·.add (i * 1))) (len - i) (cap - i), ?_, fun d h => ?_⟩
  · have h1 : a.eval (.tmp s) = .slice a0 len cap := by
      have := hk s (looks_op (by rw [ho]; simp [Op.operands]))
      rwa [hs] at this
    have h2 : a.eval (.tmp p) = .int .i64 (i : Int) := by
      have := hk p (looks_op (by rw [ho]; simp [Op.operands]))
      rwa [hp] at this
    have hr := run_slice_l (P := Tryz.prog) w 23 a0 len cap under_bytes .i64 (i : Int) (by omega) (by omega)
    rw [elem_bytes, size_u8] at hr
    simp only [Result.andThen_ok, Int.toNat_natCast, sliced] at hr
    simp only [execOp, ho, h1, h2, Option.map_some, Option.map_none]
    have hr2 := run_sliceAt_slice (P := Tryz.prog) w 23 (.slice a0 len cap) (some (.int .i64 (i : Int))) none none under_bytes
    simp [hr2, hr]
  · rw [hd d h]
    have := (hsl.below hb).part i len hi (Nat.le_refl _)
    rw [List.take_of_length_le (by rw [hsl.1]; exact Nat.le_refl _), ← ints_drop] at this
    exact ⟨_, _, rfl, this⟩
end Go.Proofs.YtmhfpipeoojacaaGreat.V
/- The contract of the reference's ToText. -/
namespace Go.Proofs.YtmhfpipeoojacaaGreat
set_option linter.unusedVariables false
open Go.RowKit

theorem conv_ui (w : World) (n : Int) (h0 : 0 ≤ n) (h1 : n < 9223372036854775808) : (convert 48 3 (.int .u64 n)).run Tryz.prog w = .ok (.int .i64 n) w := by
  simp [go_sem, IntKind.wrap_i64]; omega
theorem add_kn (w : World) (K : Nat) (N : Int) (h0 : 0 ≤ N) (h1 : (K : Int) + N < 9223372036854775808) : (binOp .add 3 (.int .i64 (K : Int)) (.int .i64 N)).run Tryz.prog w = .ok (.int .i64 ((K + N.toNat : Nat) : Int)) w := by
  have e : ((K + N.toNat : Nat) : Int) = (K : Int) + N := by omega
  rw [e]
  simp [go_sem, IntKind.wrap_i64]; omega

namespace V
variable {ops : Array Oper} {Q : Exit → Act → World → Prop} {tbl : List (Nat × Ent)} {w0 : World} {o : Oper}
/-- Bytes that could be read in an elder world already. -/
def Ent.slAt (W : World) (k : Nat) (l : List Nat) : Ent := ⟨fun v _ => ∃ a c, v = .slice a k c ∧ Sl W .u8 a k c (ints l), fun _ h => h⟩
theorem Step.restAt {s p i len cap : Nat} {a0 : Option Addr} {l : List Nat} {W : World} (hw : Wants tbl ops o) (ho : o.op = .slice 23 (.tmp s) (some (.tmp p)) none none) (hs : get tbl s = Ent.is (.slice a0 len cap)) (hp : get tbl p = Ent.is (.int .i64 (i : Int)))
    (hsl : Sl W .u8 a0 len cap (ints l)) (hi : i ≤ len) (hd : ∀ d, o.dst = some d → get tbl d = Ent.slAt W (len - i) (l.drop i)) : Step Tryz.prog ops Q tbl w0 o := by
  refine Step.value hw fun a w hb hk => ⟨.slice (if cap = i then a0 else a0.map (·.add (i * 1))) (len - i) (cap - i), ?_, fun d h => ?_⟩
  · have h1 : a.eval (.tmp s) = .slice a0 len cap := by
      have := hk s (looks_op (by rw [ho]; simp [Op.operands]))
      rwa [hs] at this
    have h2 : a.eval (.tmp p) = .int .i64 (i : Int) := by
      have := hk p (looks_op (by rw [ho]; simp [Op.operands]))
      rwa [hp] at this
    have hr := run_slice_l (P := Tryz.prog) w 23 a0 len cap under_bytes .i64 (i : Int) (by omega) (by omega)
    rw [elem_bytes, size_u8] at hr
    simp only [Result.andThen_ok, Int.toNat_natCast, sliced] at hr
    simp only [execOp, ho, h1, h2, Option.map_some, Option.map_none]
    have hr2 := run_sliceAt_slice (P := Tryz.prog) w 23 (.slice a0 len cap) (some (.int .i64 (i : Int))) none none under_bytes
    simp [hr2, hr]
  · rw [hd d h]
    have := hsl.part i len hi (Nat.le_refl _)
    rw [List.take_of_length_le (by rw [hsl.1]; exact Nat.le_refl _), ← ints_drop] at this
    exact ⟨_, _, rfl, this⟩
end V
def totextTbl (W : World) (ao : Option Addr) (len cap K : Nat) (N : Int) (l : List Nat) : List (Nat × V.Ent) :=
   [(0, V.Ent.is (.slice ao len cap)),
    (8, V.Ent.is (.int .i64 (K : Int))),
    (7, V.Ent.is (.int .u64 N)),
    (34, V.Ent.is (.slice ao len cap)),
    (35, V.Ent.is (.int .i64 (K : Int))),
    (36, V.Ent.is (.int .i64 (K : Int))),
    (37, V.Ent.is (.int .u64 N)),
    (38, V.Ent.is (.int .i64 N)),
    (39, V.Ent.is (.int .i64 ((K + N.toNat : Nat) : Int))),
    (40, V.Ent.sl ((K + N.toNat - K)) (((l.take (K + N.toNat)).drop K))),
    (41, V.Ent.is (.string (strOfNums (ints (((l.take (K + N.toNat)).drop K)))))),
    (42, V.Ent.is (.slice ao len cap)),
    (43, V.Ent.is (.int .i64 (K : Int))),
    (44, V.Ent.is (.int .u64 N)),
    (45, V.Ent.is (.int .i64 N)),
    (46, V.Ent.is (.int .i64 ((K + N.toNat : Nat) : Int))),
    (47, V.Ent.slAt W ((len - (K + N.toNat))) ((l.drop (K + N.toNat)))),
    (4, V.Ent.is (.string (strOfNums (ints (((l.take (K + N.toNat)).drop K)))))),
    (5, V.Ent.slAt W ((len - (K + N.toNat))) ((l.drop (K + N.toNat)))),
    (6, V.Ent.is (.int .i64 0))]

set_option maxHeartbeats 2000000 in
theorem rtotext_at (W : World) (ao : Option Addr) (len cap : Nat) (l : List Nat) (most : Int) (w : World) (h0 : Sl W .u8 ao len cap (ints l)) (h : Sl w .u8 ao len cap (ints l)) (h256 : ∀ x ∈ l, x < 256) (hm : len ≤ 140737488355328) (hm0 : -9223372036854775808 ≤ most) (hm1 : most < 9223372036854775808) :
    Calls Tryz.prog 104 #[.slice ao len cap, .int .i64 most] w fun e w' => ∃ v1 v2, e = .returned (.tuple #[v1, v2, .int .i64 ((E.xE most l : Nat) : Int)]) ∧ TextAns most l w.heap.size W v1 v2 ∧ Below w.heap.size w w' := by
  have hlen : l.length = len := by rw [← h.1, ints_length]
  have HL := hide hlen
  have HS := hide h
  have HS0 := hide h0
  have H2 := hide h256
  have hcap := h.2.1
  clear hlen h h0 h256
  obtain ⟨G, hG⟩ : ∃ G : Int, ((E.gE l : Nat) : Int) = G := ⟨_, rfl⟩
  obtain ⟨N, hN⟩ : ∃ N : Int, ((E.gN l : Nat) : Int) = N := ⟨_, rfl⟩
  obtain ⟨K, hK⟩ : ∃ K : Nat, E.gK l = K := ⟨_, rfl⟩
  have hnl := E.gN_lt H2.out
  have hN0 : 0 ≤ N := by omega
  have hN1 : N < 18446744073709551616 := by omega
  have HGG := hide hG
  have HN := hide hN
  have HK := hide hK
  by_cases hg : E.gE l = 0
  · obtain ⟨k1, k2, _, _, _, _⟩ := E.gE_zero hg H2.out
    have hK1 : K ≤ len := by have := HL.out; omega
    have hG0 : G = 0 := by omega
    subst hG0
    have HG := hide hg
    clear hg hG hN hK hnl k1 k2
    go_enter Tryz.func104, Tryz.ntmps104
    go_wp2_with fail
    refine (rget_any _ _ _ l _ HS.out H2.out hm).mono ?_
    rintro e w1 ⟨rfl, rfl⟩
    rw [HGG.out, HN.out, HK.out]
    by_cases c1 : most < 0
    · go_wp2
      go_ret3
      have hx := E.xE_range (most := most) HG.out (.inl c1)
      exact ⟨_, _, by rw [hx]; rfl, TextAns.bad (by rw [hx]; decide), Below.refl _ _⟩
    · have c1' : 0 ≤ most := by omega
      by_cases c2 : most < N
      · go_wp2
        go_ret3
        have hx := E.xE_range (most := most) HG.out (.inr (by rw [HN.out]; exact c2))
        exact ⟨_, _, by rw [hx]; rfl, TextAns.bad (by rw [hx]; decide), Below.refl _ _⟩
      · have c2' : N ≤ most := by omega
        by_cases c3 : (len : Int) - (K : Int) < N
        · clear c1 c2
          go_wp2
          go_ret3
          have hx := E.xE_short (most := most) HG.out c1' (by rw [HN.out]; exact c2') (by have := HN.out; have := HL.out; have := HK.out; omega)
          exact ⟨_, _, by rw [hx]; rfl, TextAns.bad (by rw [hx]; decide), Below.refl _ _⟩
        · have c3' : N ≤ (len : Int) - (K : Int) := by omega
          have hN63 : N < 9223372036854775808 := by omega
          clear c1 c2 c3
          go_wp2
          refine V.wp_region (w0 := w1) [0, 8, 7] (totextTbl W ao len cap K N l) (by kernel_rfl) (by kernel_rfl) (Below.refl _ _) ?hb ?hs ?hd
          case hb =>
            intro d hd
            simp only [List.mem_cons, List.not_mem_nil, or_false] at hd
            rcases hd with rfl | rfl | rfl <;> rfl
          case hs =>
            refine ⟨?_, ?_, ?_, ?_, ?_, ?_, ?_, ?_, ?_, ?_, ?_, ?_, ?_, ?_, ?_, ?_, ?_, trivial⟩
            · exact V.Step.move (.inl rfl) (.inl rfl) (.inl ⟨_, rfl⟩) (fun _ h => by cases h; rfl)
            · exact V.Step.move (.inl rfl) (.inl rfl) (.inl ⟨_, rfl⟩) (fun _ h => by cases h; rfl)
            · exact V.Step.move (.inl rfl) (.inl rfl) (.inl ⟨_, rfl⟩) (fun _ h => by cases h; rfl)
            · exact V.Step.move (.inl rfl) (.inl rfl) (.inl ⟨_, rfl⟩) (fun _ h => by cases h; rfl)
            · exact V.Step.conv (.inl rfl) rfl rfl (fun w => conv_ui w N hN0 hN63) (fun _ h => by cases h; rfl)
            · exact V.Step.bin (v1 := .int .i64 (K : Int)) (v2 := .int .i64 N) (v := .int .i64 ((K + N.toNat : Nat) : Int)) (.inl rfl) rfl (.inl ⟨_, rfl⟩) (.inl ⟨_, rfl⟩) rfl rfl (fun w => ⟨rfl, add_kn w K N hN0 (by omega)⟩) (fun _ h => by cases h; rfl)
            · exact V.Step.part (.inl rfl) rfl rfl rfl rfl HS.out (by omega) (by omega) (fun _ h => by cases h; rfl)
            · exact V.Step.str (.inl rfl) rfl rfl (fun _ h => by cases h; rfl)
            · exact V.Step.move (.inl rfl) (.inl rfl) (.inl ⟨_, rfl⟩) (fun _ h => by cases h; rfl)
            · exact V.Step.move (.inl rfl) (.inl rfl) (.inl ⟨_, rfl⟩) (fun _ h => by cases h; rfl)
            · exact V.Step.move (.inl rfl) (.inl rfl) (.inl ⟨_, rfl⟩) (fun _ h => by cases h; rfl)
            · exact V.Step.conv (.inl rfl) rfl rfl (fun w => conv_ui w N hN0 hN63) (fun _ h => by cases h; rfl)
            · exact V.Step.bin (v1 := .int .i64 (K : Int)) (v2 := .int .i64 N) (v := .int .i64 ((K + N.toNat : Nat) : Int)) (.inl rfl) rfl (.inl ⟨_, rfl⟩) (.inl ⟨_, rfl⟩) rfl rfl (fun w => ⟨rfl, add_kn w K N hN0 (by omega)⟩) (fun _ h => by cases h; rfl)
            · exact V.Step.restAt (.inl rfl) rfl rfl rfl HS0.out (by omega) (fun _ h => by cases h; rfl)
            · exact V.Step.move (.inl rfl) (.inr rfl) (.inl ⟨_, rfl⟩) (fun _ h => by cases h; rfl)
            · exact V.Step.move (.inl rfl) (.inr rfl) (.inl ⟨_, rfl⟩) (fun _ h => by cases h; rfl)
            · exact V.Step.move (.inl rfl) (.inr rfl) (.inr ⟨_, rfl⟩) (fun _ h => by cases h; rfl)
          case hd =>
            intro a1 w2 hw2 hdf hk
            have h4 : a1.tmps[4]?.getD undef = .string (strOfNums (ints ((l.take (K + N.toNat)).drop K))) := V.slot_of (hk 14 _ 4 rfl rfl)
            obtain ⟨a5, c5, h5, hs5⟩ := hk 15 _ 5 rfl rfl
            have h5' := V.slot_of h5
            have h6 : a1.tmps[6]?.getD undef = .int .i64 0 := V.slot_of (hk 16 _ 6 rfl rfl)
            go_wp2
            have hsK : N.toNat = E.gN l := by have := HN.out; omega
            have hx := E.xE_ok (most := most) HG.out c1' (by rw [HN.out]; exact c2') (by have := HL.out; have := HK.out; omega)
            have eS : (l.take (K + N.toNat)).drop K = E.yS most l := by
              unfold E.yS; rw [if_pos hx, E.xS, HK.out, hsK, List.drop_take, Nat.add_sub_cancel_left]
            have eR : l.drop (K + N.toNat) = E.yR most l := by
              unfold E.yR; rw [if_pos hx, E.xR, HK.out, hsK, List.drop_drop]
            have eL : len - (K + N.toNat) = (E.yR most l).length := by rw [← eR, List.length_drop, HL.out]
            refine bodyPost_ret (v := .tuple #[.string (strOfNums (ints ((l.take (K + N.toNat)).drop K))), .slice a5 (len - (K + N.toNat)) c5, .int .i64 0]) (by simp [results, Tryz.results104, h4, h5', h6, go_sem]) hdf ⟨_, _, by rw [hx]; rfl, ?_, hw2⟩
            rw [eS, eL]
            rw [eR, eL] at hs5
            exact ⟨rfl, a5, c5, rfl, hs5⟩
  · have hGb : (G != 0) = true := by simp; omega
    have HG := hide hg
    clear hg hG hN hK hnl
    go_enter Tryz.func104, Tryz.ntmps104
    go_wp2_with fail
    refine (rget_any _ _ _ l _ HS.out H2.out hm).mono ?_
    rintro e w1 ⟨rfl, rfl⟩
    rw [HGG.out, HN.out, HK.out]
    go_wp2
    go_ret3
    have hx := E.xE_bad (most := most) HG.out
    exact ⟨_, _, by rw [hx, HGG.out]; rfl, TextAns.bad (by rw [hx]; exact HG.out), Below.refl _ _⟩
theorem rtotext_any (ao : Option Addr) (len cap : Nat) (l : List Nat) (most : Int) (w : World) (h : Sl w .u8 ao len cap (ints l)) (h256 : ∀ x ∈ l, x < 256) (hm : len ≤ 140737488355328) (hm0 : -9223372036854775808 ≤ most) (hm1 : most < 9223372036854775808) :
    Calls Tryz.prog 104 #[.slice ao len cap, .int .i64 most] w fun e w' => ∃ v1 v2, e = .returned (.tuple #[v1, v2, .int .i64 ((E.xE most l : Nat) : Int)]) ∧ TextAns most l w.heap.size w' v1 v2 ∧ Below w.heap.size w w' := by
  refine (rtotext_at w ao len cap l most w h h h256 hm hm0 hm1).mono ?_
  rintro e w' ⟨v1, v2, rfl, ⟨h1, a, c, h2, h3⟩, hb⟩
  exact ⟨v1, v2, rfl, ⟨h1, a, c, h2, h3.below hb⟩, hb⟩
end Go.Proofs.YtmhfpipeoojacaaGreat

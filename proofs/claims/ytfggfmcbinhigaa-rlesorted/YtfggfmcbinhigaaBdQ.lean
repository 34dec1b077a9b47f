/- Parts of slices in a region that draws its order. -/
import Derived.Test.YtfggfmcbinhigaaBdI
import Derived.Test.YtfggfmcbinhigaaBdO
import Derived.Test.YtfggfmcbinhigaaBdF
import Derived.Test.YtfggfmcbinhigaaBdP
namespace Go.Proofs.Ytfggfmcbinhigaa.V
set_option linter.unusedVariables false
open Go.RowKit
variable {ops : Array Oper} {Q : Exit → Act → World → Prop} {tbl : List (Nat × Ent)} {w0 : World} {o : Oper}

theorem size_u8 (w : World) : (sizeOf 5).run Try.prog w = .ok 1 w := by
  obtain ⟨i0, hi, hz0, hz1, hz2⟩ := info_parts Try.infoU8
  simp [sizeOf, typeInfo, hi, hz1]
theorem elem_bytes : Try.prog.elem 23 = 5 := by kernel_rfl
theorem under_bytes : Try.prog.underlying 23 = some (.slice (Try.prog.elem 23)) := by rw [elem_bytes]; exact Try.underlying23

theorem Step.part {s p q i j len cap : Nat} {a0 : Option Addr} {l : List Nat} (hw : Wants tbl ops o) (ho : o.op = .slice 23 (.tmp s) (some (.tmp p)) (some (.tmp q)) none) (hs : get tbl s = Ent.is (.slice a0 len cap)) (hp : get tbl p = Ent.is (.int .i64 (i : Int))) (hq : get tbl q = Ent.is (.int .i64 (j : Int)))
    (hsl : Sl w0 .u8 a0 len cap (ints l)) (hij : i ≤ j) (hj : j ≤ len) (hd : ∀ d, o.dst = some d → get tbl d = Ent.sl (j - i) ((l.take j).drop i)) : Step Try.prog ops Q tbl w0 o := by
  refine Step.value hw fun a w hb hk => ⟨.slice (if cap = i then a0 else a0.map (·.add (i * 1))) (j - i) (cap - i), ?_, fun d h => ?_⟩
  · have h1 : a.eval (.tmp s) = .slice a0 len cap := by
      have := hk s (looks_op (by rw [ho]; simp [Op.operands]))
      rwa [hs] at this
    have h2 : a.eval (.tmp p) = .int .i64 (i : Int) := by
      have := hk p (looks_op (by rw [ho]; simp [Op.operands]))
      rwa [hp] at this
    have h3 : a.eval (.tmp q) = .int .i64 (j : Int) := by
      have := hk q (looks_op (by rw [ho]; simp [Op.operands]))
      rwa [hq] at this
    have hc := hsl.2.1
    have hr := run_slice_lh (P := Try.prog) w 23 a0 len cap under_bytes .i64 .i64 (i : Int) (j : Int) (by omega) (by omega) (by omega)
    rw [elem_bytes, size_u8] at hr
    simp only [Result.andThen_ok, Int.toNat_natCast, sliced] at hr
    simp only [execOp, ho, h1, h2, h3, Option.map_some, Option.map_none]
    have hr2 := run_sliceAt_slice (P := Try.prog) w 23 (.slice a0 len cap) (some (.int .i64 (i : Int))) (some (.int .i64 (j : Int))) none under_bytes
    simp [hr2, hr]
  · rw [hd d h]
    have := (hsl.below hb).part i j hij hj
    rw [← ints_take, ← ints_drop] at this
    exact ⟨_, _, rfl, this⟩
theorem Step.rest {s p i len cap : Nat} {a0 : Option Addr} {l : List Nat} (hw : Wants tbl ops o) (ho : o.op = .slice 23 (.tmp s) (some (.tmp p)) none none) (hs : get tbl s = Ent.is (.slice a0 len cap)) (hp : get tbl p = Ent.is (.int .i64 (i : Int)))
    (hsl : Sl w0 .u8 a0 len cap (ints l)) (hi : i ≤ len) (hd : ∀ d, o.dst = some d → get tbl d = Ent.sl (len - i) (l.drop i)) : Step Try.prog ops Q tbl w0 o := by
  refine Step.value hw fun a w hb hk => ⟨.slice (if cap = i then a0 else a0.map (·.add (i * 1))) (len - i) (cap - i), ?_, fun d h => ?_⟩
  · have h1 : a.eval (.tmp s) = .slice a0 len cap := by
      have := hk s (looks_op (by rw [ho]; simp [Op.operands]))
      rwa [hs] at this
    have h2 : a.eval (.tmp p) = .int .i64 (i : Int) := by
      have := hk p (looks_op (by rw [ho]; simp [Op.operands]))
      rwa [hp] at this
    have hr := run_slice_l (P := Try.prog) w 23 a0 len cap under_bytes .i64 (i : Int) (by omega) (by omega)
    rw [elem_bytes, size_u8] at hr
    simp only [Result.andThen_ok, Int.toNat_natCast, sliced] at hr
    simp only [execOp, ho, h1, h2, Option.map_some, Option.map_none]
    have hr2 := run_sliceAt_slice (P := Try.prog) w 23 (.slice a0 len cap) (some (.int .i64 (i : Int))) none none under_bytes
    simp [hr2, hr]
  · rw [hd d h]
    have := (hsl.below hb).part i len hi (Nat.le_refl _)
    rw [List.take_of_length_le (by rw [hsl.1]; exact Nat.le_refl _), ← ints_drop] at this
    exact ⟨_, _, rfl, this⟩
end Go.Proofs.Ytfggfmcbinhigaa.V
/- The contract of the reference's ToText. -/
namespace Go.Proofs.Ytfggfmcbinhigaa
set_option linter.unusedVariables false
open Go.RowKit

theorem conv_ui (w : World) (n : Int) (h0 : 0 ≤ n) (h1 : n < 9223372036854775808) : (convert 56 3 (.int .u64 n)).run Try.prog w = .ok (.int .i64 n) w := by
  simp [go_sem, IntKind.wrap_i64]; omega
theorem add_kn (w : World) (K : Nat) (N : Int) (h0 : 0 ≤ N) (h1 : (K : Int) + N < 9223372036854775808) : (binOp .add 3 (.int .i64 (K : Int)) (.int .i64 N)).run Try.prog w = .ok (.int .i64 ((K + N.toNat : Nat) : Int)) w := by
  have e : ((K + N.toNat : Nat) : Int) = (K : Int) + N := by omega
  rw [e]
  simp [go_sem, IntKind.wrap_i64]; omega

namespace V
variable {ops : Array Oper} {Q : Exit → Act → World → Prop} {tbl : List (Nat × Ent)} {w0 : World} {o : Oper}
/-- Bytes that could be read in an elder world already. -/
def Ent.slAt (W : World) (k : Nat) (l : List Nat) : Ent := ⟨fun v _ => ∃ a c, v = .slice a k c ∧ Sl W .u8 a k c (ints l), fun _ h => h⟩
theorem Step.restAt {s p i len cap : Nat} {a0 : Option Addr} {l : List Nat} {W : World} (hw : Wants tbl ops o) (ho : o.op = .slice 23 (.tmp s) (some (.tmp p)) none none) (hs : get tbl s = Ent.is (.slice a0 len cap)) (hp : get tbl p = Ent.is (.int .i64 (i : Int)))
    (hsl : Sl W .u8 a0 len cap (ints l)) (hi : i ≤ len) (hd : ∀ d, o.dst = some d → get tbl d = Ent.slAt W (len - i) (l.drop i)) : Step Try.prog ops Q tbl w0 o := by
  refine Step.value hw fun a w hb hk => ⟨.slice (if cap = i then a0 else a0.map (·.add (i * 1))) (len - i) (cap - i), ?_, fun d h => ?_⟩
  · have h1 : a.eval (.tmp s) = .slice a0 len cap := by
      have := hk s (looks_op (by rw [ho]; simp [Op.operands]))
      rwa [hs] at this
    have h2 : a.eval (.tmp p) = .int .i64 (i : Int) := by
      have := hk p (looks_op (by rw [ho]; simp [Op.operands]))
      rwa [hp] at this
    have hr := run_slice_l (P := Try.prog) w 23 a0 len cap under_bytes .i64 (i : Int) (by omega) (by omega)
    rw [elem_bytes, size_u8] at hr
    simp only [Result.andThen_ok, Int.toNat_natCast, sliced] at hr
    simp only [execOp, ho, h1, h2, Option.map_some, Option.map_none]
    have hr2 := run_sliceAt_slice (P := Try.prog) w 23 (.slice a0 len cap) (some (.int .i64 (i : Int))) none none under_bytes
    simp [hr2, hr]
  · rw [hd d h]
    have := hsl.part i len hi (Nat.le_refl _)
    rw [List.take_of_length_le (by rw [hsl.1]; exact Nat.le_refl _), ← ints_drop] at this
    exact ⟨_, _, rfl, this⟩
end V
def totextTbl (W : World) (ao : Option Addr) (len cap K : Nat) (N : Int) (l : List Nat) : List (Nat × V.Ent) :=
   [(0, V.Ent.is (.slice ao len cap)),
    (8, V.Ent.is (.int .i64 (K : Int))),
    (7, V.Ent.is (.int .u64 N)),
    (34, V.Ent.is (.slice ao len cap)),
    (35, V.Ent.is (.int .i64 (K : Int))),
    (36, V.Ent.is (.int .i64 (K : Int))),
    (37, V.Ent.is (.int .u64 N)),
    (38, V.Ent.is (.int .i64 N)),
    (39, V.Ent.is (.int .i64 ((K + N.toNat : Nat) : Int))),
    (40, V.Ent.sl ((K + N.toNat - K)) (((l.take (K + N.toNat)).drop K))),
    (41, V.Ent.is (.string (strOfNums (ints (((l.take (K + N.toNat)).drop K)))))),
    (42, V.Ent.is (.slice ao len cap)),
    (43, V.Ent.is (.int .i64 (K : Int))),
    (44, V.Ent.is (.int .u64 N)),
    (45, V.Ent.is (.int .i64 N)),
    (46, V.Ent.is (.int .i64 ((K + N.toNat : Nat) : Int))),
    (47, V.Ent.slAt W ((len - (K + N.toNat))) ((l.drop (K + N.toNat)))),
    (4, V.Ent.is (.string (strOfNums (ints (((l.take (K + N.toNat)).drop K)))))),
    (5, V.Ent.slAt W ((len - (K + N.toNat))) ((l.drop (K + N.toNat)))),
    (6, V.Ent.is (.int .i64 0))]

set_option maxHeartbeats 2000000 in
theorem rtotext_at (W : World) (ao : Option Addr) (len cap : Nat) (l : List Nat) (most : Int) (w : World) (h0 : Sl W .u8 ao len cap (ints l)) (h : Sl w .u8 ao len cap (ints l)) (h256 : ∀ x ∈ l, x < 256) (hm : len ≤ 140737488355328) (hm0 : -9223372036854775808 ≤ most) (hm1 : most < 9223372036854775808) :
    Calls Try.prog 53 #[.slice ao len cap, .int .i64 most] w fun e w' => ∃ v1 v2, e = .returned (.tuple #[v1, v2, .int .i64 ((E.xE most l : Nat) : Int)]) ∧ TextAns most l w.heap.size W v1 v2 ∧ Below w.heap.size w w' := by
  have hlen : l.length = len := by rw [← h.1, ints_length]
  have HL := hide hlen
  have HS := hide h
  have HS0 := hide h0
  have H2 := hide h256
  have hcap := h.2.1
  clear hlen h h0 h256
  obtain ⟨G, hG⟩ : ∃ G : Int, ((E.gE l : Nat) : Int) = G := ⟨_, rfl⟩
  obtain ⟨N, hN⟩ : ∃ N : Int, ((E.gN l : Nat) : Int) = N := ⟨_, rfl⟩
  obtain ⟨K, hK⟩ : ∃ K : Nat, E.gK l = K := ⟨_, rfl⟩
  have hnl := E.gN_lt H2.out
  have hN0 : 0 ≤ N := by omega
  have hN1 : N < 18446744073709551616 := by omega
  have HGG := hide hG
  have HN := hide hN
  have HK := hide hK
  by_cases hg : E.gE l = 0
  · obtain ⟨k1, k2, _, _, _, _⟩ := E.gE_zero hg H2.out
    have hK1 : K ≤ len := by have := HL.out; omega
    have hG0 : G = 0 := by omega
    subst hG0
    have HG := hide hg
    clear hg hG hN hK hnl k1 k2
    go_enter Try.func53, Try.ntmps53
    go_wp2_with fail
    refine (rget_any _ _ _ l _ HS.out H2.out hm).mono ?_
    rintro e w1 ⟨rfl, rfl⟩
    rw [HGG.out, HN.out, HK.out]
    by_cases c1 : most < 0
    · go_wp2
      go_ret3
      have hx := E.xE_range (most := most) HG.out (.inl c1)
      exact ⟨_, _, by rw [hx]; rfl, TextAns.bad (by rw [hx]; decide), Below.refl _ _⟩
    · have c1' : 0 ≤ most := by omega
      by_cases c2 : most < N
      · go_wp2
        go_ret3
        have hx := E.xE_range (most := most) HG.out (.inr (by rw [HN.out]; exact c2))
        exact ⟨_, _, by rw [hx]; rfl, TextAns.bad (by rw [hx]; decide), Below.refl _ _⟩
      · have c2' : N ≤ most := by omega
        by_cases c3 : (len : Int) - (K : Int) < N
        · clear c1 c2
          go_wp2
          go_ret3
          have hx := E.xE_short (most := most) HG.out c1' (by rw [HN.out]; exact c2') (by have := HN.out; have := HL.out; have := HK.out; omega)
          exact ⟨_, _, by rw [hx]; rfl, TextAns.bad (by rw [hx]; decide), Below.refl _ _⟩
        · have c3' : N ≤ (len : Int) - (K : Int) := by omega
          have hN63 : N < 9223372036854775808 := by omega
          clear c1 c2 c3
          go_wp2
          refine V.wp_region (w0 := w1) [0, 8, 7] (totextTbl W ao len cap K N l) (by kernel_rfl) (by kernel_rfl) (Below.refl _ _) ?hb ?hs ?hd
          case hb =>
            intro d hd
            simp only [List.mem_cons, List.not_mem_nil, or_false] at hd
            rcases hd with rfl | rfl | rfl <;> rfl
          case hs =>
            refine ⟨?_, ?_, ?_, ?_, ?_, ?_, ?_, ?_, ?_, ?_, ?_, ?_, ?_, ?_, ?_, ?_, ?_, trivial⟩
            · exact V.Step.move (.inl rfl) (.inl rfl) (.inl ⟨_, rfl⟩) (fun _ h => by cases h; rfl)
            · exact V.Step.move (.inl rfl) (.inl rfl) (.inl ⟨_, rfl⟩) (fun _ h => by cases h; rfl)
            · exact V.Step.move (.inl rfl) (.inl rfl) (.inl ⟨_, rfl⟩) (fun _ h => by cases h; rfl)
            · exact V.Step.move (.inl rfl) (.inl rfl) (.inl ⟨_, rfl⟩) (fun _ h => by cases h; rfl)
            · exact V.Step.conv (.inl rfl) rfl rfl (fun w => conv_ui w N hN0 hN63) (fun _ h => by cases h; rfl)
            · exact V.Step.bin (v1 := .int .i64 (K : Int)) (v2 := .int .i64 N) (v := .int .i64 ((K + N.toNat : Nat) : Int)) (.inl rfl) rfl (.inl ⟨_, rfl⟩) (.inl ⟨_, rfl⟩) rfl rfl (fun w => ⟨rfl, add_kn w K N hN0 (by omega)⟩) (fun _ h => by cases h; rfl)
            · exact V.Step.part (.inl rfl) rfl rfl rfl rfl HS.out (by omega) (by omega) (fun _ h => by cases h; rfl)
            · exact V.Step.str (.inl rfl) rfl rfl (fun _ h => by cases h; rfl)
            · exact V.Step.move (.inl rfl) (.inl rfl) (.inl ⟨_, rfl⟩) (fun _ h => by cases h; rfl)
            · exact V.Step.move (.inl rfl) (.inl rfl) (.inl ⟨_, rfl⟩) (fun _ h => by cases h; rfl)
            · exact V.Step.move (.inl rfl) (.inl rfl) (.inl ⟨_, rfl⟩) (fun _ h => by cases h; rfl)
            · exact V.Step.conv (.inl rfl) rfl rfl (fun w => conv_ui w N hN0 hN63) (fun _ h => by cases h; rfl)
            · exact V.Step.bin (v1 := .int .i64 (K : Int)) (v2 := .int .i64 N) (v := .int .i64 ((K + N.toNat : Nat) : Int)) (.inl rfl) rfl (.inl ⟨_, rfl⟩) (.inl ⟨_, rfl⟩) rfl rfl (fun w => ⟨rfl, add_kn w K N hN0 (by omega)⟩) (fun _ h => by cases h; rfl)
            · exact V.Step.restAt (.inl rfl) rfl rfl rfl HS0.out (by omega) (fun _ h => by cases h; rfl)
            · exact V.Step.move (.inl rfl) (.inr rfl) (.inl ⟨_, rfl⟩) (fun _ h => by cases h; rfl)
            · exact V.Step.move (.inl rfl) (.inr rfl) (.inl ⟨_, rfl⟩) (fun _ h => by cases h; rfl)
            · exact V.Step.move (.inl rfl) (.inr rfl) (.inr ⟨_, rfl⟩) (fun _ h => by cases h; rfl)
          case hd =>
            intro a1 w2 hw2 hdf hk
            have h4 : a1.tmps[4]?.getD undef = .string (strOfNums (ints ((l.take (K + N.toNat)).drop K))) := V.slot_of (hk 14 _ 4 rfl rfl)
            obtain ⟨a5, c5, h5, hs5⟩ := hk 15 _ 5 rfl rfl
            have h5' := V.slot_of h5
            have h6 : a1.tmps[6]?.getD undef = .int .i64 0 := V.slot_of (hk 16 _ 6 rfl rfl)
            go_wp2
            have hsK : N.toNat = E.gN l := by have := HN.out; omega
            have hx := E.xE_ok (most := most) HG.out c1' (by rw [HN.out]; exact c2') (by have := HL.out; have := HK.out; omega)
            have eS : (l.take (K + N.toNat)).drop K = E.yS most l := by
              unfold E.yS; rw [if_pos hx, E.xS, HK.out, hsK, List.drop_take, Nat.add_sub_cancel_left]
            have eR : l.drop (K + N.toNat) = E.yR most l := by
              unfold E.yR; rw [if_pos hx, E.xR, HK.out, hsK, List.drop_drop]
            have eL : len - (K + N.toNat) = (E.yR most l).length := by rw [← eR, List.length_drop, HL.out]
            refine bodyPost_ret (v := .tuple #[.string (strOfNums (ints ((l.take (K + N.toNat)).drop K))), .slice a5 (len - (K + N.toNat)) c5, .int .i64 0]) (by simp [results, Try.results53, h4, h5', h6, go_sem]) hdf ⟨_, _, by rw [hx]; rfl, ?_, hw2⟩
            rw [eS, eL]
            rw [eR, eL] at hs5
            exact ⟨rfl, a5, c5, rfl, hs5⟩
  · have hGb : (G != 0) = true := by simp; omega
    have HG := hide hg
    clear hg hG hN hK hnl
    go_enter Try.func53, Try.ntmps53
    go_wp2_with fail
    refine (rget_any _ _ _ l _ HS.out H2.out hm).mono ?_
    rintro e w1 ⟨rfl, rfl⟩
    rw [HGG.out, HN.out, HK.out]
    go_wp2
    go_ret3
    have hx := E.xE_bad (most := most) HG.out
    exact ⟨_, _, by rw [hx, HGG.out]; rfl, TextAns.bad (by rw [hx]; exact HG.out), Below.refl _ _⟩
theorem rtotext_any (ao : Option Addr) (len cap : Nat) (l : List Nat) (most : Int) (w : World) (h : Sl w .u8 ao len cap (ints l)) (h256 : ∀ x ∈ l, x < 256) (hm : len ≤ 140737488355328) (hm0 : -9223372036854775808 ≤ most) (hm1 : most < 9223372036854775808) :
    Calls Try.prog 53 #[.slice ao len cap, .int .i64 most] w fun e w' => ∃ v1 v2, e = .returned (.tuple #[v1, v2, .int .i64 ((E.xE most l : Nat) : Int)]) ∧ TextAns most l w.heap.size w' v1 v2 ∧ Below w.heap.size w w' := by
  refine (rtotext_at w ao len cap l most w h h h256 hm hm0 hm1).mono ?_
  rintro e w' ⟨v1, v2, rfl, ⟨h1, a, c, h2, h3⟩, hb⟩
  exact ⟨v1, v2, rfl, ⟨h1, a, c, h2, h3.below hb⟩, hb⟩
end Go.Proofs.Ytfggfmcbinhigaa
/- The contract of the reference's Of. -/
namespace Go.Proofs.Ytfggfmcbinhigaa
set_option linter.unusedVariables false
open Go.RowKit

/-- The rest of bytes that can be read. -/
theorem rest_of {w : World} {ao : Option Addr} {len cap : Nat} {l : List Nat} (h : Sl w .u8 ao len cap (ints l)) {K : Nat} (hK : K ≤ len) : ∃ qa, Sl w .u8 qa (len - K) (cap - K) (ints (l.drop K)) ∧
    (∀ w : World, (Instr.slice 23 (.slice ao len cap) (some (.int .i64 (K : Int))) none none).run Try.prog w = .ok (.slice qa (len - K) (cap - K)) w) ∧
    (∀ w : World, (Instr.sliceAt 23 (.slice ao len cap) (some (.int .i64 (K : Int))) none none).run Try.prog w = .ok (.slice qa (len - K) (cap - K)) w) := by
  have hcap := h.2.1
  have hr : ∀ w : World, (Instr.slice 23 (.slice ao len cap) (some (.int .i64 (K : Int))) none none).run Try.prog w = .ok (.slice (if cap = K then ao else ao.map (·.add (K * 1))) (len - K) (cap - K)) w := fun w => by
    have hr := run_slice_l (P := Try.prog) w 23 ao len cap V.under_bytes .i64 (K : Int) (by omega) (by omega)
    rw [V.elem_bytes, V.size_u8] at hr
    simp only [Result.andThen_ok, Int.toNat_natCast, sliced] at hr
    exact hr
  refine ⟨_, ?_, hr, fun w => ?_⟩
  · have := h.part K len hK (Nat.le_refl _)
    rw [List.take_of_length_le (by rw [h.1]; exact Nat.le_refl _), ← ints_drop] at this
    exact this
  · rw [run_sliceAt_slice (P := Try.prog) w 23 (.slice ao len cap) (some (.int .i64 (K : Int))) none none V.under_bytes]; exact hr w
/-- What Of answers, where the rest could be read already ahead of the call. -/
def OfAt (W : World) (l : List Nat) (kind : Int) (w : World) (e : Ending) (w' : World) : Prop := ∃ a c, e = .returned (.tuple #[(Z.oV l kind).v, .slice a (Z.oR l kind).length c, .int .i64 ((Z.oE l kind : Nat) : Int)]) ∧ Sl W .u8 a (Z.oR l kind).length c (ints (Z.oR l kind)) ∧ Below w.heap.size w w'
theorem OfAt.no {W : World} {l : List Nat} {kind : Int} {w w' : World} {E : Nat} (h : Z.oE l kind = E) (h0 : E ≠ 0) (hb : Below w.heap.size w w') : OfAt W l kind w (.returned (.tuple #[.agg #[.int .i64 0, .int .i64 0, .string ⟨#[]⟩], .slice none 0 0, .int .i64 ((E : Nat) : Int)])) w' := by
  subst h
  have e1 : Z.oV l kind = ⟨0, 0, ⟨#[]⟩⟩ := by unfold Z.oV; rw [if_neg h0]
  have e2 : Z.oR l kind = [] := by unfold Z.oR; rw [if_neg h0]
  unfold OfAt; rw [e1, e2]
  exact ⟨none, 0, rfl, Sl.nil _ _, hb⟩
theorem OfAt.yes {W : World} {l r : List Nat} {kind k i : Int} {s : ByteArray} {w w' : World} {a : Option Addr} {n c : Nat} (h : Z.oE l kind = 0) (hw : Z.oW l kind = ⟨k, i, s⟩) (hr : Z.oS l kind = r) (hn : r.length = n) (hs : Sl W .u8 a n c (ints r)) (hb : Below w.heap.size w w') : OfAt W l kind w (.returned (.tuple #[.agg #[.int .i64 k, .int .i64 i, .string s], .slice a n c, .int .i64 0])) w' := by
  have e1 : Z.oV l kind = ⟨k, i, s⟩ := by unfold Z.oV; rw [if_pos h]; exact hw
  have e2 : Z.oR l kind = r := by unfold Z.oR; rw [if_pos h]; exact hr
  subst hn
  unfold OfAt; rw [e1, e2, h]
  exact ⟨a, c, rfl, hs, hb⟩
theorem OfAt.ans {l : List Nat} {kind : Int} {w w' : World} {e : Ending} (h : OfAt w l kind w e w') : OfAns l kind w e w' := by
  obtain ⟨a, c, h1, h2, h3⟩ := h
  exact ⟨a, c, h1, h2.below h3, h3⟩
set_option maxHeartbeats 1000000 in
theorem uof_int (ao : Option Addr) (len cap : Nat) (l : List Nat) (w : World) (W : World) (h0 : Sl W .u8 ao len cap (ints l)) (h : Sl w .u8 ao len cap (ints l)) (h256 : ∀ x ∈ l, x < 256) (hm : len ≤ 140737488355328) :
    Calls Try.prog 33 #[.slice ao len cap, .int .i64 1] w (OfAt W l 1 w) := by
  have hl : l.length = len := by rw [← h.1, ints_length]
  have hA := At.new w 0 0 ⟨#[]⟩
  have b0 := hide (below_one w (.cells #[.int .i64 0, .int .i64 0, .string ⟨#[]⟩] 47))
  have HSB := hide (h.below b0.out)
  have HG := hide (rget_any ao len cap l _ HSB.out h256 hm)
  have HL := hide hl
  have HO := hide (oE_int l)
  by_cases hg : E.gE l = 0
  · obtain ⟨g1, _, _, _, _, _⟩ := E.gE_zero hg h256
    have gN := E.gN_lt h256
    rw [hg] at HO HG
    obtain ⟨K, hKe⟩ : ∃ K, E.gK l = K := ⟨_, rfl⟩
    obtain ⟨N, hNe⟩ : ∃ N : Int, ((E.gN l : Nat) : Int) = N := ⟨_, rfl⟩
    have hK : K ≤ len := by omega
    have HZ := hide fun w => rzag_any N w (by omega) (by omega)
    obtain ⟨X, hX⟩ : ∃ X, E.zag N.toNat = X := ⟨_, rfl⟩
    rw [hX] at HZ
    rw [hKe, hNe] at HG
    have HX : Hid (E.zag (E.gN l) = X) := by show _ = _; rw [← hX, ← hNe, Int.toNat_natCast]
    have HKK := hide hKe
    obtain ⟨qa, hv, hr, hr2⟩ := rest_of h0 hK
    have HV := hide hv
    clear hv
    clear hX hNe hKe gN g1 hg h h0 h256 hl
    go_enter Try.func33, Try.ntmps33
    go_wp2_with fail
    refine HG.out.mono ?_
    rintro e w1 ⟨rfl, rfl⟩
    clear HG
    replace hA := hide hA
    go_wp2_with fail
    go_region_with (go_at_call 51; refine (HZ.out _).mono ?_; rintro e w2 ⟨rfl, rfl⟩)
    go_wp2
    refine bodyPost_ret (results_val (k := 1) (i := X) (s := ⟨#[]⟩) Try.results33 _ _ w.heap.size rfl ?h1) rfl ?h2
    case h1 => exact At.new w 1 X ⟨#[]⟩
    case h2 => exact OfAt.yes HO.out (by rw [oW_int, HX.out]) (by rw [oS_int, HKK.out]) (by rw [List.length_drop, HL.out]) HV.out (below_one w _).drew
  · obtain ⟨gK, gN⟩ := E.g_zero hg
    obtain ⟨G, hG⟩ : ∃ G : Nat, E.gE l = G := ⟨_, rfl⟩
    rw [hG] at hg HO HG
    obtain ⟨e, he⟩ : ∃ e : Int, ((G : Nat) : Int) = e := ⟨_, rfl⟩
    have hg3 : e ≠ 0 := by omega
    rw [he] at HG
    have HEE := hide he
    clear hG he h h0 h256 hl gK gN
    obtain ⟨a1, a2, a3⟩ := hA.cells
    obtain ⟨f1, f2, f3⟩ := hA.thawed
    replace hA := hide hA
    generalize ((E.gK l : Nat) : Int) = K at HG
    generalize ((E.gN l : Nat) : Int) = N at HG
    go_enter Try.func33, Try.ntmps33
    go_wp2_with fail
    refine HG.out.mono ?_
    rintro e' w1 ⟨rfl, rfl⟩
    clear HG
    go_wp2
    refine bodyPost_ret (results_val Try.results33 _ _ w.heap.size rfl hA.out) rfl ?_
    have := OfAt.no (W := W) HO.out hg b0.out
    rw [HEE.out] at this
    exact this
theorem uof_short (ao : Option Addr) (len cap : Nat) (l : List Nat) (w : World) (W : World) (hl : l.length = len) (h8 : len < 8) :
    Calls Try.prog 33 #[.slice ao len cap, .int .i64 2] w (OfAt W l 2 w) := by
  have hA := At.new w 0 0 ⟨#[]⟩
  have b0 := hide (below_one w (.cells #[.int .i64 0, .int .i64 0, .string ⟨#[]⟩] 47))
  have HO : Hid (Z.oE l 2 = 3) := oE_short (by omega)
  clear hl
  obtain ⟨a1, a2, a3⟩ := hA.cells
  obtain ⟨f1, f2, f3⟩ := hA.thawed
  replace hA := hide hA
  go_enter Try.func33, Try.ntmps33
  go_wp2
  refine bodyPost_ret (results_val Try.results33 _ _ w.heap.size rfl hA.out) rfl ?_
  exact OfAt.no HO.out (by decide) b0.out
set_option maxHeartbeats 2000000 in
theorem uof_key (b off len cap : Nat) (l : List Nat) (w : World) (W : World) (hW : Sl W .u8 (some ⟨b, off, none⟩) len cap (ints l)) (h : Sl w .u8 (some ⟨b, off, none⟩) len cap (ints l)) (h256 : ∀ x ∈ l, x < 256) (hm : len ≤ 140737488355328) (hb : b < w.heap.size) (h8 : 8 ≤ len)
    (hc : ∀ i, i < len → w.cell? ⟨b, off + i, none⟩ = some (.int .u8 ((ints l).getD i 0))) :
    Calls Try.prog 33 #[.slice (some ⟨b, off, none⟩) len cap, .int .i64 2] w (OfAt W l 2 w) := by
  have hl : l.length = len := by rw [← h.1, ints_length]
  have hcap := h.2.1
  have hmax := h.2.2.1
  have hA := At.new w 0 0 ⟨#[]⟩
  have b0 := hide (below_one w (.cells #[.int .i64 0, .int .i64 0, .string ⟨#[]⟩] 47))
  have hK := Z.o8_lt h256
  have hd : ∀ i, i < 8 → (w.alloc (.cells #[.int .i64 0, .int .i64 0, .string ⟨#[]⟩] 47)).cell? ⟨b, off + i, none⟩ = some (.int .u8 ((l.getD i 0 : Nat) : Int)) := fun i hi => by
    rw [b0.out.cell (p := ⟨b, off + i, none⟩) hb, hc i (by omega), ints_getD]
  have d0 := hd 0 (by omega); have d1 := hd 1 (by omega); have d2 := hd 2 (by omega); have d3 := hd 3 (by omega)
  have d4 := hd 4 (by omega); have d5 := hd 5 (by omega); have d6 := hd 6 (by omega); have d7 := hd 7 (by omega)
  have e0 := E.getD_lt h256 0; have e1 := E.getD_lt h256 1; have e2 := E.getD_lt h256 2; have e3 := E.getD_lt h256 3
  have e4 := E.getD_lt h256 4; have e5 := E.getD_lt h256 5; have e6 := E.getD_lt h256 6; have e7 := E.getD_lt h256 7
  have hO : Z.o8 l = (((((((l.getD 0 0 * 256 + l.getD 1 0) * 256 + l.getD 2 0) * 256 + l.getD 3 0) * 256 + l.getD 4 0) * 256 + l.getD 5 0) * 256 + l.getD 6 0) * 256 + l.getD 7 0) := rfl
  simp only [Nat.add_zero] at d0
  obtain ⟨x0, h0⟩ : ∃ x : Int, ((l.getD 0 0 : Nat) : Int) = x := ⟨_, rfl⟩
  obtain ⟨x1, h1⟩ : ∃ x : Int, ((l.getD 1 0 : Nat) : Int) = x := ⟨_, rfl⟩
  obtain ⟨x2, h2⟩ : ∃ x : Int, ((l.getD 2 0 : Nat) : Int) = x := ⟨_, rfl⟩
  obtain ⟨x3, h3⟩ : ∃ x : Int, ((l.getD 3 0 : Nat) : Int) = x := ⟨_, rfl⟩
  obtain ⟨x4, h4⟩ : ∃ x : Int, ((l.getD 4 0 : Nat) : Int) = x := ⟨_, rfl⟩
  obtain ⟨x5, h5⟩ : ∃ x : Int, ((l.getD 5 0 : Nat) : Int) = x := ⟨_, rfl⟩
  obtain ⟨x6, h6⟩ : ∃ x : Int, ((l.getD 6 0 : Nat) : Int) = x := ⟨_, rfl⟩
  obtain ⟨x7, h7⟩ : ∃ x : Int, ((l.getD 7 0 : Nat) : Int) = x := ⟨_, rfl⟩
  rw [h0] at d0; rw [h1] at d1; rw [h2] at d2; rw [h3] at d3; rw [h4] at d4; rw [h5] at d5; rw [h6] at d6; rw [h7] at d7
  obtain ⟨K, hKe⟩ : ∃ K : Int, ((Z.o8 l : Nat) : Int) = K := ⟨_, rfl⟩
  obtain ⟨y1, r1⟩ : ∃ y, x0 * 256 + x1 = y := ⟨_, rfl⟩
  obtain ⟨y2, r2⟩ : ∃ y, y1 * 256 + x2 = y := ⟨_, rfl⟩
  obtain ⟨y3, r3⟩ : ∃ y, y2 * 256 + x3 = y := ⟨_, rfl⟩
  obtain ⟨y4, r4⟩ : ∃ y, y3 * 256 + x4 = y := ⟨_, rfl⟩
  obtain ⟨y5, r5⟩ : ∃ y, y4 * 256 + x5 = y := ⟨_, rfl⟩
  obtain ⟨y6, r6⟩ : ∃ y, y5 * 256 + x6 = y := ⟨_, rfl⟩
  have b1 : 0 ≤ x0 ∧ x0 < 256 := by omega
  have b2 : 0 ≤ y1 ∧ y1 < 65536 := by omega
  have b3 : 0 ≤ y2 ∧ y2 < 16777216 := by omega
  have b4 : 0 ≤ y3 ∧ y3 < 4294967296 := by omega
  have b5 : 0 ≤ y4 ∧ y4 < 1099511627776 := by omega
  have b6 : 0 ≤ y5 ∧ y5 < 281474976710656 := by omega
  have b7 : 0 ≤ y6 ∧ y6 < 72057594037927936 := by omega
  have k8 : y6 * 256 + x7 = K := by omega
  have b8 : 0 ≤ K ∧ K < 18446744073709551616 := by omega
  have q1 : 0 ≤ x1 ∧ x1 < 256 := by omega
  have q2 : 0 ≤ x2 ∧ x2 < 256 := by omega
  have q3 : 0 ≤ x3 ∧ x3 < 256 := by omega
  have q4 : 0 ≤ x4 ∧ x4 < 256 := by omega
  have q5 : 0 ≤ x5 ∧ x5 < 256 := by omega
  have q6 : 0 ≤ x6 ∧ x6 < 256 := by omega
  have q7 : 0 ≤ x7 ∧ x7 < 256 := by omega
  clear hd e0 e1 e2 e3 e4 e5 e6 e7 hO h0 h1 h2 h3 h4 h5 h6 h7 hK hc
  have HKE := hide hKe
  have HL := hide hl
  have HS := hide hW
  have H2 := hide h256
  clear hKe hl h hW h256
  go_enter Try.func33, Try.ntmps33
  go_wp2_with fail
  refine wp_loop_rounds 9 ?_
  rw [rounds_succ]
  go_wp2_with fail
  rw [rounds_succ]
  go_wp2_with fail
  rw [rounds_succ]
  go_wp2_with fail
  rw [rounds_succ]
  go_wp2_with fail
  rw [rounds_succ]
  go_wp2_with fail
  rw [rounds_succ]
  go_wp2_with fail
  rw [rounds_succ]
  go_wp2_with fail
  rw [rounds_succ]
  go_wp2_with fail
  rw [rounds_succ]
  go_wp2_with fail
  refine (rbits_any K _ b8.1 b8.2).mono ?_
  rintro e w1 ⟨rfl, rfl⟩
  have hB := D.bt_in (k := K) b8
  obtain ⟨T, hT⟩ : ∃ T, D.bt K = T := ⟨_, rfl⟩
  rw [hT] at hB ⊢
  have HT := hide hT
  clear hT d0 d1 d2 d3 d4 d5 d6 d7 r1 r2 r3 r4 r5 r6 k8 b1 b2 b3 b4 b5 b6 b7 q1 q2 q3 q4 q5 q6 q7
  go_wp2_with fail
  refine (rkey_any T _ hB.1 hB.2).mono ?_
  rintro e w1 ⟨rfl, rfl⟩
  by_cases hk : D.ky T = K
  · rw [hk]
    have HO : Hid (Z.oE l 2 = 0) := oE_float (by have := HL.out; omega) (by rw [HKE.out, HT.out]; exact hk)
    have HW : Hid (wrap64 T = Z.sg T) := wrap64_sg hB
    obtain ⟨qa, hv, hr, hr2⟩ := rest_of (K := 8) HS.out h8
    have HV := hide hv
    have hr' : ∀ w : World, (Instr.slice 23 (.slice (some ⟨b, off, none⟩) len cap) (some (.int .i64 8)) none none).run Try.prog w = .ok (.slice qa (len - 8) (cap - 8)) w := hr
    have hr2' : ∀ w : World, (Instr.sliceAt 23 (.slice (some ⟨b, off, none⟩) len cap) (some (.int .i64 8)) none none).run Try.prog w = .ok (.slice qa (len - 8) (cap - 8)) w := hr2
    clear hv hr hr2
    obtain ⟨X, hX⟩ : ∃ X, Z.sg T = X := ⟨_, rfl⟩
    have hTX : wrap64 T = X := HW.out.trans hX
    have HX := hide hX
    clear hk hX HW
    replace hA := hide hA
    go_wp2_with fail
    go_region
    go_wp2
    refine bodyPost_ret (results_val (k := 2) (i := X) (s := ⟨#[]⟩) Try.results33 _ _ w.heap.size rfl ?h1) rfl ?h2
    case h1 => exact At.new w 2 X ⟨#[]⟩
    case h2 => exact OfAt.yes HO.out (by rw [oW_float, HKE.out, HT.out, HX.out]) (oS_float l) (by rw [List.length_drop, HL.out]) HV.out (below_one w _).drew
  · have HO : Hid (Z.oE l 2 = 4) := oE_form (by have := HL.out; omega) (by rw [HKE.out, HT.out]; exact hk)
    obtain ⟨Y, hY⟩ : ∃ Y, D.ky T = Y := ⟨_, rfl⟩
    rw [hY] at hk ⊢
    clear hY
    obtain ⟨a1, a2, a3⟩ := hA.cells
    obtain ⟨f1, f2, f3⟩ := hA.thawed
    replace hA := hide hA
    go_wp2
    refine bodyPost_ret (results_val Try.results33 _ _ w.heap.size rfl hA.out) rfl ?_
    exact OfAt.no HO.out (by decide) b0.out
set_option maxHeartbeats 1000000 in
theorem uof_text (ao : Option Addr) (len cap : Nat) (l : List Nat) (w : World) (W : World) (h0 : Sl W .u8 ao len cap (ints l)) (h : Sl w .u8 ao len cap (ints l)) (h256 : ∀ x ∈ l, x < 256) (hm : len ≤ 140737488355328) :
    Calls Try.prog 33 #[.slice ao len cap, .int .i64 3] w (OfAt W l 3 w) := by
  have hA := At.new w 0 0 ⟨#[]⟩
  have b0 := hide (below_one w (.cells #[.int .i64 0, .int .i64 0, .string ⟨#[]⟩] 47))
  have HT := hide (rtotext_at W ao len cap l 1024 _ h0 (h.below b0.out) h256 hm (by omega) (by omega))
  clear h h0
  by_cases hg : E.xE 1024 l = 0
  · have HS : Hid (E.yS 1024 l = E.xS l) := by show _ = _; unfold E.yS; rw [if_pos hg]
    have HR : Hid (E.yR 1024 l = E.xR l) := by show _ = _; unfold E.yR; rw [if_pos hg]
    have HE := hide hg
    have HO := hide ((oE_text l).trans hg)
    clear hg
    go_enter Try.func33, Try.ntmps33
    go_wp2_with fail
    refine HT.out.mono ?_
    rintro e w1 ⟨v1, v2, rfl, ⟨rfl, q2, c2, rfl, hs2⟩, hb⟩
    rw [HE.out, HS.out, HR.out]
    rw [HR.out] at hs2
    replace hA := hA.below hb
    replace b0 := hide (bthen b0.out hb)
    replace hs2 := hide hs2
    obtain ⟨x, hx⟩ : ∃ x, strOfNums (ints (E.xS l)) = x := ⟨_, rfl⟩
    obtain ⟨n2, hn2⟩ : ∃ n2, (E.xR l).length = n2 := ⟨_, rfl⟩
    rw [hx, hn2]
    rw [hn2] at hs2
    have HX := hide hx
    have HN2 := hide hn2
    clear hb hx hn2 HT h256 HS HR HE
    obtain ⟨a1, a2, a3⟩ := hA.cells
    obtain ⟨f1, f2, f3⟩ := hA.thawed
    replace hA := hide hA
    go_wp2
    refine bodyPost_ret (results_val Try.results33 _ _ w.heap.size rfl (hA.out.set 3 0 x)) rfl ?_
    exact OfAt.yes HO.out (by rw [oW_text, HX.out]) (oS_text l) HN2.out hs2.out (putV_below 3 0 x b0.out (Nat.le_refl _))
  · have HO := hide (oE_text l)
    obtain ⟨G, hG⟩ : ∃ G : Nat, E.xE 1024 l = G := ⟨_, rfl⟩
    rw [hG] at hg HO
    obtain ⟨e, he⟩ : ∃ e : Int, ((G : Nat) : Int) = e := ⟨_, rfl⟩
    have hg3 : e ≠ 0 := by omega
    have HEE := hide he
    have HG := hide hG
    clear hG he
    go_enter Try.func33, Try.ntmps33
    go_wp2_with fail
    refine HT.out.mono ?_
    rintro e' w1 ⟨v1, v2, rfl, ⟨rfl, q2, c2, rfl, _⟩, hb⟩
    rw [HG.out, HEE.out]
    replace hA := hA.below hb
    replace b0 := hide (bthen b0.out hb)
    generalize (E.yR 1024 l).length = n2
    generalize strOfNums (ints (E.yS 1024 l)) = x
    clear hb HT h256
    obtain ⟨a1, a2, a3⟩ := hA.cells
    obtain ⟨f1, f2, f3⟩ := hA.thawed
    replace hA := hide hA
    go_wp2
    refine bodyPost_ret (results_val Try.results33 _ _ w.heap.size rfl (hA.out.set 0 0 ⟨#[]⟩)) rfl ?_
    have := OfAt.no (W := W) HO.out hg (putV_below 0 0 ⟨#[]⟩ b0.out (Nat.le_refl _))
    rw [HEE.out] at this
    exact this
theorem uofAt_any (ao : Option Addr) (len cap : Nat) (l : List Nat) (kind : Int) (w : World) (W : World) (h0 : Sl W .u8 ao len cap (ints l)) (h : Sl w .u8 ao len cap (ints l)) (h256 : ∀ x ∈ l, x < 256) (hm : len ≤ 140737488355328) :
    Calls Try.prog 33 #[.slice ao len cap, .int .i64 kind] w (OfAt W l kind w) := by
  have hl : l.length = len := by rw [← h.1, ints_length]
  by_cases k0 : kind = 0
  · subst k0
    have hA := At.new w 0 0 ⟨#[]⟩
    have b0 := hide (below_one w (.cells #[.int .i64 0, .int .i64 0, .string ⟨#[]⟩] 47))
    have HS := hide h0
    have HL := hide hl
    clear h h0 h256 hl
    obtain ⟨a1, a2, a3⟩ := hA.cells
    obtain ⟨f1, f2, f3⟩ := hA.thawed
    replace hA := hide hA
    go_enter Try.func33, Try.ntmps33
    go_wp2
    refine bodyPost_ret (results_val Try.results33 _ _ w.heap.size rfl hA.out) rfl ?_
    exact OfAt.yes (oE_null l) (oW_null l) (oS_null l) HL.out HS.out b0.out
  · by_cases k1 : kind = 1
    · subst k1
      exact uof_int ao len cap l w W h0 h h256 hm
    · by_cases k2 : kind = 2
      · subst k2
        by_cases h8 : len < 8
        · exact uof_short ao len cap l w W hl h8
        · rcases h.2.2.2.2 with h5 | ⟨b, off, rfl, hlt, h5⟩
          · omega
          · exact uof_key b off len cap l w W h0 h h256 hm hlt (by omega) h5
      · by_cases k3 : kind = 3
        · subst k3
          exact uof_text ao len cap l w W h0 h h256 hm
        · have hA := At.new w 0 0 ⟨#[]⟩
          have b0 := hide (below_one w (.cells #[.int .i64 0, .int .i64 0, .string ⟨#[]⟩] 47))
          clear h h0 h256 hl
          obtain ⟨a1, a2, a3⟩ := hA.cells
          obtain ⟨f1, f2, f3⟩ := hA.thawed
          replace hA := hide hA
          go_enter Try.func33, Try.ntmps33
          go_wp2
          refine bodyPost_ret (results_val Try.results33 _ _ w.heap.size rfl hA.out) rfl ?_
          exact OfAt.no (oE_else k0 k1 k2 k3) (by decide) b0.out
theorem uof_any (ao : Option Addr) (len cap : Nat) (l : List Nat) (kind : Int) (w : World) (h : Sl w .u8 ao len cap (ints l)) (h256 : ∀ x ∈ l, x < 256) (hm : len ≤ 140737488355328) :
    Calls Try.prog 33 #[.slice ao len cap, .int .i64 kind] w (OfAns l kind w) := (uofAt_any ao len cap l kind w w h h h256 hm).mono fun _ _ h => h.ans
end Go.Proofs.Ytfggfmcbinhigaa

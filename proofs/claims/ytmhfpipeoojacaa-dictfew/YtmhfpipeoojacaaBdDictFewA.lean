/- Plain facts: a column laid down as words and codes is read; what is read is laid down as the very bytes. Nothing of the program. -/
import Derived.Test.YtmhfpipeoojacaaBdV
import Derived.Test.YtmhfpipeoojacaaBdC
import Derived.Test.YtmhfpipeoojacaaBdA
import Derived.Test.YtmhfpipeoojacaaBdF
import Derived.Lib.AppendZeros
import Derived.Test.YtmhfpipeoojacaaBdB
import Derived.Test.YtmhfpipeoojacaaBdZB
import Derived.Test.YtmhfpipeoojacaaBdX
import Derived.Test.YtmhfpipeoojacaaBdZC
namespace Go.Proofs.Ytmhfpipeoojacaa
set_option linter.unusedVariables false
open Go.RowKit

theorem nums_nat (r : List Nat) (n k : Nat) : ints ((nums r n k).map Int.toNat) = nums r n k := by
  unfold ints nums
  rw [List.map_map, List.map_map]
  apply List.map_congr_left
  intro i _
  simp
theorem dC_length (kind : Int) (n : Nat) (b : List Nat) : (Z.dC kind n b).length = n := by unfold Z.dC; rw [List.length_map, nums_length]
theorem dW_length (kind : Int) (b : List Nat) : (Z.dW kind b).length = E.gN b := pL_length _ _ _
theorem dV_length (ws : List Z.V) (c : List Nat) : (Z.dV ws c).length = c.length := by simp [Z.dV]
/-- What is read is laid down as the very bytes. -/
theorem d_two {kind : Int} (hk : kind = 1 ∨ kind = 2 ∨ kind = 3) {n : Nat} (hn : n ≤ 4096) {b : List Nat} (h256 : ∀ x ∈ b, x < 256) (h : Z.DOk kind n b) :
    (Z.dV (Z.dW kind b) (Z.dC kind n b)).length = n ∧ Z.chk (Z.dV (Z.dW kind b) (Z.dC kind n b)) kind = 0 ∧ Z.db (Z.dV (Z.dW kind b) (Z.dC kind n b)) = b := by
  have hd : ∀ x ∈ b.drop (E.gK b), x < 256 := fun x hx => h256 x (List.mem_of_mem_drop hx)
  obtain ⟨p1, p2⟩ := p_two hk (E.gN b) (b.drop (E.gK b)) hd h.vals
  obtain ⟨c1, c2⟩ := cdOk_iff.1 h.code
  obtain ⟨w1, w2⟩ := code_words h.rise (c := Z.dC kind n b) (by rw [dW_length]; exact c1) (by rw [dW_length]; exact c2)
  have hl : (Z.dV (Z.dW kind b) (Z.dC kind n b)).length = n := by rw [dV_length, dC_length]
  have hm : ∀ x ∈ Z.dV (Z.dW kind b) (Z.dC kind n b), x ∈ Z.dW kind b := fun x hx => by
    obtain ⟨j, hj, rfl⟩ := List.mem_map.1 hx
    exact List.mem_of_getElem? (get_lt (by rw [dW_length]; exact c1 j hj))
  refine ⟨hl, chk_of hk (by rw [hl]; exact hn) (fun x hx => (p1 x (hm x hx)).1) (fun x hx => (p1 x (hm x hx)).2), ?_⟩
  unfold Z.db
  rw [w1, w2, dW_length]
  have e1 : bitsAll (ints (Z.dC kind n b)) (Z.dwd (E.gN b)) = bitsAll (nums (Z.dR kind b) n (Z.dwd (E.gN b))) (Z.dwd (E.gN b)) := by
    unfold Z.dC
    rw [nums_nat]
  have hr : ∀ x ∈ Z.dR kind b, x < 256 := pR_lt _ _ hd
  rw [e1, bytes_nums _ _ _ hr h.bits]
  have e2 : Z.pb (Z.dW kind b) ++ Z.dR kind b = b.drop (E.gK b) := p2
  rw [e2, E.g_ones h.num h256, List.take_append_drop]
theorem kind_i64 {kind : Int} (h : kind = 1 ∨ kind = 2 ∨ kind = 3) : Z.I64 kind := by unfold Z.I64; omega
/-- What was laid down is read. -/
theorem d_back {l : List Z.V} {kind : Int} (hI : ∀ x ∈ l, Z.I64 x.i) (h : Z.chk l kind = 0) :
    Z.DOk kind l.length (Z.db l) ∧ Z.dV (Z.dW kind (Z.db l)) (Z.dC kind l.length (Z.db l)) = l := by
  obtain ⟨hk, hn, h1, h2⟩ := chk_zero h
  have hwl := wds_len l
  have hfit : ∀ x ∈ Z.wds l, Z.Fit kind x := fun x hx => by
    have hm := words_mem (words_of l) hx
    exact ⟨h1 x hm, h2 x hm, hI x hm⟩
  obtain ⟨c1, c2⟩ := cdOk_iff.1 (codes_ok l)
  obtain ⟨C, hC⟩ : ∃ C, Z.cdL (Z.wds l) l = C := ⟨_, rfl⟩
  obtain ⟨m, hm⟩ : ∃ m, (Z.wds l).length = m := ⟨_, rfl⟩
  have hCl : C.length = l.length := by rw [← hC, cdL_ok (words_cdE l), List.length_map]
  have hb := codes_back (l := l) fun x hx y hy e => Z.cv_may (a := x) (b := y) ⟨by rw [h1 x hx]; exact kind_i64 hk, hI x hx⟩ ⟨by rw [h1 y hy]; exact kind_i64 hk, hI y hy⟩ (h2 x hx) (h2 y hy) e
  have hok := codes_ok l
  rw [hC, hm] at c1 c2 hok
  rw [hC] at hb
  have hd : Z.db l = E.leb m ++ (Z.pb (Z.wds l) ++ A.bytesOf (bitsAll (ints C) (Z.dwd m))) := by unfold Z.db; rw [hC, hm]
  obtain ⟨g1, g2, g3⟩ := E.g_put m (by omega) (Z.pb (Z.wds l) ++ A.bytesOf (bitsAll (ints C) (Z.dwd m)))
  rw [← hd] at g1 g2 g3
  have hdrop : (Z.db l).drop (E.gK (Z.db l)) = Z.pb (Z.wds l) ++ A.bytesOf (bitsAll (ints C) (Z.dwd m)) := by rw [g2, hd, List.drop_left]
  obtain ⟨q1, q2, q3⟩ := p_back kind (A.bytesOf (bitsAll (ints C) (Z.dwd m))) (Z.wds l) hfit
  rw [hm] at q1 q2 q3
  have hW : Z.dW kind (Z.db l) = Z.wds l := by unfold Z.dW; rw [hdrop, g3]; exact q2
  have hR : Z.dR kind (Z.db l) = A.bytesOf (bitsAll (ints C) (Z.dwd m)) := by unfold Z.dR; rw [hdrop, g3]; exact q3
  have hin : In64 (ints C) := cI_in (m := m) (by omega) c1
  have hft : Fit (ints C) (Z.dwd m) := cI_fit c1
  have hCC : Z.dC kind l.length (Z.db l) = C := by
    unfold Z.dC
    rw [hR, g3, ← hCl]
    have := nums_pack (ints C) (Z.dwd m) hin hft
    rw [ints_length] at this
    rw [this]
    simp [ints, List.map_map, Function.comp_def]
  refine ⟨⟨g1, by rw [g3]; omega, by rw [hdrop, g3]; exact q1, by rw [hW]; exact wds_rise l, ?_, by rw [g3, hCC]; exact hok⟩, by rw [hW, hCC]; exact hb⟩
  rw [hR, g3]
  have := jb_bytes (bitsAll (ints C) (Z.dwd m))
  rw [bitsAll_length, ints_length, hCl] at this
  exact this
/-- What ToCodes tells: the error, the words, the codes; what Of tells. -/
def Z.dE (b : List Nat) (n kind : Int) : Int := if Z.kindOk kind = false then 1 else if n < 0 ∨ 4096 < n then 2 else ((Z.dN kind n.toNat b : Nat) : Int)
def Z.dWs (b : List Nat) (n kind : Int) : List Z.V := if Z.dE b n kind = 0 then Z.dW kind b else []
def Z.dCs (b : List Nat) (n kind : Int) : List Nat := if Z.dE b n kind = 0 then Z.dC kind n.toNat b else []
def Z.dVs (b : List Nat) (n kind : Int) : List Z.V := Z.dV (Z.dWs b n kind) (Z.dCs b n kind)
theorem dE_kind {b : List Nat} {n kind : Int} (h : Z.kindOk kind = false) : Z.dE b n kind = 1 := by unfold Z.dE; rw [if_pos h]
theorem dE_many {b : List Nat} {n kind : Int} (h : Z.kindOk kind = true) (h1 : n < 0 ∨ 4096 < n) : Z.dE b n kind = 2 := by unfold Z.dE; rw [h, if_neg (by decide), if_pos h1]
theorem dE_is {b : List Nat} {N : Nat} {kind : Int} (h : Z.kindOk kind = true) (hN : N ≤ 4096) : Z.dE b (N : Int) kind = ((Z.dN kind N b : Nat) : Int) := by
  unfold Z.dE
  rw [h, if_neg (by decide), if_neg (by omega), Int.toNat_natCast]
theorem dE_zero {b : List Nat} {n kind : Int} (h : Z.dE b n kind = 0) : Z.kindOk kind = true ∧ 0 ≤ n ∧ n ≤ 4096 ∧ Z.DOk kind n.toNat b := by
  unfold Z.dE at h
  split at h
  · exact absurd h (by decide)
  · rename_i h1
    split at h
    · exact absurd h (by decide)
    · rename_i h2
      exact ⟨by simpa using h1, by omega, by omega, dN_zero (by omega)⟩
theorem dWs_bad {b : List Nat} {n kind : Int} (h : Z.dE b n kind ≠ 0) : Z.dWs b n kind = [] ∧ Z.dCs b n kind = [] ∧ Z.dVs b n kind = [] := by
  have e1 : Z.dWs b n kind = [] := by unfold Z.dWs; rw [if_neg h]
  have e2 : Z.dCs b n kind = [] := by unfold Z.dCs; rw [if_neg h]
  exact ⟨e1, e2, by unfold Z.dVs; rw [e1, e2]; rfl⟩
end Go.Proofs.Ytmhfpipeoojacaa
/- dict.width: the bits of the greatest place. Conditions: fewer than 2^47 words. -/
namespace Go.Proofs.Ytmhfpipeoojacaa
set_option linter.unusedVariables false
set_option maxRecDepth 10000
open Go.RowKit
theorem dwidth_none (ao : Option Addr) (cap : Nat) (w : World) : Calls Try.prog 28 #[.slice ao 0 cap] w fun e w' => e = .returned (.int .i64 0) ∧ w' = w := by
  go_enter Try.func28, Try.ntmps28
  go_wp2
  go_ret
  exact ⟨rfl, rfl⟩
theorem dwidth_some (ao : Option Addr) (n cap : Nat) (w : World) (hl : n + 1 ≤ 140737488355328) : Calls Try.prog 28 #[.slice ao (n + 1) cap] w fun e w' => e = .returned (.int .i64 (Z.dwd (n + 1) : Nat)) ∧ Below w.heap.size w w' := by
  obtain ⟨m, hm⟩ : ∃ m, n + 1 = m := ⟨_, rfl⟩
  rw [hm]
  have e0 : ((m : Int) == 0) = false := by simp; omega
  have e1 : (m : Int) - 1 = (n : Int) := by omega
  have e2 : IntKind.u64.wrap (n : Int) = (n : Int) := by rw [u64_wrap]; omega
  have hs := Sl.one w 44 .u64 (n : Int)
  have hb := below_one w (.cells #[.int .u64 (n : Int)] 44)
  have HW : Hid (Calls Try.prog 54 #[.slice (some ⟨w.heap.size, 0, none⟩) 1 1] (w.alloc (.cells #[.int .u64 (n : Int)] 44)) fun e w' => e = .returned (.int .i64 (Z.dwd m : Nat)) ∧ w' = w.alloc (.cells #[.int .u64 (n : Int)] 44)) := by
    have := width_any _ 1 1 [(n : Int)] _ hs (by omega) (by intro x hx; simp at hx; omega)
    rw [show orAll [(n : Int)] = m - 1 by simp [orAll]; omega] at this
    exact this
  have HB := hide hb
  clear hs hb
  go_enter Try.func28, Try.ntmps28
  go_wp2_with fail
  refine HW.out.mono ?_
  rintro e w2 ⟨rfl, rfl⟩
  clear HW
  go_wp2
  go_ret
  exact ⟨rfl, HB.out⟩
theorem dwidth_any (ao : Option Addr) (len cap : Nat) (w : World) (hl : len ≤ 140737488355328) : Calls Try.prog 28 #[.slice ao len cap] w fun e w' => e = .returned (.int .i64 (Z.dwd len : Nat)) ∧ Below w.heap.size w w' := by
  cases len with
  | zero =>
    refine (dwidth_none ao cap w).mono ?_
    rintro e w' ⟨rfl, rfl⟩
    exact ⟨rfl, Below.refl _ _⟩
  | succ n => exact dwidth_some ao n cap w hl
end Go.Proofs.Ytmhfpipeoojacaa
/- Bytes appended to bytes of one's own, as a law at the operation. -/
namespace Go.Proofs.Ytmhfpipeoojacaa
set_option linter.unusedVariables false
open Go.RowKit

theorem wpList_app {w : World} {ops : Array Oper} {rest : List Oper} {o : Oper} {a : Act} {Q : Exit → Act → World → Prop} (hgd : o.guard = none) (s x : Operand)
    (ho : o.op = .call { callee := .builtin .append, args := #[s, x], argTypes := #[36, 36] })
    (base : Nat) (v : Value) (l : List Nat) (hs : a.eval s = v) (hown : w.ownsRow base 5 1 v l.length (B8 l))
    (ao : Option Addr) (m c : Nat) (news : List Nat) (hx : a.eval x = .slice ao m c) (hsl : Sl w .u8 ao m c (ints news)) (hlim : l.length + m ≤ 140737488355328) (hbase : base ≤ w.heap.size) (r : List Nat) (hr : l ++ news = r)
    (h : ∀ v' w', w'.ownsRow base 5 1 v' r.length (B8 r) → AS w v w' v' → wpList Try.prog ops Q rest (a.put o.dst v') w') : wpList Try.prog ops Q (o :: rest) a w := by
  obtain ⟨i0, hi, hz0, hz1, hz2⟩ := info_parts Try.infoU8
  have hm : news.length = m := by rw [← hsl.1, ints_length]
  refine wpList_append_to hgd s x 36 ho base 5 i0 (.int .u8 0) 1 1 Try.underlying36 hi hz0 hz1 hz2 rfl (by decide) v l.length (B8 l) hs hown ao m c ((ints news).map (Value.int .u8)) hx ?_ (by simp [ints_length, hm]) hsl.news ?_ (by unfold maxLen; omega) (by omega) hbase ?_
  · intro e
    have h4 := hsl.2.2.2.1 e
    have h2 := hsl.2.1
    exact ⟨by omega, h4⟩
  · intro u hu
    obtain ⟨y, _, rfl⟩ := List.mem_map.1 hu
    rfl
  · intro v' w' ho' has'
    refine h v' w' ?_ has'
    rw [← hr, List.length_append, hm, B8_append, B8_ints news]
    exact ho'
/-- No bytes, in new memory. -/
theorem owns_none (w : World) : (w.alloc (.cells #[] 5)).ownsRow w.heap.size 5 1 (.slice (some ⟨w.heap.size, 0, none⟩) 0 0) ([] : List Nat).length (B8 []) :=
  World.ownsRow_lit w #[] 0 (Nat.le_refl _) (by decide) (by simp)
/-- A row of one's own, as bytes that can be read; its length under a name. -/
theorem Sl.of_own {w : World} {B : Nat} {v : Value} {l : List Nat} (h : w.ownsRow B 5 1 v l.length (B8 l)) {k : Nat} (hk : l.length = k) : ∃ a c, v = .slice a k c ∧ Sl w .u8 a k c (ints l) := by
  subst hk
  obtain ⟨a, c, h1, h2, _⟩ := Sl.of_bytes h
  exact ⟨a, c, h1, h2⟩
end Go.Proofs.Ytmhfpipeoojacaa
/- slices.Concat of three rows of bytes. Conditions: at most 2^46 bytes together. -/
namespace Go.Proofs.Ytmhfpipeoojacaa
set_option linter.unusedVariables false
set_option maxRecDepth 10000
open Go.RowKit
theorem grow_none (w : World) : Calls Try.prog 55 #[.slice none 0 0, .int .i64 0] w fun e w' => e = .returned (.slice none 0 0) ∧ w' = w := by
  go_enter Try.func55, Try.ntmps55
  go_wp2
  go_ret
  exact ⟨rfl, rfl⟩
theorem cut_made (g : Nat) (n C : Nat) (w : World) : (Instr.slice 36 (.slice (some ⟨g, 0, none⟩) n C) none (some (.int .i64 0)) none).run Try.prog w = .ok (.slice (some ⟨g, 0, none⟩) 0 C) w := by
  have hr := run_slice_h (P := Try.prog) w 36 (some ⟨g, 0, none⟩) n C Try.underlying36 .i64 (0 : Int) (by omega) (by omega)
  have e1 : Try.prog.elem 36 = 5 := by kernel_rfl
  have e2 : (sizeOf 5).run Try.prog w = .ok 1 w := by kernel_rfl
  rw [e1, e2] at hr
  simp only [Result.andThen_ok, sliced, Nat.sub_zero] at hr
  rw [show (0 : Int) = ((0 : Nat) : Int) from rfl] at *
  simpa [Addr.add] using hr
theorem grow_some (n : Nat) (w : World) (h0 : 0 < n) (hn : n ≤ 70368744177664) : Calls Try.prog 55 #[.slice none 0 0, .int .i64 (n : Int)] w fun e w' => ∃ v, e = .returned v ∧ w'.ownsRow w.heap.size 5 1 v 0 [] ∧ Below w.heap.size w w' := by
  obtain ⟨i0, hi, hz0, hz1, hz2⟩ := info_parts Try.infoU8
  have e1 : decide ((n : Int) < 0) = false := by simp
  have e2 : decide (0 < (n : Int)) = true := by simp; omega
  obtain ⟨C, hC⟩ : ∃ C, grownCap w n 0 5 = C := ⟨_, rfl⟩
  have happ : ∀ ty, (Builtin.append_ #[36, 3] ty #[.slice none 0 0, .int .i64 (n : Int)]).run Try.prog w = .ok (.slice (some ⟨w.heap.size, 0, none⟩) n C) (w.drew.alloc (.cells (Builtin.zeroCells #[.int .u8 0] n ++ Builtin.zeroCells #[.int .u8 0] (C - n)) 5)) := fun ty => by
    rw [← hC]; exact Lib.run_append_nil_zeros w 36 3 ty 5 i0 (.int .u8 0) .i64 .i64 Try.underlying36 Try.underlying3 hi hz0 n h0 (by rw [hz1]; decide) (by omega) (by rw [hz2]; omega)
  go_enter Try.func55, Try.ntmps55
  go_wp2_with (at_builtin; refine Lib.wpList_append_run _ rfl _ _ 36 3 rfl _ _ rfl rfl _ _ (happ _) ?_)
  have HC : Hid (n ≤ C ∧ C ≤ maxLen) := by show _ ∧ _; rw [← hC]; exact ⟨grownCap_ge w n 0 5, grownCap_le_maxLen w n 0 5 (by unfold maxLen; omega)⟩
  have hc := cut_made w.heap.size n C
  clear hC happ hi hz0 hz1 hz2
  go_wp2
  go_ret
  refine ⟨_, rfl, ⟨by simp, .inr ⟨w.heap.size, C, Builtin.zeroCells #[.int .u8 0] n ++ Builtin.zeroCells #[.int .u8 0] (C - n), rfl, Nat.le_refl _, heap_alloc_new w _, Nat.zero_le _, HC.out.2, ?_, by simp⟩⟩, ((below_one w _)).drew⟩
  have := HC.out.1
  simp [Builtin.zeroCells]
  omega
theorem grow_any (n : Nat) (w : World) (hn : n ≤ 70368744177664) : Calls Try.prog 55 #[.slice none 0 0, .int .i64 (n : Int)] w fun e w' => ∃ v, e = .returned v ∧ w'.ownsRow w.heap.size 5 1 v ([] : List Nat).length (B8 []) ∧ Below w.heap.size w w' := by
  rcases Nat.eq_zero_or_pos n with rfl | h0
  · refine (grow_none w).mono ?_
    rintro e w' ⟨rfl, rfl⟩
    exact ⟨_, rfl, World.ownsRow_nil _ _ _ _, Below.refl _ _⟩
  · exact grow_some n w h0 hn
/-- Three rows of bytes, as a row of slices. -/
structure Three (w : World) (g : Nat) (l1 l2 l3 : List Nat) : Prop where
  lt : g < w.heap.size
  fst : ∃ a c, w.cell? ⟨g, 0, none⟩ = some (.slice a l1.length c) ∧ Sl w .u8 a l1.length c (ints l1)
  snd : ∃ a c, w.cell? ⟨g, 1, none⟩ = some (.slice a l2.length c) ∧ Sl w .u8 a l2.length c (ints l2)
  thd : ∃ a c, w.cell? ⟨g, 2, none⟩ = some (.slice a l3.length c) ∧ Sl w .u8 a l3.length c (ints l3)
def upTo (l1 l2 l3 : List Nat) : Nat → List Nat
  | 0 => []
  | 1 => l1
  | 2 => l1 ++ l2
  | _ => l1 ++ l2 ++ l3
theorem Three.at {w : World} {g : Nat} {l1 l2 l3 : List Nat} (h : Three w g l1 l2 l3) {j : Nat} (hj : j < 3) : ∃ a n c l, w.cell? ⟨g, j, none⟩ = some (.slice a n c) ∧ Sl w .u8 a n c (ints l) ∧ upTo l1 l2 l3 j ++ l = upTo l1 l2 l3 (j + 1) := by
  match j, hj with
  | 0, _ => obtain ⟨a, c, h1, h2⟩ := h.fst; exact ⟨a, _, c, l1, h1, h2, rfl⟩
  | 1, _ => obtain ⟨a, c, h1, h2⟩ := h.snd; exact ⟨a, _, c, l2, h1, h2, rfl⟩
  | 2, _ => obtain ⟨a, c, h1, h2⟩ := h.thd; exact ⟨a, _, c, l3, h1, h2, rfl⟩
theorem upTo_le (l1 l2 l3 : List Nat) (j : Nat) : (upTo l1 l2 l3 j).length ≤ (l1 ++ l2 ++ l3).length := by
  match j with
  | 0 => simp [upTo]
  | 1 => simp [upTo]
  | 2 => simp [upTo]
  | j + 3 => simp [upTo]
set_option maxHeartbeats 1000000 in
theorem concat_any (g : Nat) (l1 l2 l3 : List Nat) (w : World) (h : Three w g l1 l2 l3) (hn : (l1 ++ l2 ++ l3).length ≤ 70368744177664) :
    Calls Try.prog 29 #[.slice (some ⟨g, 0, none⟩) 3 3] w fun e w' => ∃ v, e = .returned v ∧ w'.ownsRow w.heap.size 5 1 v (l1 ++ l2 ++ l3).length (B8 (l1 ++ l2 ++ l3)) ∧ Below w.heap.size w w' := by
  have HT := hide h
  have HU : Hid (∀ j, (upTo l1 l2 l3 j).length ≤ 70368744177664) := fun j => Nat.le_trans (upTo_le l1 l2 l3 j) hn
  have HG := h.lt
  clear h hn
  go_enter Try.func29, Try.ntmps29
  go_wp2_with fail
  go_loopw [3, 11] (fun s i wr => ∃ j m : Nat, j ≤ 3 ∧ i = .int .i64 j ∧ s = .int .i64 m ∧ Hid (m = (upTo l1 l2 l3 j).length) ∧ m ≤ 70368744177664 ∧ wr = w) (fun _ i _ => 3 - (intOf i).toNat)
  case atStart => exact ⟨0, 0, by omega, rfl, rfl, hide rfl, by omega, rfl⟩
  case round =>
    obtain ⟨j, m, hj, rfl, rfl, HM, hm, hww⟩ := hrel
    obtain rfl : w = wr := hww.symm
    by_cases hjl : j < 3
    · obtain ⟨a, n, c, l, d1, hs, hup⟩ := HT.out.at hjl
      have hnl : l.length = n := by rw [← hs.1, ints_length]
      have hmn : m + n = (upTo l1 l2 l3 (j + 1)).length := by rw [← hup, List.length_append, HM.out, hnl]
      have hmb : m + n ≤ 70368744177664 := by rw [hmn]; exact HU.out _
      have HMN := hide hmn
      have e1 : decide ((m : Int) + (n : Int) < 0) = false := by simp; omega
      clear hs hup hnl hmn
      go_wp2
      go_round
      · exact ⟨j + 1, m + n, by omega, by go_num, by go_num, HMN, hmb, trivial⟩
      · simp [intOf]; omega
    · obtain rfl : j = 3 := by omega
      have HM3 : m = (upTo l1 l2 l3 3).length := HM.out
      have HGR := hide (grow_any m w hm)
      clear HM HM3
      go_wp2_with fail
      refine HGR.out.mono ?_
      rintro e w1 ⟨v1, rfl, ho1, hb1⟩
      have HB1 := hide hb1
      have HO1 := hide ho1
      clear hb1 ho1 HGR
      go_wp2_with fail
      go_loopw [6, 27] (fun s i w2 => ∃ j : Nat, j ≤ 3 ∧ i = .int .i64 j ∧ Hid (w2.ownsRow w.heap.size 5 1 s (upTo l1 l2 l3 j).length (B8 (upTo l1 l2 l3 j))) ∧ Hid (Below w.heap.size w w2)) (fun _ i _ => 3 - (intOf i).toNat)
      case atStart => exact ⟨0, by omega, rfl, HO1, HB1⟩
      case round =>
        obtain ⟨j, hj, rfl, HO, HB⟩ := hrel
        by_cases hjl : j < 3
        · obtain ⟨a, n, c, l, d1, hs, hup⟩ := HT.out.at hjl
          have d2 : wr.cell? ⟨g, j, none⟩ = some (.slice a n c) := by rw [HB.out.cell (p := ⟨g, j, none⟩) HG]; exact d1
          have hnl : l.length = n := by rw [← hs.1, ints_length]
          have hlim : (upTo l1 l2 l3 j).length + n ≤ 140737488355328 := by
            have := HU.out (j + 1)
            rw [← hup, List.length_append, hnl] at this
            omega
          have HS := hide (hs.below HB.out)
          have hsz := HB.out.size
          have HUP := hide hup
          clear d1 hs hup hnl
          go_wp2_with (at_builtin; refine wpList_app rfl _ _ rfl w.heap.size _ (upTo l1 l2 l3 j) rfl HO.out a n c l rfl HS.out hlim hsz (upTo l1 l2 l3 (j + 1)) HUP.out ?_)
          intro v3 w3 hown has
          have hb3 : Below w.heap.size w w3 := HB.out.trans (has.below hsz (fun k hk => (owns_lt HO.out hk).1))
          have HB3 := hide hb3
          have HO3 := hide hown
          clear hb3 hown has
          go_wp2
          go_roundw
          case rel => exact ⟨j + 1, by omega, by go_num, HO3, HB3⟩
          case measure => simp [intOf]; omega
        · obtain rfl : j = 3 := by omega
          go_wp2
          go_ret
          exact ⟨_, rfl, HO.out, HB.out⟩
end Go.Proofs.Ytmhfpipeoojacaa
/- The contracts of justBits and of Unpack. -/
namespace Go.Proofs.Ytmhfpipeoojacaa
set_option linter.unusedVariables false
set_option maxRecDepth 10000
open Go.RowKit

set_option maxHeartbeats 400000 in
theorem just_any (ao : Option Addr) (len cap : Nat) (l : List Nat) (n : Nat) (w : World) (h : Sl w .u8 ao len cap (ints l)) (hm : len ≤ 140737488355328) (hn : n ≤ 1099511627776) :
    Calls Try.prog 78 #[.slice ao len cap, .int .i64 n] w fun e w' => e = .returned (.int .i64 ((jb l n : Nat) : Int)) ∧ w' = w := by
  have hlen : l.length = len := by rw [← h.1, ints_length]
  by_cases h1 : len < (n + 7) / 8
  · have hj : jb l n = 3 := by unfold jb; rw [hlen, if_pos h1]
    rw [hj]
    go_enter Try.func78, Try.ntmps78
    go_wp2
    go_ret
    exact ⟨rfl, rfl⟩
  · by_cases h2 : (n + 7) / 8 < len
    · have hj : jb l n = 4 := by unfold jb; rw [hlen, if_neg h1, if_pos h2]
      rw [hj]
      go_enter Try.func78, Try.ntmps78
      go_wp2
      go_ret
      exact ⟨rfl, rfl⟩
    · by_cases h3 : n % 8 = 0
      · have hj : jb l n = 0 := by unfold jb; rw [hlen, if_neg h1, if_neg h2, if_neg (by simp [h3])]
        rw [hj]
        have hb : ((n : Int) % 8 != 0) = false := by simp; omega
        go_enter Try.func78, Try.ntmps78
        go_wp2
        go_ret
        exact ⟨rfl, rfl⟩
      · have hb : ((n : Int) % 8 != 0) = true := by simp; omega
        obtain ⟨b, off, hao, hblt, hc⟩ : ∃ b off, ao = some ⟨b, off, none⟩ ∧ b < w.heap.size ∧ ∀ i, i < len → w.cell? ⟨b, off + i, none⟩ = some (.int .u8 ((ints l).getD i 0)) := by
          rcases h.2.2.2.2 with h | h
          · omega
          · exact h
        have hck := hc ((n + 7) / 8 - 1) (by omega)
        rw [ints_getD] at hck
        have hj : jb l n = if l.getD ((n + 7) / 8 - 1) 0 / 2 ^ (n % 8) ≠ 0 then 4 else 0 := by unfold jb; rw [hlen, if_neg h1, if_neg h2]; simp [h3]
        generalize l.getD ((n + 7) / 8 - 1) 0 = y at hck hj
        subst hao
        clear hc h
        by_cases h4 : y / 2 ^ (n % 8) = 0
        · have h5 : ((y : Int) / 2 ^ (n % 8) != 0) = false := by
            rw [← pow_int, ← Int.natCast_ediv, h4]; rfl
          rw [hj, if_neg (by simp [h4])]
          clear hj h4
          go_enter Try.func78, Try.ntmps78
          go_wp2
          go_ret
          exact ⟨rfl, rfl⟩
        · have h5 : ((y : Int) / 2 ^ (n % 8) != 0) = true := by
            rw [← pow_int, ← Int.natCast_ediv, bne_iff_ne]; omega
          rw [hj, if_pos h4]
          clear hj h4
          go_enter Try.func78, Try.ntmps78
          go_wp2
          go_ret
          exact ⟨rfl, rfl⟩

set_option maxHeartbeats 400000 in
theorem unpack_arg (ao : Option Addr) (len cap : Nat) (n k : Int) (w : World) (h : k < 0 ∨ 64 < k ∨ n < 0 ∨ 1048576 < n) :
    Calls Try.prog 58 #[.slice ao len cap, .int .i64 n, .int .i64 k] w fun e w' => e = .returned (.tuple #[.slice none 0 0, .int .i64 1]) ∧ w' = w := by
  by_cases hk : k < 0 ∨ 64 < k
  · clear h
    go_enter Try.func58, Try.ntmps58
    go_wp2_with (go_at_call 51; refine (may_no _ _ hk).mono ?_; rintro e w' ⟨rfl, rfl⟩)
    go_ret2
    exact ⟨rfl, rfl⟩
  · have hk0 : 0 ≤ k := by omega
    have hk1 : k ≤ 64 := by omega
    rcases (show n < 0 ∨ (0 ≤ n ∧ 1048576 < n) by omega) with hn | ⟨hn0, hn⟩
    all_goals
      clear h hk
      go_enter Try.func58, Try.ntmps58
      go_wp2_with (go_at_call 51; refine (may_yes _ _ (by omega) (by omega)).mono ?_; rintro e w' ⟨rfl, rfl⟩)
      go_ret2
      exact ⟨rfl, rfl⟩

set_option maxHeartbeats 400000 in
theorem unpack_no (ao : Option Addr) (len cap : Nat) (l : List Nat) (n k : Nat) (w : World) (h : Sl w .u8 ao len cap (ints l)) (hm : len ≤ 140737488355328) (hn : n ≤ 1048576) (hk : k ≤ 64) (hj : jb l (n * k) ≠ 0) :
    Calls Try.prog 58 #[.slice ao len cap, .int .i64 n, .int .i64 k] w fun e w' => e = .returned (.tuple #[.slice none 0 0, .int .i64 ((jb l (n * k) : Nat) : Int)]) ∧ w' = w := by
  have hnk : n * k ≤ 1048576 * 64 := Nat.mul_le_mul hn hk
  have hb : (((jb l (n * k) : Nat) : Int) != 0) = true := by rw [bne_iff_ne]; omega
  have H := hide h
  have hi : (n : Int) * (k : Int) = ((n * k : Nat) : Int) := (Int.natCast_mul n k).symm
  clear h hj
  generalize hN : n * k = N at *
  clear hN
  go_enter Try.func58, Try.ntmps58
  go_wp2_with (go_at_call 51; refine (may_yes _ _ (by omega) (by omega)).mono ?_; rintro e w' ⟨rfl, rfl⟩)
  refine (just_any _ _ _ l N _ H.out hm (by omega)).mono ?_
  rintro e w1 ⟨rfl, rfl⟩
  go_wp2
  go_ret2
  exact ⟨rfl, rfl⟩

def some0 (l : List Nat) (n k j : Nat) : List Value := (nums l j k).map (Value.int .u64) ++ List.replicate (n - j) (.int .u64 0)
theorem some0_zero (l : List Nat) (n k : Nat) : some0 l n k 0 = List.replicate n (.int .u64 0) := by simp [some0, nums]
theorem some0_all (l : List Nat) (n k : Nat) : some0 l n k n = (nums l n k).map (Value.int .u64) := by simp [some0]
theorem some0_set (l : List Nat) (n k j : Nat) (h : j < n) : (some0 l n k j).set j (.int .u64 ((getV l (j * k) k : Nat) : Int)) = some0 l n k (j + 1) := by
  unfold some0
  rw [List.set_append_right _ _ (by simp [nums_length]), nums_succ]
  simp only [List.length_map, nums_length, Nat.sub_self, List.map_append, List.append_assoc]
  rw [show n - j = (n - (j + 1)) + 1 by omega, List.replicate_succ, List.set_cons_zero]
  rfl

theorem some0_at (l : List Nat) (n k j : Nat) (h : j < n) : (some0 l n k j)[j]? = some (.int .u64 0) := by
  unfold some0
  rw [List.getElem?_append_right (by simp [nums_length])]
  simp only [List.length_map, nums_length, Nat.sub_self]
  rw [show n - j = (n - j - 1) + 1 by omega, List.replicate_succ]
  rfl

set_option maxRecDepth 10000 in
set_option maxHeartbeats 1000000 in
theorem unpack_yes (ao : Option Addr) (len cap : Nat) (l : List Nat) (n k : Nat) (w : World) (h : Sl w .u8 ao len cap (ints l)) (h256 : ∀ x ∈ l, x < 256) (hm : len ≤ 140737488355328) (hn : n ≤ 1048576) (hk : k ≤ 64) (hj : jb l (n * k) = 0) :
    Calls Try.prog 58 #[.slice ao len cap, .int .i64 n, .int .i64 k] w fun e w' => ∃ v', e = .returned (.tuple #[v', .int .i64 0]) ∧ w'.ownsRow w.heap.size 44 1 v' n ((nums l n k).map (Value.int .u64)) ∧ Below w.heap.size w w' := by
  have hnk : n * k ≤ 67108864 := Nat.mul_le_mul hn hk
  have hlen : l.length = len := by rw [← h.1, ints_length]
  have hfit : n * k ≤ 8 * l.length := by have := (jb_zero hj).1; omega
  have HFIT : Hid (∀ j, j < n → j * k + k ≤ 8 * l.length) := by
    intro j hj
    have : (j + 1) * k ≤ n * k := Nat.mul_le_mul_right k hj
    rw [Nat.add_mul] at this
    omega
  have H := hide h
  have H2 := hide h256
  have hd : decide ((n : Int) < 0) = false := by simp
  have hi : (n : Int) * (k : Int) = ((n * k : Nat) : Int) := (Int.natCast_mul n k).symm
  obtain ⟨i0, hi0, hz0, hz1, hz2⟩ := info_parts Try.infoU64
  have HI := hide hi
  clear h h256 hfit
  generalize hN : n * k = N at hnk hj hi
  clear hN
  go_enter Try.func58, Try.ntmps58
  go_wp2_with (go_at_call 51; refine (may_yes _ _ (by omega) (by omega)).mono ?_; rintro e w' ⟨rfl, rfl⟩)
  refine (just_any _ _ _ l N _ H.out hm (by omega)).mono ?_
  rintro e w1 ⟨rfl, rfl⟩
  rw [hj]
  clear hj hi
  go_wp2_with fail
  refine (from_any _ _ _ l _ H.out hm).mono ?_
  rintro e w2 ⟨p, v, rfl, hr, hp, hv, hb⟩
  have hs := hb.size
  go_wp2_with (at_make; refine wpList_make_full _ rfl _ _ 27 rfl w2.heap.size 44 i0 (.int .u64 0) 1 Try.underlying27 hi0 hz0 hz1 _ _ _ _ n rfl rfl rfl rfl (by rw [hz2]; omega) (by unfold maxLen; omega) (Nat.le_refl _) ?_)
  intro w3 ho hg
  have hr3 : Rd w3 p v l 0 := hr.kept ((Kept.refl (fun _ => False) _).grown hg (by simp)) (by simp) (by simp)
  have hb3 : Below w1.heap.size w1 w3 := hb.grown hg hs (by simp)
  have hpg := hr.lt
  have HVG : Hid (∀ g, v.ownBlock = some g → g ≠ w2.heap.size) := fun g hg => by have := (owns_lt hr.2.1 hg).2; omega
  have ho3 : w3.ownsRow w1.heap.size 44 1 (.slice (some ⟨w2.heap.size, 0, none⟩) n n) n (some0 l n k 0) := by
    rw [some0_zero]
    have h := owns_base (base' := w1.heap.size) ho (fun g hg => by have := (owns_lt ho hg).1; omega)
    rw [toList_madeCells_one] at h
    exact h
  clear hr hb ho hg hv
  go_wp2_with fail
  go_loopw [37] (fun i wr => ∃ j : Nat, j ≤ n ∧ i = .int .i64 j ∧ Rd wr p v l (j * k) ∧ wr.ownsRow w1.heap.size 44 1 (.slice (some ⟨w2.heap.size, 0, none⟩) n n) n (some0 l n k j) ∧ Below w1.heap.size w1 wr) (fun i _ => n - (intOf i).toNat)
  case atStart => exact ⟨0, Nat.zero_le _, rfl, by simpa using hr3, ho3, hb3⟩
  case round =>
    obtain ⟨j, hj, rfl, hrr, hor, hbr⟩ := hrel
    by_cases hlt : j < n
    · go_wp2_with fail
      refine (get_yes p v l (j * k) k wr hrr (by omega) H2.out hk (HFIT.out j hlt)).mono ?_
      rintro e w4 ⟨rfl, hr4, hk4⟩
      have ho4 := owns_of_block hor (fun g hg => hk4.block g (owns_lt hor hg).2 (by simp [Value.ownBlock] at hg; omega))
      have hb4 : Below w1.heap.size w1 w4 := hbr.trans (hk4.below (by have := hbr.size; omega) (by intro x hx; omega))
      have hc4 := ho4.cellAt j (by omega)
      rw [some0_at l n k j hlt] at hc4
      have hf4 := ho4.frozenAt j
      have HO := hide (ho4.stored j (.int .u64 ((getV l (j * k) k : Nat) : Int))).1
      have HB := hide hb4
      have HR := hide hr4
      clear ho4 hb4 hr4 hk4 hrr hor hbr
      go_wp2
      go_roundw
      case rel =>
        refine ⟨j + 1, by omega, by go_num, ?_, ?_, ?_⟩
        · rw [Nat.add_mul, Nat.one_mul]
          obtain ⟨h1, h2, h3⟩ := HR.out
          refine ⟨?_, ownsRow_setCell_other h2 (fun e => HVG.out _ e rfl) _, h3⟩
          rw [Below.heap_setCell _ _ _ _ (by show p ≠ w2.heap.size; omega)]; exact h1
        · rw [← some0_set l n k j hlt]; exact HO.out
        · exact HB.out.setCell (by show w1.heap.size ≤ w2.heap.size; omega) _
      case measure => simp [intOf]; omega
    · have hjn : j = n := by omega
      subst hjn
      go_wp2
      go_ret2
      rw [some0_all] at hor
      exact ⟨_, rfl, hor, hbr⟩
end Go.Proofs.Ytmhfpipeoojacaa
/- The contracts of the document's answer for bits: Fits, Bytes, Bits. -/
namespace Go.Proofs.Ytmhfpipeoojacaa
set_option linter.unusedVariables false
set_option maxRecDepth 10000
open Go.RowKit
/-- A number without its lowest bits. -/
def sh (n j : Nat) : Nat := n / 2 ^ j
theorem sh_zero (n : Nat) : sh n 0 = n := by simp [sh]
theorem sh_succ (n j : Nat) : sh n (j + 1) = sh n j / 2 := by simp [sh, Nat.pow_succ, Nat.div_div_eq_div_mul]
theorem sh_le (n j : Nat) : sh n j ≤ n := Nat.div_le_self _ _
theorem sh_bit (n j : Nat) : A.bitsOf n (j + 1) = A.bitsOf n j ++ [sh n j % 2 == 1] := A.bitsOf_succ n j

/-- The bits of the first bytes, and some of the next one. -/
def bitsTo (l : List Nat) (j q : Nat) : List Bool := A.bitsB (l.take j) ++ A.bitsOf (l.getD j 0) q
theorem bitsTo_zero (l : List Nat) (j : Nat) : bitsTo l j 0 = A.bitsB (l.take j) := by simp [bitsTo, A.bitsOf]
theorem bitsTo_next (l : List Nat) (j : Nat) (h : j < l.length) : bitsTo l (j + 1) 0 = bitsTo l j 8 := by
  rw [bitsTo_zero, List.take_succ_eq_append_getElem h, A.bitsB_append]
  simp [bitsTo, A.bitsB, List.getD, h]
theorem bitsTo_succ (l : List Nat) (j q : Nat) : bitsTo l j (q + 1) = bitsTo l j q ++ [sh (l.getD j 0) q % 2 == 1] := by
  unfold bitsTo; rw [sh_bit, List.append_assoc]
theorem bitsTo_length (l : List Nat) (j q : Nat) (h : j ≤ l.length) : (bitsTo l j q).length = 8 * j + q := by
  unfold bitsTo; rw [List.length_append, A.bitsB_length, A.bitsOf_length, List.length_take]; omega

/-- The bytes of the first bits. -/
def bytesTo (bs : List Bool) (j : Nat) : List Nat := A.bytesOf (bs.take j)
theorem bytesTo_zero (bs : List Bool) : bytesTo bs 0 = [] := by simp [bytesTo, A.bytesOf]
theorem bytesTo_length (bs : List Bool) (j : Nat) (h : j ≤ bs.length) : (bytesTo bs j).length = (j + 7) / 8 := by
  unfold bytesTo; rw [A.bytesOf_length, List.length_take, Nat.min_eq_left h]
theorem bytesTo_new (bs : List Bool) (j : Nat) (h : j < bs.length) (h8 : j % 8 = 0) : bytesTo bs (j + 1) = bytesTo bs j ++ [(bs.getD j false).toNat] := by
  unfold bytesTo
  have hl : (bs.take j).length = j := by rw [List.length_take]; omega
  rw [take_snocB bs j h, A.bytesOf_snoc_new _ _ (by rw [hl]; exact h8)]
theorem bytesTo_old (bs : List Bool) (j : Nat) (h : j < bs.length) (h8 : j % 8 ≠ 0) : bytesTo bs (j + 1) = (bytesTo bs j).set (j / 8) ((bytesTo bs j).getD (j / 8) 0 + (bs.getD j false).toNat * 2 ^ (j % 8)) ∧ (bytesTo bs j).getD (j / 8) 0 < 2 ^ (j % 8) := by
  unfold bytesTo
  have hl : (bs.take j).length = j := by rw [List.length_take]; omega
  have e : (j + 7) / 8 - 1 = j / 8 := by omega
  have h1 := A.bytesOf_snoc_old (bs.take j) (bs.getD j false) (by rw [hl]; exact h8)
  have h2 := A.last_lt (bs.take j) (by rw [hl]; exact h8)
  rw [hl, e] at h1 h2
  rw [take_snocB bs j h]
  exact ⟨h1, h2⟩

theorem set_self (l : List Nat) (i : Nat) : l.set i (l.getD i 0) = l := by
  by_cases h : i < l.length
  · simp [List.getD, h]
  · exact List.set_eq_of_length_le (by omega)
theorem pow8 (p : Nat) (h : p < 8) : ((2 : Int) ^ p) ≤ 128 ∧ 1 ≤ ((2 : Int) ^ p) := by
  have h1 : 2 ^ p ≤ 2 ^ 7 := Nat.pow_le_pow_right (by omega) (by omega)
  have h2 : 1 ≤ 2 ^ p := Nat.one_le_two_pow
  rw [← pow_int]
  omega
theorem weight_next (j : Nat) (c : Int) (hc : j % 8 ≠ 0 → c = 2 ^ (j % 8)) (h : j % 8 ≠ 0) : (j + 1) % 8 ≠ 0 → IntKind.u8.wrap (c * 2) = 2 ^ ((j + 1) % 8) := by
  intro h1
  have e : (j + 1) % 8 = j % 8 + 1 := by omega
  have h2 := pow8 (j % 8 + 1) (by omega)
  rw [e, hc h]
  rw [Int.pow_succ] at h2 ⊢
  rw [IntKind.wrap_u8']
  omega

end Go.Proofs.Ytmhfpipeoojacaa
/- The contracts of the document's answer for bits: Width, Pack. -/
namespace Go.Proofs.Ytmhfpipeoojacaa
set_option linter.unusedVariables false
set_option maxRecDepth 10000
open Go.RowKit

theorem fits_iff (x : Int) (k : Nat) (h0 : 0 ≤ x) : (sh x.toNat k == 0) = decide (x < (2 : Int) ^ k) := by
  have hp : 0 < 2 ^ k := Nat.two_pow_pos k
  rw [Bool.eq_iff_iff, beq_iff_eq, decide_eq_true_iff, ← pow_int]
  unfold sh
  constructor
  · intro h
    rcases Nat.div_eq_zero_iff.1 h with h1 | h1 <;> omega
  · intro h
    exact Nat.div_eq_of_lt (by omega)

end Go.Proofs.Ytmhfpipeoojacaa

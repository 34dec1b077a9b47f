/- dict.rise: do words rise? Conditions: fewer than 2^47 words. -/
import Derived.Test.YtmhfpipeoojacaaGreatBdZJ
import Derived.Test.YtmhfpipeoojacaaGreatBdZ
import Derived.Test.YtmhfpipeoojacaaGreatBdZA
import Derived.Test.YtmhfpipeoojacaaGreatBdL
import Derived.Test.YtmhfpipeoojacaaGreatBdC
namespace Go.Proofs.YtmhfpipeoojacaaGreat
set_option linter.unusedVariables false
set_option maxRecDepth 10000
open Go.RowKit Go.Sort
theorem rise_steps : ∀ ws : List Z.V, Z.Rise ws ↔ ∀ j x y, ws[j]? = some x → ws[j + 1]? = some y → Z.cv x y < 0
  | [] => by simp [Z.Rise]
  | [x] => by
    constructor
    · intro _ j a b _ h2; simp at h2
    · intro _; simp [Z.Rise]
  | x :: y :: t => by
    rw [← risB_iff, Z.risB, Bool.and_eq_true, decide_eq_true_eq, risB_iff (y :: t), rise_steps (y :: t)]
    constructor
    · rintro ⟨h1, h2⟩ j a b ha hb
      cases j with
      | zero => simp at ha hb; subst ha hb; exact h1
      | succ j => simp only [List.getElem?_cons_succ] at ha hb; exact h2 j a b ha (by simpa using hb)
    · intro h
      exact ⟨h 0 x y rfl rfl, fun j a b ha hb => h (j + 1) a b (by simpa using ha) (by simpa using hb)⟩
theorem risB_no {ws : List Z.V} {j : Nat} {x y : Z.V} (h1 : ws[j]? = some x) (h2 : ws[j + 1]? = some y) (h : 0 ≤ Z.cv x y) : Z.risB ws = false := by
  cases hb : Z.risB ws with
  | false => rfl
  | true =>
    have := (rise_steps ws).1 ((risB_iff ws).1 hb) j x y h1 h2
    omega
set_option maxHeartbeats 1000000 in
theorem drise_any (ao : Option Addr) (len cap : Nat) (ws : List Z.V) (w : World) (h : SlV w ao len cap ws) (hl : len ≤ 140737488355328) :
    Calls Tryz.prog 68 #[.slice ao len cap] w fun e w' => e = .returned (.bool (Z.risB ws)) ∧ Below w.heap.size w w' := by
  have HL := hide h.1
  have HS := hide h
  clear h
  go_enter Tryz.func68, Tryz.ntmps68
  go_wp2_with fail
  go_loopw [7] (fun i wr => ∃ j : Nat, j ≤ len ∧ i = .int .i64 j ∧ Hid (∀ i x y, i + 1 < j → ws[i]? = some x → ws[i + 1]? = some y → Z.cv x y < 0) ∧ Hid (Below w.heap.size w wr)) (fun i _ => len - (intOf i).toNat)
  case atStart => exact ⟨0, Nat.zero_le _, rfl, hide (by intro i x y h; omega), hide (Below.refl _ _)⟩
  case round =>
    obtain ⟨j, hj, rfl, HR, HB⟩ := hrel
    by_cases hjl : j < len
    · obtain ⟨b, off, xk, xi, xs, rfl, hlt, hx, c1, c2, c3⟩ := HS.out.at hjl
      have d1 : wr.cell? ⟨b, off + j * 3, none⟩ = some (.int .i64 xk) := by rw [HB.out.cell (p := ⟨b, off + j * 3, none⟩) hlt]; exact c1
      have d2 : wr.cell? ⟨b, off + j * 3 + 1, none⟩ = some (.int .i64 xi) := by rw [HB.out.cell (p := ⟨b, off + j * 3 + 1, none⟩) hlt]; exact c2
      have d3 : wr.cell? ⟨b, off + j * 3 + 2, none⟩ = some (.string xs) := by rw [HB.out.cell (p := ⟨b, off + j * 3 + 2, none⟩) hlt]; exact c3
      have HX := hide hx
      have b1 := below_one wr (.cells #[.int .i64 xk, .int .i64 xi, .string xs] 45)
      have HB1 := hide (bthen HB.out b1)
      have HA := hide (At.new wr xk xi xs)
      obtain ⟨w1, hw1⟩ : ∃ w1, wr.alloc (.cells #[.int .i64 xk, .int .i64 xi, .string xs] 45) = w1 := ⟨_, rfl⟩
      have HW := hide hw1
      rw [hw1] at HB1 HA
      have g1 : ∀ p : BBy w1, p.v.cell? ⟨wr.heap.size, 0, none⟩ = some (.int .i64 xk) := fun p => (HA.out.below p.h).cells.1
      have g2 : ∀ p : BBy w1, p.v.cell? ⟨wr.heap.size, 1, none⟩ = some (.int .i64 xi) := fun p => (HA.out.below p.h).cells.2.1
      have g3 : ∀ p : BBy w1, p.v.cell? ⟨wr.heap.size, 2, none⟩ = some (.string xs) := fun p => (HA.out.below p.h).cells.2.2
      have inh : Nonempty (BBy w1) := ⟨⟨w1, Below.refl _ _⟩⟩
      clear c1 c2 c3 hx b1 hw1
      rcases Nat.eq_zero_or_pos j with hj0 | hj0
      · have hpos : ¬ 0 < j := by omega
        have HJ := hide hj0
        clear g1 g2 g3 hj0
        go_wp2_with fail
        rw [HW.out]
        go_quiet (fail)
        have HBN := hide (bthen HB1.out (below_drewN (Below.refl _ _) nq))
        clear d1 d2 d3
        go_wp2
        go_roundw
        case rel => exact ⟨j + 1, by omega, by go_num, hide (by have := HJ.out; intro i x y h; omega), HBN⟩
        case measure => simp [intOf]; omega
      · obtain ⟨i, hi⟩ : ∃ i, j = i + 1 := ⟨j - 1, by omega⟩
        have e1 : (j : Int) - 1 = (i : Int) := by omega
        have hil : i < len := by omega
        have e3 : IntKind.i64.wrap (i : Int) = (i : Int) := by rw [IntKind.wrap_i64]; omega
        obtain ⟨b', off', yk, yi, ys, e, _, hy, k1, k2, k3⟩ := HS.out.at hil
        obtain ⟨rfl, rfl⟩ : b = b' ∧ off = off' := by injection e with e; injection e with e1 e2; exact ⟨e1, e2⟩
        have f1 : ∀ p : BBy w1, p.v.cell? ⟨b, off + i * 3, none⟩ = some (.int .i64 yk) := fun p => by rw [(bthen HB1.out p.h).cell (p := ⟨b, off + i * 3, none⟩) hlt]; exact k1
        have f2 : ∀ p : BBy w1, p.v.cell? ⟨b, off + i * 3 + 1, none⟩ = some (.int .i64 yi) := fun p => by rw [(bthen HB1.out p.h).cell (p := ⟨b, off + i * 3 + 1, none⟩) hlt]; exact k2
        have f3 : ∀ p : BBy w1, p.v.cell? ⟨b, off + i * 3 + 2, none⟩ = some (.string ys) := fun p => by rw [(bthen HB1.out p.h).cell (p := ⟨b, off + i * 3 + 2, none⟩) hlt]; exact k3
        obtain ⟨c, hc⟩ : ∃ c, Z.cv ⟨yk, yi, ys⟩ ⟨xk, xi, xs⟩ = c := ⟨_, rfl⟩
        have HC : Hid (∀ p : BBy w1, Calls Tryz.prog 39 #[.agg #[.int .i64 yk, .int .i64 yi, .string ys], .agg #[.int .i64 xk, .int .i64 xi, .string xs]] p.v fun e w' => e = .returned (.int .i64 c) ∧ Below p.v.heap.size p.v w') := by
          intro p; rw [← hc]; exact vcompare_any yk yi ys xk xi xs p.v
        have HY := hide hy
        have HCC := hide hc
        have HI := hide hi
        clear hy hc k1 k2 k3 e hi
        have hii : (i : Int) < (len : Int) := by omega
        go_wp2_with fail
        rw [HW.out]
        refine region_below (by kernel_rfl) ?_
        repeat (quiet_step (first | (go_at_call 39; refine Calls.below_of (HC.out _))))
        refine wpQuiet_nil ?_
        intro _ hw'
        obtain ⟨⟨w2, hb2⟩, hw''⟩ := hw'
        subst hw''
        have HB2 := hide (bthen HB1.out hb2)
        clear hb2 HC f1 f2 f3 g1 g2 g3 d1 d2 d3
        by_cases hcn : c < 0
        · go_wp2
          go_roundw
          case rel =>
            refine ⟨j + 1, by omega, by go_num, hide (fun i' x y h h1 h2 => ?_), HB2⟩
            by_cases hi : i' + 1 < j
            · exact HR.out i' x y hi h1 h2
            · have h3 := HI.out
              obtain rfl : i' = i := by omega
              rw [HY.out] at h1
              rw [← h3, HX.out] at h2
              injection h1 with h1
              injection h2 with h2
              subst h1 h2
              rw [HCC.out]
              exact hcn
          case measure => simp [intOf]; omega
        · have hc0 : 0 ≤ c := by omega
          have HN := hide (risB_no HY.out (by rw [← HI.out]; exact HX.out) (by rw [HCC.out]; exact hc0))
          go_wp2
          go_ret
          exact ⟨by rw [HN.out]; rfl, HB2.out⟩
    · obtain rfl : j = len := by omega
      have hr : Z.risB ws = true := by
        rw [risB_iff, rise_steps]
        intro i x y h1 h2
        have hlt := (List.getElem?_eq_some_iff.1 h2).1
        exact HR.out i x y (by rw [← HL.out]; exact hlt) h1 h2
      have HQ := hide hr
      clear hr
      go_wp2
      go_ret
      exact ⟨by rw [HQ.out]; rfl, HB.out⟩
end Go.Proofs.YtmhfpipeoojacaaGreat
/- Plain facts: a column laid down as words and codes is read; what is read is laid down as the very bytes. Nothing of the program. -/
namespace Go.Proofs.YtmhfpipeoojacaaGreat
set_option linter.unusedVariables false
open Go.RowKit

theorem nums_nat (r : List Nat) (n k : Nat) : ints ((nums r n k).map Int.toNat) = nums r n k := by
  unfold ints nums
  rw [List.map_map, List.map_map]
  apply List.map_congr_left
  intro i _
  simp
theorem dC_length (kind : Int) (n : Nat) (b : List Nat) : (Z.dC kind n b).length = n := by unfold Z.dC; rw [List.length_map, nums_length]
theorem dW_length (kind : Int) (b : List Nat) : (Z.dW kind b).length = E.gN b := pL_length _ _ _
theorem dV_length (ws : List Z.V) (c : List Nat) : (Z.dV ws c).length = c.length := by simp [Z.dV]
/-- What is read is laid down as the very bytes. -/
theorem d_two {kind : Int} (hk : kind = 1 ∨ kind = 2 ∨ kind = 3) {n : Nat} (hn : n ≤ 4096) {b : List Nat} (h256 : ∀ x ∈ b, x < 256) (h : Z.DOk kind n b) :
    (Z.dV (Z.dW kind b) (Z.dC kind n b)).length = n ∧ Z.chk (Z.dV (Z.dW kind b) (Z.dC kind n b)) kind = 0 ∧ Z.db (Z.dV (Z.dW kind b) (Z.dC kind n b)) = b := by
  have hd : ∀ x ∈ b.drop (E.gK b), x < 256 := fun x hx => h256 x (List.mem_of_mem_drop hx)
  obtain ⟨p1, p2⟩ := p_two hk (E.gN b) (b.drop (E.gK b)) hd h.vals
  obtain ⟨c1, c2⟩ := cdOk_iff.1 h.code
  obtain ⟨w1, w2⟩ := code_words h.rise (c := Z.dC kind n b) (by rw [dW_length]; exact c1) (by rw [dW_length]; exact c2)
  have hl : (Z.dV (Z.dW kind b) (Z.dC kind n b)).length = n := by rw [dV_length, dC_length]
  have hm : ∀ x ∈ Z.dV (Z.dW kind b) (Z.dC kind n b), x ∈ Z.dW kind b := fun x hx => by
    obtain ⟨j, hj, rfl⟩ := List.mem_map.1 hx
    exact List.mem_of_getElem? (get_lt (by rw [dW_length]; exact c1 j hj))
  refine ⟨hl, chk_of hk (by rw [hl]; exact hn) (fun x hx => (p1 x (hm x hx)).1) (fun x hx => (p1 x (hm x hx)).2), ?_⟩
  unfold Z.db
  rw [w1, w2, dW_length]
  have e1 : bitsAll (ints (Z.dC kind n b)) (Z.dwd (E.gN b)) = bitsAll (nums (Z.dR kind b) n (Z.dwd (E.gN b))) (Z.dwd (E.gN b)) := by
    unfold Z.dC
    rw [nums_nat]
  have hr : ∀ x ∈ Z.dR kind b, x < 256 := pR_lt _ _ hd
  rw [e1, bytes_nums _ _ _ hr h.bits]
  have e2 : Z.pb (Z.dW kind b) ++ Z.dR kind b = b.drop (E.gK b) := p2
  rw [e2, E.g_ones h.num h256, List.take_append_drop]
theorem kind_i64 {kind : Int} (h : kind = 1 ∨ kind = 2 ∨ kind = 3) : Z.I64 kind := by unfold Z.I64; omega
/-- What was laid down is read. -/
theorem d_back {l : List Z.V} {kind : Int} (hI : ∀ x ∈ l, Z.I64 x.i) (h : Z.chk l kind = 0) :
    Z.DOk kind l.length (Z.db l) ∧ Z.dV (Z.dW kind (Z.db l)) (Z.dC kind l.length (Z.db l)) = l := by
  obtain ⟨hk, hn, h1, h2⟩ := chk_zero h
  have hwl := wds_len l
  have hfit : ∀ x ∈ Z.wds l, Z.Fit kind x := fun x hx => by
    have hm := words_mem (words_of l) hx
    exact ⟨h1 x hm, h2 x hm, hI x hm⟩
  obtain ⟨c1, c2⟩ := cdOk_iff.1 (codes_ok l)
  obtain ⟨C, hC⟩ : ∃ C, Z.cdL (Z.wds l) l = C := ⟨_, rfl⟩
  obtain ⟨m, hm⟩ : ∃ m, (Z.wds l).length = m := ⟨_, rfl⟩
  have hCl : C.length = l.length := by rw [← hC, cdL_ok (words_cdE l), List.length_map]
  have hb := codes_back (l := l) fun x hx y hy e => Z.cv_may (a := x) (b := y) ⟨by rw [h1 x hx]; exact kind_i64 hk, hI x hx⟩ ⟨by rw [h1 y hy]; exact kind_i64 hk, hI y hy⟩ (h2 x hx) (h2 y hy) e
  have hok := codes_ok l
  rw [hC, hm] at c1 c2 hok
  rw [hC] at hb
  have hd : Z.db l = E.leb m ++ (Z.pb (Z.wds l) ++ A.bytesOf (bitsAll (ints C) (Z.dwd m))) := by unfold Z.db; rw [hC, hm]
  obtain ⟨g1, g2, g3⟩ := E.g_put m (by omega) (Z.pb (Z.wds l) ++ A.bytesOf (bitsAll (ints C) (Z.dwd m)))
  rw [← hd] at g1 g2 g3
  have hdrop : (Z.db l).drop (E.gK (Z.db l)) = Z.pb (Z.wds l) ++ A.bytesOf (bitsAll (ints C) (Z.dwd m)) := by rw [g2, hd, List.drop_left]
  obtain ⟨q1, q2, q3⟩ := p_back kind (A.bytesOf (bitsAll (ints C) (Z.dwd m))) (Z.wds l) hfit
  rw [hm] at q1 q2 q3
  have hW : Z.dW kind (Z.db l) = Z.wds l := by unfold Z.dW; rw [hdrop, g3]; exact q2
  have hR : Z.dR kind (Z.db l) = A.bytesOf (bitsAll (ints C) (Z.dwd m)) := by unfold Z.dR; rw [hdrop, g3]; exact q3
  have hin : In64 (ints C) := cI_in (m := m) (by omega) c1
  have hft : Fit (ints C) (Z.dwd m) := cI_fit c1
  have hCC : Z.dC kind l.length (Z.db l) = C := by
    unfold Z.dC
    rw [hR, g3, ← hCl]
    have := nums_pack (ints C) (Z.dwd m) hin hft
    rw [ints_length] at this
    rw [this]
    simp [ints, List.map_map, Function.comp_def]
  refine ⟨⟨g1, by rw [g3]; omega, by rw [hdrop, g3]; exact q1, by rw [hW]; exact wds_rise l, ?_, by rw [g3, hCC]; exact hok⟩, by rw [hW, hCC]; exact hb⟩
  rw [hR, g3]
  have := jb_bytes (bitsAll (ints C) (Z.dwd m))
  rw [bitsAll_length, ints_length, hCl] at this
  exact this
/-- What ToCodes tells: the error, the words, the codes; what Of tells. -/
def Z.dE (b : List Nat) (n kind : Int) : Int := if Z.kindOk kind = false then 1 else if n < 0 ∨ 4096 < n then 2 else ((Z.dN kind n.toNat b : Nat) : Int)
def Z.dWs (b : List Nat) (n kind : Int) : List Z.V := if Z.dE b n kind = 0 then Z.dW kind b else []
def Z.dCs (b : List Nat) (n kind : Int) : List Nat := if Z.dE b n kind = 0 then Z.dC kind n.toNat b else []
def Z.dVs (b : List Nat) (n kind : Int) : List Z.V := Z.dV (Z.dWs b n kind) (Z.dCs b n kind)
theorem dE_kind {b : List Nat} {n kind : Int} (h : Z.kindOk kind = false) : Z.dE b n kind = 1 := by unfold Z.dE; rw [if_pos h]
theorem dE_many {b : List Nat} {n kind : Int} (h : Z.kindOk kind = true) (h1 : n < 0 ∨ 4096 < n) : Z.dE b n kind = 2 := by unfold Z.dE; rw [h, if_neg (by decide), if_pos h1]
theorem dE_is {b : List Nat} {N : Nat} {kind : Int} (h : Z.kindOk kind = true) (hN : N ≤ 4096) : Z.dE b (N : Int) kind = ((Z.dN kind N b : Nat) : Int) := by
  unfold Z.dE
  rw [h, if_neg (by decide), if_neg (by omega), Int.toNat_natCast]
theorem dE_zero {b : List Nat} {n kind : Int} (h : Z.dE b n kind = 0) : Z.kindOk kind = true ∧ 0 ≤ n ∧ n ≤ 4096 ∧ Z.DOk kind n.toNat b := by
  unfold Z.dE at h
  split at h
  · exact absurd h (by decide)
  · rename_i h1
    split at h
    · exact absurd h (by decide)
    · rename_i h2
      exact ⟨by simpa using h1, by omega, by omega, dN_zero (by omega)⟩
theorem dWs_bad {b : List Nat} {n kind : Int} (h : Z.dE b n kind ≠ 0) : Z.dWs b n kind = [] ∧ Z.dCs b n kind = [] ∧ Z.dVs b n kind = [] := by
  have e1 : Z.dWs b n kind = [] := by unfold Z.dWs; rw [if_neg h]
  have e2 : Z.dCs b n kind = [] := by unfold Z.dCs; rw [if_neg h]
  exact ⟨e1, e2, by unfold Z.dVs; rw [e1, e2]; rfl⟩
end Go.Proofs.YtmhfpipeoojacaaGreat
/- dict.toWords: the words that bytes begin with, and what stands behind them. Conditions: at most 4096 words, fewer than 2^47 bytes. -/
namespace Go.Proofs.YtmhfpipeoojacaaGreat
set_option linter.unusedVariables false
set_option maxRecDepth 10000
open Go.RowKit
/-- What is wrong with the words. -/
def Z.dX (kind : Int) (n : Nat) (b : List Nat) : Nat :=
  if E.gE b ≠ 0 then E.gE b else if n < E.gN b then 4 else if Z.pE kind (E.gN b) (b.drop (E.gK b)) ≠ 0 then Z.pE kind (E.gN b) (b.drop (E.gK b)) else if Z.risB (Z.dW kind b) = false then 4 else 0
theorem dN_words {kind : Int} {n : Nat} {b : List Nat} (h : Z.dX kind n b ≠ 0) : Z.dN kind n b = Z.dX kind n b := by
  unfold Z.dX at h ⊢
  unfold Z.dN
  repeat' split
  all_goals first | rfl | simp_all
theorem dN_codes {kind : Int} {n : Nat} {b : List Nat} (h : Z.dX kind n b = 0) : Z.dN kind n b = if jb (Z.dR kind b) (n * Z.dwd (E.gN b)) ≠ 0 then jb (Z.dR kind b) (n * Z.dwd (E.gN b)) else if Z.cdOk (E.gN b) (Z.dC kind n b) = false then 4 else 0 := by
  unfold Z.dX at h
  unfold Z.dN
  split at h
  · omega
  · split at h
    · omega
    · split at h
      · omega
      · split at h
        · omega
        · rename_i h1 h2 h3 h4
          rw [if_neg h1, if_neg h2, if_neg h3, if_neg h4]
theorem dX_num {kind : Int} {n : Nat} {b : List Nat} (h : E.gE b ≠ 0) : Z.dX kind n b = E.gE b := by unfold Z.dX; rw [if_pos h]
theorem dX_many {kind : Int} {n : Nat} {b : List Nat} (h : E.gE b = 0) (h1 : n < E.gN b) : Z.dX kind n b = 4 := by unfold Z.dX; rw [if_neg (by omega), if_pos h1]
theorem dX_val {kind : Int} {n : Nat} {b : List Nat} (h : E.gE b = 0) (h1 : E.gN b ≤ n) (h2 : Z.pE kind (E.gN b) (b.drop (E.gK b)) ≠ 0) : Z.dX kind n b = Z.pE kind (E.gN b) (b.drop (E.gK b)) := by
  unfold Z.dX; rw [if_neg (by omega), if_neg (by omega), if_pos h2]
theorem dX_rise {kind : Int} {n : Nat} {b : List Nat} (h : E.gE b = 0) (h1 : E.gN b ≤ n) (h2 : Z.pE kind (E.gN b) (b.drop (E.gK b)) = 0) (h3 : Z.risB (Z.dW kind b) = false) : Z.dX kind n b = 4 := by
  unfold Z.dX; rw [if_neg (by omega), if_neg (by omega), if_neg (by omega), if_pos h3]
theorem dX_ok {kind : Int} {n : Nat} {b : List Nat} (h : E.gE b = 0) (h1 : E.gN b ≤ n) (h2 : Z.pE kind (E.gN b) (b.drop (E.gK b)) = 0) (h3 : Z.risB (Z.dW kind b) = true) : Z.dX kind n b = 0 := by
  unfold Z.dX; rw [if_neg (by omega), if_neg (by omega), if_neg (by omega), if_neg (by rw [h3]; decide)]
theorem dX_zero {kind : Int} {n : Nat} {b : List Nat} (h : Z.dX kind n b = 0) : E.gN b ≤ n := by
  unfold Z.dX at h
  split at h
  · omega
  · split at h
    · omega
    · omega
def ToWordsAns (b : List Nat) (N : Nat) (kind : Int) (w : World) (e : Ending) (w' : World) : Prop :=
  Below w.heap.size w w' ∧ ((Z.dX kind N b ≠ 0 ∧ e = .returned (.tuple #[.slice none 0 0, .slice none 0 0, .int .i64 ((Z.dX kind N b : Nat) : Int)])) ∨
    (Z.dX kind N b = 0 ∧ ∃ v a c, e = .returned (.tuple #[v, .slice a (Z.dR kind b).length c, .int .i64 0]) ∧ OwnV w' w.heap.size v (Z.dW kind b) ∧ Sl w .u8 a (Z.dR kind b).length c (ints (Z.dR kind b))))
theorem ToWordsAns.no {b : List Nat} {N : Nat} {kind E : Int} {w w' : World} (h : ((Z.dX kind N b : Nat) : Int) = E) (h0 : E ≠ 0) (hb : Below w.heap.size w w') : ToWordsAns b N kind w (.returned (.tuple #[.slice none 0 0, .slice none 0 0, .int .i64 E])) w' :=
  ⟨hb, .inl ⟨by omega, by rw [h]⟩⟩
set_option maxHeartbeats 2000000 in
theorem towords_any (ao : Option Addr) (len cap : Nat) (b : List Nat) (N : Nat) (kind : Int) (w : World) (h : Sl w .u8 ao len cap (ints b)) (h256 : ∀ x ∈ b, x < 256) (hm : len ≤ 140737488355328) (hN : N ≤ 4096) (hk : kind = 1 ∨ kind = 2 ∨ kind = 3) :
    Calls Tryz.prog 30 #[.slice ao len cap, .int .i64 (N : Int), .int .i64 kind] w (ToWordsAns b N kind w) := by
  have hl : b.length = len := by rw [← h.1, ints_length]
  obtain ⟨i0, hi0, hz0, hz1, hz2⟩ := info_parts Tryz.infoVal
  have HS := hide h
  have H256 := hide h256
  have HL := hide hl
  have HK := hide hk
  have eN : IntKind.u64.wrap (N : Int) = (N : Int) := by rw [u64_wrap]; omega
  clear h h256 hl hk
  go_enter Tryz.func30, Tryz.ntmps30
  go_wp2_with fail
  refine (get_any _ _ _ b _ HS.out H256.out hm).mono ?_
  rintro e w1 ⟨rfl, hb1⟩
  have HB1 := hide hb1
  obtain ⟨X, hX⟩ : ∃ X : Nat, E.gE b = X := ⟨_, rfl⟩
  obtain ⟨K, hK⟩ : ∃ K : Nat, E.gK b = K := ⟨_, rfl⟩
  obtain ⟨M, hM⟩ : ∃ M : Nat, E.gN b = M := ⟨_, rfl⟩
  rw [hX, hK, hM]
  have HE := hide hX
  have HKK := hide hK
  have HM := hide hM
  clear hb1 hX hK hM
  by_cases hX0 : X = 0
  · subst hX0
    by_cases hbad : N < M
    · have HP : Hid (((Z.dX kind N b : Nat) : Int) = 4) := by show _ = _; rw [dX_many HE.out (by rw [HM.out]; exact hbad)]; rfl
      go_wp2
      go_ret3
      exact ToWordsAns.no HP.out (by decide) HB1.out
    · have hMN : M ≤ N := by omega
      have hKl : K ≤ len := by rw [← HKK.out, ← HL.out]; exact (E.gE_zero HE.out H256.out).1
      obtain ⟨qa, hq, hr1, hr2⟩ := rest_of HS.out hKl
      obtain ⟨bd, hbd⟩ : ∃ d, b.drop K = d := ⟨_, rfl⟩
      rw [hbd] at hq
      have HQ := hide hq
      have HBD := hide hbd
      have HD256 : Hid (∀ x ∈ bd, x < 256) := fun x hx => H256.out x (by rw [← HBD.out] at hx; exact List.mem_of_mem_drop hx)
      have hdl : bd.length ≤ len := by rw [← hbd, List.length_drop, HL.out]; omega
      have HDL := hide hdl
      clear hq hbd hdl
      go_wp2_with (at_make; refine wpList_make_full _ rfl _ _ 22 rfl w.heap.size 45 i0 _ 3 Tryz.underlying22 hi0 hz0 hz1 _ _ _ _ M rfl rfl rfl rfl (by rw [hz2]; omega) (by unfold maxLen; omega) HB1.out.size ?_)
      intro w4 ho hg
      have hb4 : Below w1.heap.size w1 w4 := (Below.refl _ _).grown hg (Nat.le_refl _) (by simp)
      have HB4 := hide (bthen HB1.out hb4)
      have hrow0 : OwnV w4 w.heap.size (.slice (some ⟨w1.heap.size, 0, none⟩) M M) (Z.pF kind bd M 0) := by
        unfold OwnV
        rw [pF_length (Nat.zero_le _)]
        unfold Z.pF
        rw [show Z.pL kind 0 bd = [] from rfl, List.nil_append, Nat.sub_zero, cellsV_replicate]
        exact ho
      obtain ⟨R, hR⟩ : ∃ R, w1.heap.size = R := ⟨_, rfl⟩
      have hRl : w.heap.size ≤ R := by rw [← hR]; exact HB1.out.size
      rw [hR] at hrow0 ⊢
      have HR0 := hide hrow0
      clear hrow0 ho hg hb4 hR hi0 hz0 hz1 hz2 hr1 hr2
      go_wp2_with fail
      go_loopw [0, 34] (fun s i wr => ∃ j n : Nat, ∃ a c, j ≤ M ∧ i = .int .i64 j ∧ s = .slice a n c ∧ n ≤ 140737488355328 ∧ Hid (Sl w .u8 a n c (ints (Z.pR kind j bd))) ∧ Hid (OwnV wr w.heap.size (.slice (some ⟨R, 0, none⟩) M M) (Z.pF kind bd M j)) ∧ Hid (Z.pE kind j bd = 0) ∧ Hid (Below w.heap.size w wr)) (fun _ i _ => M - (intOf i).toNat)
      case atStart => exact ⟨0, len - K, qa, cap - K, Nat.zero_le _, rfl, rfl, by omega, HQ, HR0, hide rfl, HB4⟩
      case round =>
        obtain ⟨j, n, a, c, hj, rfl, rfl, hn, hs, hrow, hok, hbw⟩ := hrel
        by_cases hjl : j < M
        · have HCL := hide (toword_any a n c (Z.pR kind j bd) kind wr w hs.out (hs.out.below hbw.out) (pR_lt j bd HD256.out) hn HK.out)
          go_wp2_with fail
          refine HCL.out.mono ?_
          rintro e w5 ⟨hb5, a', n', c', rfl, hrest⟩
          obtain ⟨Y, hE⟩ : ∃ Y : Nat, Z.oE (Z.pR kind j bd) kind = Y := ⟨_, rfl⟩
          obtain ⟨⟨vk, vi, vs⟩, hv⟩ : ∃ x, Z.oV (Z.pR kind j bd) kind = x := ⟨_, rfl⟩
          rw [hE, hv, show (Z.V.v ⟨vk, vi, vs⟩) = .agg #[.int .i64 vk, .int .i64 vi, .string vs] from rfl]
          rw [hE] at hrest
          have HB5 := hide (bthen hbw.out hb5)
          have hrow5 : OwnV w5 w.heap.size (.slice (some ⟨R, 0, none⟩) M M) (Z.pF kind bd M j) := hrow.out.below hb5
          have hr6 := hrow5
          unfold OwnV at hr6
          rw [pF_length hj] at hr6
          obtain ⟨z0, z1, z2⟩ := cellsV_get _ j _ (pF_at (kind := kind) (b := bd) hjl)
          have c0 := (hr6.cellAt (j * 3) (by omega)).trans z0
          have c1 := (hr6.cellAt (j * 3 + 1) (by omega)).trans z1
          have c2 := (hr6.cellAt (j * 3 + 2) (by omega)).trans z2
          have f0 := hr6.frozenAt (j * 3)
          have f1 := hr6.frozenAt (j * 3 + 1)
          have f2 := hr6.frozenAt (j * 3 + 2)
          have HR6 := hide hr6
          have HE' := hide hE
          have HV := hide hv
          have HREST := hide hrest
          clear hr6 hE hv hrow5 hrest hb5 z0 z1 z2 HCL hrow
          have hk3 : Kept (fun k => k = R) w5 (((w5.setCell ⟨R, j * 3, none⟩ (.int .i64 vk)).setCell ⟨R, j * 3 + 1, none⟩ (.int .i64 vi)).setCell ⟨R, j * 3 + 2, none⟩ (.string vs)) :=
            Kept.setCell (F := fun k => k = R) (p := ⟨R, j * 3 + 2, none⟩) (Kept.setCell (F := fun k => k = R) (p := ⟨R, j * 3 + 1, none⟩) (Kept.setCell (F := fun k => k = R) (p := ⟨R, j * 3, none⟩) (Kept.refl _ _) (.inl rfl) _) (.inl rfl) _) (.inl rfl) _
          have HB6 := hide (HB5.out.trans (hk3.below HB5.out.size (by rintro k rfl; exact hRl)))
          by_cases hE0 : Y = 0
          · subst hE0
            obtain ⟨hn', hs'⟩ := HREST.out rfl
            have HS' := hide hs'
            have hn5 : n' ≤ 140737488355328 := by
              have h2 := pR_len kind (j + 1) bd
              rw [pR_succ] at h2
              have := HDL.out
              omega
            clear hn' hs' HREST hk3
            go_wp2
            go_roundw
            case rel =>
              have hrb := ((((HR6.out.stored (j * 3) (.int .i64 vk)).1.stored (j * 3 + 1) (.int .i64 vi)).1).stored (j * 3 + 2) (.string vs)).1
              refine ⟨j + 1, n', a', c', hjl, by go_num, rfl, hn5, ?_, ?_, ?_, HB6⟩
              · rw [pR_succ]; exact HS'
              · show OwnV _ _ _ _
                unfold OwnV
                rw [← pF_set hjl HV.out, cellsV_set _ _ _ (by rw [pF_length hj]; exact hjl), List.length_set, pF_length hj]
                exact hrb
              · rw [pE_succ kind j bd hok.out]
                exact HE'
            case measure => simp [intOf]; omega
          · obtain ⟨y, hy⟩ : ∃ y : Int, ((Y : Nat) : Int) = y := ⟨_, rfl⟩
            have hy0 : y ≠ 0 := by omega
            have HY0 := hide hy0
            have hyb : (y != 0) = true := by simpa using hy0
            have HP : Hid (((Z.dX kind N b : Nat) : Int) = y) := by
              show _ = _
              have h1 := pE_stop hok.out hjl (by rw [HE'.out]; exact hE0)
              rw [HE'.out] at h1
              have h2 : Z.pE kind (E.gN b) (b.drop (E.gK b)) = Y := by rw [HM.out, HKK.out, HBD.out]; exact h1
              rw [dX_val HE.out (by rw [HM.out]; exact hMN) (by rw [h2]; exact hE0), h2, hy]
            rw [hy]
            clear hy hE0 HREST hk3 hy0
            go_wp2
            go_ret3
            exact ToWordsAns.no HP.out HY0.out HB6.out
        · obtain rfl : j = M := by omega
          have hpl : Z.pF kind bd j j = Z.dW kind b := by
            unfold Z.pF Z.dW
            rw [Nat.sub_self, List.replicate_zero, List.append_nil, HM.out, HKK.out, HBD.out]
          have hpr : Z.pR kind j bd = Z.dR kind b := by unfold Z.dR; rw [HM.out, HKK.out, HBD.out]
          have hpe : Z.pE kind (E.gN b) (b.drop (E.gK b)) = 0 := by rw [HM.out, HKK.out, HBD.out]; exact hok.out
          have hrow1 := hrow.out
          rw [hpl] at hrow1
          have hs1 := hs.out
          rw [hpr] at hs1
          have hnr : n = (Z.dR kind b).length := by rw [← hs1.1, ints_length]
          have hwl : (Z.dW kind b).length = j := by rw [← hpl, pF_length (Nat.le_refl _)]
          obtain ⟨ra, rc, hv, hsl, _⟩ := SlV.of_own hrow1
          rw [hwl] at hv hsl
          injection hv with hv1 _ hv3
          subst hv1 hv3
          have HRS := hide (drise_any _ _ _ _ wr hsl (by omega))
          have HROW := hide hrow1
          have HS1 := hide hs1
          have HPE := hide hpe
          have HNR := hide hnr
          clear hpl hpr hpe hrow1 hs1 hnr hwl hsl hrow hs hok
          go_wp2_with fail
          refine HRS.out.mono ?_
          rintro e w5 ⟨rfl, hb5⟩
          have HB5 := hide (bthen hbw.out hb5)
          have HROW5 := hide (HROW.out.below hb5)
          clear hb5 HRS HROW
          cases hr : Z.risB (Z.dW kind b) with
          | true =>
            have HP : Hid (Z.dX kind N b = 0) := dX_ok HE.out (by rw [HM.out]; exact hMN) HPE.out hr
            clear hr
            go_wp2
            go_ret3
            refine ⟨HB5.out, .inr ⟨HP.out, _, a, c, by rw [← HNR.out]; rfl, HROW5.out, by rw [← HNR.out]; exact HS1.out⟩⟩
          | false =>
            have HP : Hid (((Z.dX kind N b : Nat) : Int) = 4) := by show _ = _; rw [dX_rise HE.out (by rw [HM.out]; exact hMN) HPE.out hr]; rfl
            clear hr
            go_wp2
            go_ret3
            exact ToWordsAns.no HP.out (by decide) HB5.out
  · obtain ⟨y, hy⟩ : ∃ y : Int, ((X : Nat) : Int) = y := ⟨_, rfl⟩
    have hy0 : y ≠ 0 := by omega
    have HY0 := hide hy0
    have hyb : (y != 0) = true := by simpa using hy0
    have HP : Hid (((Z.dX kind N b : Nat) : Int) = y) := by show _ = _; rw [dX_num (by rw [HE.out]; exact hX0), HE.out]; exact hy
    rw [hy]
    clear hy hX0 hy0
    go_wp2
    go_ret3
    exact ToWordsAns.no HP.out HY0.out HB1.out
end Go.Proofs.YtmhfpipeoojacaaGreat
/- dict.width: the bits of the greatest place. Conditions: fewer than 2^47 words. -/
namespace Go.Proofs.YtmhfpipeoojacaaGreat
set_option linter.unusedVariables false
set_option maxRecDepth 10000
open Go.RowKit
theorem dwidth_none (ao : Option Addr) (cap : Nat) (w : World) : Calls Tryz.prog 21 #[.slice ao 0 cap] w fun e w' => e = .returned (.int .i64 0) ∧ w' = w := by
  go_enter Tryz.func21, Tryz.ntmps21
  go_wp2
  go_ret
  exact ⟨rfl, rfl⟩
theorem dwidth_some (ao : Option Addr) (n cap : Nat) (w : World) (hl : n + 1 ≤ 140737488355328) : Calls Tryz.prog 21 #[.slice ao (n + 1) cap] w fun e w' => e = .returned (.int .i64 (Z.dwd (n + 1) : Nat)) ∧ Below w.heap.size w w' := by
  obtain ⟨m, hm⟩ : ∃ m, n + 1 = m := ⟨_, rfl⟩
  rw [hm]
  have e0 : ((m : Int) == 0) = false := by simp; omega
  have e1 : (m : Int) - 1 = (n : Int) := by omega
  have e2 : IntKind.u64.wrap (n : Int) = (n : Int) := by rw [u64_wrap]; omega
  have hs := Sl.one w 48 .u64 (n : Int)
  have hb := below_one w (.cells #[.int .u64 (n : Int)] 48)
  have HW : Hid (Calls Tryz.prog 56 #[.slice (some ⟨w.heap.size, 0, none⟩) 1 1] (w.alloc (.cells #[.int .u64 (n : Int)] 48)) fun e w' => e = .returned (.int .i64 (Z.dwd m : Nat)) ∧ w' = w.alloc (.cells #[.int .u64 (n : Int)] 48)) := by
    have := width_any _ 1 1 [(n : Int)] _ hs (by omega) (by intro x hx; simp at hx; omega)
    rw [show orAll [(n : Int)] = m - 1 by simp [orAll]; omega] at this
    exact this
  have HB := hide hb
  clear hs hb
  go_enter Tryz.func21, Tryz.ntmps21
  go_wp2_with fail
  refine HW.out.mono ?_
  rintro e w2 ⟨rfl, rfl⟩
  clear HW
  go_wp2
  go_ret
  exact ⟨rfl, HB.out⟩
theorem dwidth_any (ao : Option Addr) (len cap : Nat) (w : World) (hl : len ≤ 140737488355328) : Calls Tryz.prog 21 #[.slice ao len cap] w fun e w' => e = .returned (.int .i64 (Z.dwd len : Nat)) ∧ Below w.heap.size w w' := by
  cases len with
  | zero =>
    refine (dwidth_none ao cap w).mono ?_
    rintro e w' ⟨rfl, rfl⟩
    exact ⟨rfl, Below.refl _ _⟩
  | succ n => exact dwidth_some ao n cap w hl
end Go.Proofs.YtmhfpipeoojacaaGreat

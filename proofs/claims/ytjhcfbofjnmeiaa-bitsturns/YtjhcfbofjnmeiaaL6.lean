/- The walk of the statement: what was put is got. -/
import Derived.Test.YtjhcfbofjnmeiaaQ
import Derived.Test.YtjhcfbofjnmeiaaM
import Derived.Test.YtjhcfbofjnmeiaaL3
import Derived.Deep.RegionWith
namespace Go.Proofs.Ytjhcfbofjnmeiaa
set_option linter.unusedVariables false
open Go.RowKit
def bitsP (l : List (Int × Int)) : List Bool := l.flatMap fun x => A.bitsOf x.1.toNat x.2.toNat
def cellsP (l : List (Int × Int)) : List Value := l.flatMap fun x => [.int .u64 x.1, .int .i64 x.2]
def keptP (l : List (Int × Int)) (j : Nat) : List (Int × Int) := (l.take j).filter okP

theorem bitsP_append (a b : List (Int × Int)) : bitsP (a ++ b) = bitsP a ++ bitsP b := by simp [bitsP]
theorem cellsP_append (a b : List (Int × Int)) : cellsP (a ++ b) = cellsP a ++ cellsP b := by simp [cellsP]
theorem cellsP_length (l : List (Int × Int)) : (cellsP l).length = l.length * 2 := by
  induction l with
  | nil => rfl
  | cons x r ih => simp only [cellsP, List.flatMap_cons, List.length_append, List.length_cons, List.length_nil] at ih ⊢; omega
theorem cellsP_at (l : List (Int × Int)) (i : Nat) (h : i < l.length) : (cellsP l)[i * 2]? = some (.int .u64 (l.getD i (0, 0)).1) ∧ (cellsP l)[i * 2 + 1]? = some (.int .i64 (l.getD i (0, 0)).2) := by
  induction l generalizing i with
  | nil => simp at h
  | cons x r ih =>
    cases i with
    | zero => constructor <;> rfl
    | succ i =>
      have := ih i (by simpa using h)
      rw [show (i + 1) * 2 = i * 2 + 2 by omega]
      exact this
theorem keptP_yes (l : List (Int × Int)) (k : Nat) (h : k < l.length) (ho : okP (l.getD k (0, 0)) = true) : keptP l (k + 1) = keptP l k ++ [l.getD k (0, 0)] := by
  unfold keptP; rw [take_snocP l k h, List.filter_append, List.filter_cons_of_pos ho]; rfl
theorem keptP_no (l : List (Int × Int)) (k : Nat) (h : k < l.length) (ho : okP (l.getD k (0, 0)) = false) : keptP l (k + 1) = keptP l k := by
  unfold keptP; rw [take_snocP l k h, List.filter_append, List.filter_cons_of_neg (by rw [ho]; simp)]; simp
theorem keptP_le (l : List (Int × Int)) (k : Nat) : (keptP l k).length ≤ k := Nat.le_trans (List.length_filter_le _ _) (List.length_take_le _ _)
theorem bitsP_le (l : List (Int × Int)) (h : ∀ x ∈ l, okP x = true) : (bitsP l).length ≤ l.length * 64 := by
  induction l with
  | nil => simp [bitsP]
  | cons x r ih =>
    have h1 := (okP_iff x.1 x.2).1 (h x (by simp))
    have h2 := ih (fun y hy => h y (by simp [hy]))
    simp only [bitsP, List.flatMap_cons, List.length_append, A.bitsOf_length, List.length_cons] at h2 ⊢
    omega
theorem keptP_ok (l : List (Int × Int)) (k : Nat) : ∀ x ∈ keptP l k, okP x = true := fun x hx => (List.mem_filter.1 hx).2
theorem keptP_in {l : List (Int × Int)} (h : InP l) (k : Nat) : InP (keptP l k) := fun x hx => h x (List.mem_of_mem_take (List.mem_filter.1 hx).1)
theorem keptP_bits (l : List (Int × Int)) (k : Nat) : (bitsP (keptP l k)).length ≤ k * 64 := by
  have h1 := bitsP_le _ (keptP_ok l k)
  have h2 := keptP_le l k
  omega

/-- An owned row of pieces can be read. -/
theorem Sp.of_owns {w : World} {base : Nat} {v : Value} {l : List (Int × Int)} (h : w.ownsRow base 34 2 v l.length (cellsP l)) :
    ∃ ao cap, v = .slice ao l.length cap ∧ Sp w ao l.length cap l ∧ v.ownBlock = ao.map (·.block) := by
  have h0 := h
  rcases h.2 with ⟨h1, h2⟩ | ⟨g, cap, cur, hv, hg, hh, hc, hm, _⟩
  · have hl : l = [] := List.eq_nil_of_length_eq_zero h2
    subst hl
    exact ⟨none, 0, h1, ⟨rfl, Nat.le_refl _, by simp [maxLen], fun _ => rfl, .inl rfl⟩, by rw [h1]; rfl⟩
  · subst hv
    refine ⟨some ⟨g, 0, none⟩, cap, rfl, ⟨rfl, hc, hm, by simp, .inr ⟨g, 0, rfl, lt_of_block hh, fun i hi => ?_⟩⟩, rfl⟩
    rw [Nat.zero_add, h0.cellAt (i * 2) (by omega), h0.cellAt (i * 2 + 1) (by omega)]
    exact cellsP_at l i hi

/-- What a Put leaves of the pieces' row, and of what was there before the statement. -/
theorem turn_step {w wr w3 : World} {p : Nat} {vW v3 v5 : Value} {bs : List Bool} {n : Nat} {xs : List Value} (hp : w.heap.size ≤ p) (hw : Wr wr p vW bs) (ho : wr.ownsRow w.heap.size 34 2 v5 n xs) (hb : Below w.heap.size w wr) (hs : WS p wr vW w3 v3) :
    w3.ownsRow w.heap.size 34 2 v5 n xs ∧ Below w.heap.size w w3 := by
  have hsz := hb.size
  constructor
  · refine owns_of_block ho fun g hg => hs.1.block g (owns_lt ho hg).2 ?_
    rintro (rfl | h)
    · exact owns_ne_block ho hw.1 (by decide) hg
    · exact owns_ne hw.2 ho (by decide) h hg
  · refine hb.trans (hs.1.below hsz ?_)
    rintro x (rfl | h)
    · exact hp
    · have := (owns_lt hw.2 h).1; omega

theorem two_news {w : World} (t : TypeId) (a b : Value) : ∀ ad, some (⟨w.heap.size, 0, none⟩ : Addr) = some ad → ∀ j u, [a, b][j]? = some u → (w.alloc (.cells #[a, b] t)).cell? (ad.add j) = some u := by
  intro ad had j u hj
  obtain rfl := Option.some.inj had
  exact cell_two_new w a b t j u hj
theorem two_oneCell (n k : Int) : ∀ u ∈ [Value.int .u64 n, Value.int .i64 k], u.oneCell' = true := by
  intro u hu; simp at hu; rcases hu with rfl | rfl <;> rfl

theorem bitsP_cut (l : List (Int × Int)) (i : Nat) (h : i < l.length) : ((bitsP l).drop (bitsP (l.take i)).length).take (l.getD i (0, 0)).2.toNat = A.bitsOf (l.getD i (0, 0)).1.toNat (l.getD i (0, 0)).2.toNat ∧ (bitsP (l.take i)).length + (l.getD i (0, 0)).2.toNat ≤ (bitsP l).length := by
  have e : l = l.take i ++ (l.getD i (0, 0) :: l.drop (i + 1)) := by
    have h1 : l.getD i (0, 0) = l[i] := by simp [List.getD, h]
    rw [h1, List.getElem_cons_drop, List.take_append_drop]
  have e2 : bitsP l = bitsP (l.take i) ++ (A.bitsOf (l.getD i (0, 0)).1.toNat (l.getD i (0, 0)).2.toNat ++ bitsP (l.drop (i + 1))) := by
    conv => lhs; rw [e, bitsP_append]
    simp [bitsP]
  constructor
  · rw [e2, List.drop_append_of_le_length (Nat.le_refl _), List.drop_length, List.nil_append, List.take_append_of_le_length (by simp [A.bitsOf_length]), List.take_of_length_le (by simp [A.bitsOf_length])]
  · rw [e2]; simp [A.bitsOf_length]

theorem getP (l : List (Int × Int)) (i : Nat) (h : i < l.length) (hin : InP l) (hok : ∀ x ∈ l, okP x = true) : ((getV (A.bytesOf (bitsP l)) (bitsP (l.take i)).length (l.getD i (0, 0)).2.toNat : Nat) : Int) = (l.getD i (0, 0)).1 := by
  obtain ⟨h1, h2⟩ := bitsP_cut l i h
  have hm : l.getD i (0, 0) ∈ l := by
    have : l.getD i (0, 0) = l[i] := by simp [List.getD, h]
    rw [this]; exact List.getElem_mem _
  have h3 := (okP_iff (l.getD i (0, 0)).1 (l.getD i (0, 0)).2).1 (hok _ hm)
  have h4 := hin _ hm
  generalize l.getD i (0, 0) = x at h1 h2 h3 h4 ⊢
  unfold getV
  rw [A.bitsB_bytesOf, A.padded, List.drop_append_of_le_length (by omega), List.take_append_of_le_length (by simp; omega), h1, A.valOf_bitsOf]
  have h5 := h3.2.2
  rw [← pow_int] at h5
  rw [Nat.mod_eq_of_lt (by omega)]
  omega

theorem bitsP_succ (l : List (Int × Int)) (i : Nat) (h : i < l.length) : (bitsP (l.take (i + 1))).length = (bitsP (l.take i)).length + (l.getD i (0, 0)).2.toNat := by
  rw [take_snocP l i h, bitsP_append, List.length_append]
  simp [bitsP, A.bitsOf_length]

theorem get_i (p : Nat) (v : Value) (l : List Nat) (pos : Nat) (k : Int) (w : World) (hr : Rd w p v l pos) (hl : l.length ≤ 140737488355328) (h256 : ∀ x ∈ l, x < 256) (hk0 : 0 ≤ k) (hk : k ≤ 64) (hs : pos + k.toNat ≤ 8 * l.length) :
    Calls Try.prog 18 #[.pointer (some ⟨p, 0, none⟩), .int .i64 k] w fun e w' => e = .returned (.tuple #[.int .u64 ((getV l pos k.toNat : Nat) : Int), .int .i64 0]) ∧ Rd w' p v l (pos + k.toNat) ∧ Kept (fun x => x = p) w w' := by
  obtain ⟨j, rfl⟩ := Int.eq_ofNat_of_zero_le hk0
  rw [Int.toNat_natCast] at hs ⊢
  exact get_yes p v l pos j w hr hl h256 (by omega) hs

set_option maxHeartbeats 1000000 in
set_option maxRecDepth 100000 in
theorem bitsTurns_walk (w : World) (a : Option Addr) (len cap : Nat) (l : List (Int × Int)) (hsl : Sp w a len cap l) (hin : InP l) (hr : cap * 16 ≤ 140737488351232) :
    Calls Try.prog 7 #[.slice a len cap] w fun e w' => e = .returned (.bool true) ∧ Below w.heap.size w w' := by
  obtain ⟨i0, hi, hz0, hz1, hz2⟩ := info_parts Try.infoPiece
  have hlc := hsl.2.1
  have HSL := hide hsl
  have HIN := hide hin
  clear hsl hin
  go_enter Try.func7, Try.ntmps7
  go_wp2_with fail
  refine (shown_any w).mono ?_
  rintro e w2 ⟨rfl, hb⟩
  have hs := hb.size
  go_wp2_with fail
  go_loopw [5, 6, 7] (fun v5 v6 v7 wr => ∃ j : Nat, j ≤ len ∧ j ≤ 200 ∧ v7 = .int .i64 j ∧ v6 = .int .i64 ((bitsP (keptP l j)).length : Int) ∧ wr.ownsRow w.heap.size 34 2 v5 (keptP l j).length (cellsP (keptP l j)) ∧ (∃ vW, Wr wr w2.heap.size vW (bitsP (keptP l j))) ∧ Below w.heap.size w wr) (fun _ _ v7 _ => len - (intOf v7).toNat)
  case atStart => exact ⟨0, Nat.zero_le _, by omega, rfl, rfl, World.ownsRow_nil _ _ _ _, ⟨_, Wr.fresh w2⟩, hb.alloc hs _⟩
  case round =>
    obtain ⟨j, hj, hj2, rfl, rfl, hown, ⟨vW, hw⟩, hbr⟩ := hrel
    have hsr := hbr.size
    have hkb := keptP_bits l j
    rcases (show (j < len ∧ j < 200) ∨ (len ≤ j) ∨ (j < len ∧ 200 ≤ j) by omega) with ⟨hlt, hlt2⟩ | hlt | ⟨hlt, hlt2⟩
    case inl =>
      obtain ⟨b, off, hao, hblt, hc⟩ : ∃ b off, a = some ⟨b, off, none⟩ ∧ b < w.heap.size ∧ ∀ i, i < len → w.cell? ⟨b, off + i * 2, none⟩ = some (.int .u64 (l.getD i (0, 0)).1) ∧ w.cell? ⟨b, off + i * 2 + 1, none⟩ = some (.int .i64 (l.getD i (0, 0)).2) := by
        rcases HSL.out.2.2.2.2 with h | h
        · omega
        · exact h
      have hll : j < l.length := by rw [HSL.out.1]; exact hlt
      obtain ⟨hc0, hc1⟩ := hc j hlt
      obtain ⟨q0, q1, q2, q3⟩ := HIN.out.getD j hll
      have HY := hide (keptP_yes l j hll)
      have HN := hide (keptP_no l j hll)
      obtain ⟨n, k, hx⟩ : ∃ n k, l.getD j (0, 0) = (n, k) := ⟨_, _, rfl⟩
      rw [hx] at hc0 hc1 q0 q1 q2 q3 HY HN
      simp only at hc0 hc1 q0 q1 q2 q3
      have d0 : wr.cell? ⟨b, off + j * 2, none⟩ = some (.int .u64 n) := by rw [hbr.cell (p := ⟨b, off + j * 2, none⟩) hblt]; exact hc0
      have d1 : wr.cell? ⟨b, off + j * 2 + 1, none⟩ = some (.int .i64 k) := by rw [hbr.cell (p := ⟨b, off + j * 2 + 1, none⟩) hblt]; exact hc1
      have HW := hide hw
      have HO := hide hown
      have HB := hide hbr
      clear hc hx hll hw hown hbr hc0 hc1 hb
      subst hao
      by_cases ho : okP (n, k) = true
      · have HK := hide ho
        obtain ⟨k0, k1, _⟩ := (okP_iff n k).1 ho
        clear ho
        go_wp2_with fail
        go_region_with (go_at_call 11; refine (put_i _ vW _ _ _ _ (by exact HW.out) (by omega) q0 q1 HK.out).mono ?_; rintro e w3 ⟨rfl, v3, hw3, hs3⟩)
        all_goals
          obtain ⟨ho3, hb3⟩ := turn_step (wr := wr.drew) hs (by exact HW.out) (by exact HO.out) HB.out.drew hs3
          have hs4 := hb3.size
          have d0' : w3.cell? ⟨b, off + j * 2, none⟩ = some (.int .u64 n) := by rw [hb3.cell (p := ⟨b, off + j * 2, none⟩) hblt, ← HB.out.cell (p := ⟨b, off + j * 2, none⟩) hblt]; exact d0
          have d1' : w3.cell? ⟨b, off + j * 2 + 1, none⟩ = some (.int .i64 k) := by rw [hb3.cell (p := ⟨b, off + j * 2 + 1, none⟩) hblt, ← HB.out.cell (p := ⟨b, off + j * 2 + 1, none⟩) hblt]; exact d1
          have hk1 := keptP_le l j
          clear hs3 d0 d1
          go_wp2_with (at_builtin; refine wpList_append_to rfl (.tmp 38) (.tmp 43) 22 rfl w.heap.size 34 i0 (.agg #[.int .u64 0, .int .i64 0]) 2 16 Try.underlying22 hi hz0 hz1 hz2 rfl (by decide) _ _ _ rfl (ho3.alloc _) (some ⟨w3.heap.size, 0, none⟩) 1 1 [.int .u64 n, .int .i64 k] rfl (by simp) rfl (two_news _ _ _) (two_oneCell _ _) (by unfold maxLen; omega) (by omega) (by simp; omega) ?_)
          intro v' w4 hown4 has4
          have hk4 := ((Kept.refl (fun g => u5.ownBlock = some g) w3).alloc _).trans has4.1
          have hw4 := hw3.kept hk4 (owns_ne_block ho3 hw3.1 (by decide)) (fun g hg => owns_ne hw3.2 ho3 (by decide) hg)
          have hb4 : Below w.heap.size w w4 := hb3.trans (hk4.below hs4 (fun g hg => (owns_lt ho3 hg).1))
          have e1 : w4.cell? ⟨b, off + j * 2 + 1, none⟩ = some (.int .i64 k) := by rw [hb4.cell (p := ⟨b, off + j * 2 + 1, none⟩) hblt, ← hb3.cell (p := ⟨b, off + j * 2 + 1, none⟩) hblt]; exact d1'
          clear has4 hk4 ho3 hb3 d0' d1' hw3
          go_wp2
          go_roundw
          case rel =>
            have hy := HY.out HK.out
            refine ⟨j + 1, by omega, by omega, by go_num, ?_, ?_, ⟨v3, ?_⟩, hb4⟩
            · rw [hy, bitsP_append, List.length_append]
              simp [bitsP, A.bitsOf_length]; omega
            · rw [hy, cellsP_append, List.length_append]; exact hown4
            · rw [hy, bitsP_append]; simpa [bitsP] using hw4
          case measure => simp [intOf]; omega
      · have ho' : okP (n, k) = false := by simpa using ho
        have HK := hide ho'
        clear ho ho'
        go_wp2_with fail
        go_region_with (go_at_call 11; refine (put_n _ _ _ _ q0 q1 HK.out).mono ?_; rintro e w3 ⟨rfl, rfl⟩)
        all_goals
          go_wp2
          go_roundw
          case rel =>
            have hy := HN.out HK.out
            exact ⟨j + 1, by omega, by omega, by go_num, by rw [hy], by rw [hy]; exact HO.out, ⟨vW, by rw [hy]; exact HW.out⟩, HB.out.drew⟩
          case measure => simp [intOf]; omega
    all_goals
      obtain ⟨ao5, cap5, hv5, hsp5, hob5⟩ := Sp.of_owns hown
      have hk1 := keptP_le l j
      have HOK := hide (keptP_ok l j)
      have HIK := hide (keptP_in HIN.out j)
      have HW := hide hw
      have HO := hide hown
      have HB := hide hbr
      have HSP := hide hsp5
      have hplt := hw.lt
      obtain ⟨K, hKe⟩ : ∃ K, keptP l j = K := ⟨_, rfl⟩
      rw [hKe] at hv5 hk1 HOK HIK HW HO HSP hkb ⊢
      clear hKe hown hw hbr hb hsp5 hob5
      subst hv5
      go_wp2_with fail
      refine (bytes_any _ vW _ _ HW.out (by omega)).mono ?_
      rintro e w5 ⟨v5, rfl, ho5, hb5⟩
      have hs5 := hb5.size
      obtain ⟨aob, capb, hvb, hslb, _⟩ := Sl.of_bytes ho5
      have hbl := A.bytesOf_length (bitsP K)
      have HSB := hide hslb
      have HB5 := hide hb5
      have HBL := hide hbl
      have hble : (A.bytesOf (bitsP K)).length ≤ 140737488355328 := by omega
      clear ho5 hslb hb5 hbl
      subst hvb
      go_wp2_with fail
      refine (from_any _ _ _ (A.bytesOf (bitsP K)) _ HSB.out hble).mono ?_
      rintro e w6 ⟨pr, vr, rfl, hrd, hpr, hvr, hb6⟩
      have hs6 := hb6.size
      have hb56 : Below wr.heap.size wr w6 := HB5.out.trans (hb6.mono hs5)
      have HB6 := hide (HB.out.trans (hb56.mono hsr))
      have HW6 : Hid (Wr w6 w2.heap.size vW (bitsP K)) := HW.out.kept (Kept.of_below hb56 (fun _ => False)) (by simp) (by simp)
      have HSP6 := hide (HSP.out.below hb56)
      have HPR : Hid (∀ b, b < wr.heap.size → b ≠ pr) := fun b hb => by omega
      have HWL : Hid (∀ g, vW.ownBlock = some g → g < wr.heap.size) := fun g hg => (owns_lt HW.out.2 hg).2
      have HSPL : Hid (∀ b off, ao5 = some ⟨b, off, none⟩ → 0 < K.length → b < wr.heap.size) := by
        intro b off h1 h2
        rcases HSP.out.2.2.2.2 with h | ⟨b', off', h3, h4, _⟩
        · omega
        · rw [h1] at h3; simp at h3; omega
      clear hb6 hb56
      go_wp2_with fail
      go_loopw [9] (fun v9 wq => ∃ i : Nat, i ≤ K.length ∧ v9 = .int .i64 i ∧ Rd wq pr vr (A.bytesOf (bitsP K)) (bitsP (K.take i)).length ∧ Kept (fun x => x = pr) w6 wq) (fun v9 _ => K.length - (intOf v9).toNat)
      case atStart => exact ⟨0, Nat.zero_le _, rfl, by simpa [bitsP] using hrd, Kept.refl _ _⟩
      case round =>
        obtain ⟨i, hi', rfl, hrd2, hkq⟩ := hrel
        by_cases hil : i < K.length
        · obtain ⟨b5, off5, hao5, hb5lt, hc5⟩ : ∃ b off, ao5 = some ⟨b, off, none⟩ ∧ b < w6.heap.size ∧ ∀ i, i < K.length → w6.cell? ⟨b, off + i * 2, none⟩ = some (.int .u64 (K.getD i (0, 0)).1) ∧ w6.cell? ⟨b, off + i * 2 + 1, none⟩ = some (.int .i64 (K.getD i (0, 0)).2) := by
            rcases HSP6.out.2.2.2.2 with h | h
            · omega
            · exact h
          have hbne := HPR.out b5 (HSPL.out b5 off5 hao5 (by omega))
          obtain ⟨c0, c1⟩ := hc5 i hil
          have HG := hide (getP K i hil HIK.out HOK.out)
          have HCUT := hide (bitsP_cut K i hil).2
          have HSUC := hide (bitsP_succ K i hil)
          have hm : okP (K.getD i (0, 0)) = true := by
            have : K.getD i (0, 0) = K[i] := by simp [List.getD, hil]
            rw [this]; exact HOK.out _ (List.getElem_mem _)
          obtain ⟨n, k, hx⟩ : ∃ n k, K.getD i (0, 0) = (n, k) := ⟨_, _, rfl⟩
          rw [hx] at c0 c1 HG HCUT HSUC hm
          simp only at c0 c1 HG HCUT HSUC
          obtain ⟨k0, k1, _⟩ := (okP_iff n k).1 hm
          have f0 : wr.cell? ⟨b5, off5 + i * 2, none⟩ = some (.int .u64 n) := by rw [hkq.cell (p := ⟨b5, off5 + i * 2, none⟩) hb5lt hbne]; exact c0
          have f1 : wr.cell? ⟨b5, off5 + i * 2 + 1, none⟩ = some (.int .i64 k) := by rw [hkq.cell (p := ⟨b5, off5 + i * 2 + 1, none⟩) hb5lt hbne]; exact c1
          clear hc5 c0 c1 hx hm
          subst hao5
          have hne : (((getV (A.bytesOf (bitsP K)) (bitsP (K.take i)).length k.toNat : Nat) : Int) != n) = false := by rw [HG.out]; simp
          have hwr := hkq.size
          go_wp2_with fail
          refine (get_i pr vr _ _ k _ hrd2 hble (A.bytesOf_lt _) k0 k1 (by have := HCUT.out; have := HBL.out; omega)).mono ?_
          rintro e w7 ⟨rfl, hrd3, hk3⟩
          have g0 : w7.cell? ⟨b5, off5 + i * 2, none⟩ = some (.int .u64 n) := by rw [hk3.cell (p := ⟨b5, off5 + i * 2, none⟩) (Nat.lt_of_lt_of_le hb5lt hwr) hbne]; exact f0
          clear f0 f1
          go_wp2
          go_roundw
          case rel => exact ⟨i + 1, by omega, by go_num, by rw [HSUC.out]; exact hrd3, hkq.trans hk3⟩
          case measure => simp [intOf]; omega
        · have hiK : i = K.length := by omega
          subst hiK
          rw [List.take_of_length_le (Nat.le_refl _)] at hrd2
          have HW7 : Hid (Wr wr w2.heap.size vW (bitsP K)) := HW6.out.kept hkq (HPR.out _ hplt) (fun g hg => HPR.out g (HWL.out g hg))
          have HB7 : Hid (Below w.heap.size w wr) := HB6.out.trans (hkq.below HB6.out.size (by intro x hx; omega))
          have hlf : (8 * (A.bytesOf (bitsP K)).length - (bitsP K).length : Nat) < 8 := by have := HBL.out; omega
          have hle : (bitsP K).length ≤ 8 * (A.bytesOf (bitsP K)).length := by have := HBL.out; omega
          go_wp2_with fail
          refine (len_any _ vW _ _ HW7.out).mono ?_
          rintro e w8 ⟨rfl, rfl⟩
          go_wp2_with fail
          refine (left_any pr vr _ _ _ hrd2 hle hble).mono ?_
          rintro e w9 ⟨rfl, _, hk9⟩
          go_wp2
          go_ret
          refine ⟨?_, HB7.out.trans (hk9.below HB7.out.size (by simp))⟩
          first
            | rfl
            | exact congrArg (fun b => Ending.returned (Value.bool b)) (decide_eq_true (by omega))
end Go.Proofs.Ytjhcfbofjnmeiaa

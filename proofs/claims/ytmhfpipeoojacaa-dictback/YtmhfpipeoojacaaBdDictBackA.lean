/- Plain facts: so many bytes ahead tell a value, or its error, as all of them do. -/
import Derived.Test.YtmhfpipeoojacaaBdN
import Derived.Test.YtmhfpipeoojacaaBdY
import Derived.Test.YtmhfpipeoojacaaBdW
import Derived.Test.YtmhfpipeoojacaaBdK
import Derived.Test.YtmhfpipeoojacaaBdU
import Derived.Test.YtmhfpipeoojacaaBdZC
namespace Go.Proofs.Ytmhfpipeoojacaa
set_option linter.unusedVariables false
open Go.RowKit

theorem E.lead_take : ∀ (f m : Nat) (l : List Nat), f ≤ m → E.lead f (l.take m) = E.lead f l
  | 0, _, _, _ => rfl
  | f + 1, m + 1, [], _ => rfl
  | f + 1, m + 1, c :: r, h => by
    simp only [List.take_succ_cons, E.lead]
    rw [E.lead_take f m r (by omega)]
  | f + 1, 0, _, h => by omega
theorem E.g_take {m : Nat} (hm : 10 ≤ m) (l : List Nat) : E.gE (l.take m) = E.gE l ∧ E.gK (l.take m) = E.gK l ∧ E.gN (l.take m) = E.gN l := by
  have h1 := E.lead_take 9 m l (by omega)
  have h2 := (E.lead_is 9 l).1
  have h3 := (E.lead_is 9 l).2.1
  have hl : (l.take m).length = min m l.length := List.length_take
  have hE : E.gE (l.take m) = E.gE l := by
    unfold E.gE
    rw [h1, E.getD_take l 9 m (by omega), E.getD_take l (E.lead 9 l) m (by omega), hl]
    by_cases h4 : E.lead 9 l = l.length
    · rw [if_pos h4, if_pos (by omega)]
    · rw [if_neg h4, if_neg (by omega)]
  refine ⟨hE, ?_, ?_⟩
  · unfold E.gK; rw [hE, h1]
  · unfold E.gN; rw [hE, h1, List.take_take, Nat.min_eq_left (by omega)]
theorem E.gK_ten (l : List Nat) : E.gK l ≤ 10 := by
  have h2 := (E.lead_is 9 l).1
  unfold E.gK
  split <;> omega
/-- How many bytes tell a value of a kind. -/
def Z.most (kind : Int) : Nat := if kind = 3 then 1034 else 10
theorem o8_take (l : List Nat) (m : Nat) (h : 8 ≤ m) : Z.o8 (l.take m) = Z.o8 l := by
  unfold Z.o8
  simp only [E.getD_take l 0 m (by omega), E.getD_take l 1 m (by omega), E.getD_take l 2 m (by omega), E.getD_take l 3 m (by omega), E.getD_take l 4 m (by omega), E.getD_take l 5 m (by omega), E.getD_take l 6 m (by omega), E.getD_take l 7 m (by omega)]
theorem drop_len {l : List Nat} {m K : Nat} (hK : K ≤ (l.take m).length) : l.drop ((l.take m).length - ((l.take m).drop K).length) = l.drop K ∧ ((l.take m).drop K).length ≤ (l.take m).length := by
  rw [List.length_drop]
  exact ⟨by congr 1; omega, by omega⟩
theorem gK_take (l : List Nat) (m : Nat) (hm : 10 ≤ m) : E.gK l ≤ (l.take m).length := by
  have h2 := (E.lead_is 9 l).2.1
  have h1 := (E.lead_is 9 l).1
  rw [List.length_take]
  unfold E.gK
  split
  · rename_i h
    have h4 : E.lead 9 l ≠ l.length := fun h4 => by unfold E.gE at h; rw [if_pos h4] at h; omega
    omega
  · omega
theorem oE_two (l : List Nat) : Z.oE l 2 = if l.length < 8 then 3 else if D.ky (D.bt ((Z.o8 l : Nat) : Int)) = ((Z.o8 l : Nat) : Int) then 0 else 4 := by unfold Z.oE; rw [if_neg (by decide), if_neg (by decide), if_pos rfl]
theorem o_ahead {kind : Int} (hk : kind = 1 ∨ kind = 2 ∨ kind = 3) (l : List Nat) :
    Z.oE (l.take (Z.most kind)) kind = Z.oE l kind ∧ Z.oV (l.take (Z.most kind)) kind = Z.oV l kind ∧
      (Z.oE l kind = 0 → l.drop ((l.take (Z.most kind)).length - (Z.oR (l.take (Z.most kind)) kind).length) = Z.oR l kind) ∧ (Z.oR (l.take (Z.most kind)) kind).length ≤ (l.take (Z.most kind)).length := by
  have key : ∀ m, Z.most kind = m → Z.oE (l.take m) kind = Z.oE l kind → (Z.oE l kind = 0 → Z.oW (l.take m) kind = Z.oW l kind ∧ ∃ K, K ≤ (l.take m).length ∧ Z.oS (l.take m) kind = (l.take m).drop K ∧ Z.oS l kind = l.drop K) →
      Z.oE (l.take m) kind = Z.oE l kind ∧ Z.oV (l.take m) kind = Z.oV l kind ∧ (Z.oE l kind = 0 → l.drop ((l.take m).length - (Z.oR (l.take m) kind).length) = Z.oR l kind) ∧ (Z.oR (l.take m) kind).length ≤ (l.take m).length := by
    intro m _ hE h
    refine ⟨hE, ?_, ?_, ?_⟩
    · unfold Z.oV
      rw [hE]
      split
      · rename_i h0; exact (h h0).1
      · rfl
    · intro h0
      obtain ⟨_, K, hK, e1, e2⟩ := h h0
      unfold Z.oR
      rw [hE, if_pos h0, if_pos h0, e1, e2]
      exact (drop_len hK).1
    · unfold Z.oR
      rw [hE]
      split
      · rename_i h0
        obtain ⟨_, K, hK, e1, e2⟩ := h h0
        rw [e1]
        exact (drop_len hK).2
      · simp
  refine key _ rfl ?_ ?_
  · rcases hk with rfl | rfl | rfl
    · show Z.oE (l.take 10) 1 = _
      unfold Z.oE
      rw [if_neg (by decide), if_pos rfl, if_neg (by decide), if_pos rfl, (E.g_take (by omega) l).1]
    · show Z.oE (l.take 10) 2 = _
      rw [oE_two, oE_two, o8_take l 10 (by omega), List.length_take]
      by_cases h8 : l.length < 8
      · rw [if_pos (by omega), if_pos h8]
      · rw [if_neg (by omega), if_neg h8]
    · show Z.oE (l.take 1034) 3 = _
      unfold Z.oE
      rw [if_neg (by decide), if_neg (by decide), if_neg (by decide), if_pos rfl, if_neg (by decide), if_neg (by decide), if_neg (by decide), if_pos rfl]
      obtain ⟨g1, g2, g3⟩ := E.g_take (m := 1034) (by omega) l
      have g4 := E.gK_ten l
      unfold E.xE
      rw [g1, g2, g3, List.length_take]
      split
      · rfl
      · split
        · rfl
        · by_cases h8 : l.length - E.gK l < E.gN l
          · rw [if_pos (by omega), if_pos h8]
          · rw [if_neg (by omega), if_neg h8]
  · intro h0
    rcases hk with rfl | rfl | rfl
    · show Z.oW (l.take 10) 1 = _ ∧ ∃ K, K ≤ (l.take 10).length ∧ Z.oS (l.take 10) 1 = (l.take 10).drop K ∧ _
      obtain ⟨g1, g2, g3⟩ := E.g_take (m := 10) (by omega) l
      refine ⟨?_, E.gK l, gK_take l 10 (by omega), ?_, ?_⟩
      · unfold Z.oW; rw [if_pos rfl, if_pos rfl, g3]
      · unfold Z.oS; rw [if_pos rfl, g2]
      · unfold Z.oS; rw [if_pos rfl]
    · show Z.oW (l.take 10) 2 = _ ∧ ∃ K, K ≤ (l.take 10).length ∧ Z.oS (l.take 10) 2 = (l.take 10).drop K ∧ _
      have h8 : 8 ≤ l.length := by
        unfold Z.oE at h0
        rw [if_neg (by decide), if_neg (by decide), if_pos rfl] at h0
        split at h0
        · exact absurd h0 (by decide)
        · omega
      refine ⟨?_, 8, by rw [List.length_take]; omega, ?_, ?_⟩
      · unfold Z.oW; rw [if_neg (by decide), if_pos rfl, if_neg (by decide), if_pos rfl, o8_take l 10 (by omega)]
      · unfold Z.oS; rw [if_neg (by decide), if_pos rfl]
      · unfold Z.oS; rw [if_neg (by decide), if_pos rfl]
    · show Z.oW (l.take 1034) 3 = _ ∧ ∃ K, K ≤ (l.take 1034).length ∧ Z.oS (l.take 1034) 3 = (l.take 1034).drop K ∧ _
      obtain ⟨g1, g2, g3⟩ := E.g_take (m := 1034) (by omega) l
      have g4 := E.gK_ten l
      have hx : E.gN l ≤ 1024 ∧ E.gN l ≤ l.length - E.gK l := by
        unfold Z.oE at h0
        rw [if_neg (by decide), if_neg (by decide), if_neg (by decide), if_pos rfl] at h0
        unfold E.xE at h0
        split at h0
        · exact absurd h0 (by assumption)
        · split at h0
          · exact absurd h0 (by decide)
          · split at h0
            · exact absurd h0 (by decide)
            · omega
      have hgk := gK_take l 1034 (by omega)
      refine ⟨?_, E.gK l + E.gN l, ?_, ?_, ?_⟩
      · unfold Z.oW
        rw [if_neg (by decide), if_neg (by decide), if_pos rfl, if_neg (by decide), if_neg (by decide), if_pos rfl]
        unfold E.xS
        rw [g2, g3, List.drop_take, List.take_take, Nat.min_eq_left (by omega)]
      · rw [List.length_take] at hgk ⊢; omega
      · unfold Z.oS; rw [if_neg (by decide), if_neg (by decide), if_pos rfl]; unfold E.xR; rw [g2, g3, List.drop_drop]
      · unfold Z.oS; rw [if_neg (by decide), if_neg (by decide), if_pos rfl]; unfold E.xR; rw [List.drop_drop]
end Go.Proofs.Ytmhfpipeoojacaa
/- slices.ContainsFunc with the two closures of Check; Check. -/
namespace Go.Proofs.Ytmhfpipeoojacaa
set_option linter.unusedVariables false
open Go.RowKit

theorem any_get {l : List Z.V} {p : Z.V → Bool} {j : Nat} {x : Z.V} (h : l[j]? = some x) (hk : p x = true) : l.any p = true := List.any_eq_true.2 ⟨x, List.mem_of_getElem? h, hk⟩
theorem any_take {l : List Z.V} {p : Z.V → Bool} {j : Nat} {x : Z.V} (h : l[j]? = some x) (hk : p x = false) (ht : (l.take j).any p = false) : (l.take (j + 1)).any p = false := by
  rw [take_snocV h, List.any_append, ht, List.any_cons, hk]; rfl
def Z.isOther (kind : Int) (x : Z.V) : Bool := x.k != kind
def Z.mayNot (x : Z.V) : Bool := !Z.may x

theorem isother_any (B : Nat) (kind : Int) (k i : Int) (s : ByteArray) (w : World) (hb : w.heap[B]? = some (.cells #[.int .i64 kind] 3 (0, 0))) :
    Calls Try.prog 45 #[.agg #[.int .i64 k, .int .i64 i, .string s], .pointer (some ⟨B, 0, none⟩)] w fun e w' => e = .returned (.bool (Z.isOther kind ⟨k, i, s⟩)) ∧ Below w.heap.size w w' := by
  have hA := At.new w k i s
  have b0 := hide (below_one w (.cells #[.int .i64 k, .int .i64 i, .string s] 24))
  have hb1 := heap_alloc_keep (.cells #[.int .i64 k, .int .i64 i, .string s] 24) hb
  obtain ⟨c1, _⟩ := cell_of_heap hb1
  obtain ⟨a1, a2, a3⟩ := hA.cells
  clear hA hb hb1
  obtain ⟨q, hq⟩ : ∃ q, (k != kind) = q := ⟨_, rfl⟩
  have HQ : Hid (Z.isOther kind ⟨k, i, s⟩ = q) := hq
  go_enter Try.func45, Try.ntmps45
  go_wp2
  go_ret
  exact ⟨by rw [HQ.out]; rfl, b0.out⟩
theorem maynot_any (k i : Int) (s : ByteArray) (w : World) (hi : Z.I64 i) :
    Calls Try.prog 46 #[.agg #[.int .i64 k, .int .i64 i, .string s]] w fun e w' => e = .returned (.bool (Z.mayNot ⟨k, i, s⟩)) ∧ Below w.heap.size w w' := by
  have hA := At.new w k i s
  have b0 := hide (below_one w (.cells #[.int .i64 k, .int .i64 i, .string s] 24))
  obtain ⟨a1, a2, a3⟩ := hA.cells
  clear hA
  obtain ⟨q, hq⟩ : ∃ q, Z.may ⟨k, i, s⟩ = q := ⟨_, rfl⟩
  have HQ := hide hq
  clear hq
  go_enter Try.func46, Try.ntmps46
  go_wp2_with fail
  refine (may_any _ _ _ _ hi).mono ?_
  rintro e w1 ⟨rfl, hb⟩
  rw [HQ.out]
  replace b0 := hide (bthen b0.out hb)
  clear hb
  go_wp2
  go_ret
  exact ⟨by simp [Z.mayNot, HQ.out], b0.out⟩

set_option maxHeartbeats 1000000 in
theorem index_other (b off len cap : Nat) (l : List Z.V) (B : Nat) (kind : Int) (w : World) (hl : l.length = len) (hcap : len ≤ 140737488355328) (hlt : b < w.heap.size) (hB : w.heap[B]? = some (.cells #[.int .i64 kind] 3 (0, 0)))
    (hc : ∀ j x, l[j]? = some x → w.cell? ⟨b, off + j * 3, none⟩ = some (.int .i64 x.k) ∧ w.cell? ⟨b, off + j * 3 + 1, none⟩ = some (.int .i64 x.i) ∧ w.cell? ⟨b, off + j * 3 + 2, none⟩ = some (.string x.s)) :
    Calls Try.prog 68 #[.slice (some ⟨b, off, none⟩) len cap, .func (.func 45) #[] #[.pointer (some ⟨B, 0, none⟩)]] w fun e w' => ∃ r : Int, e = .returned (.int .i64 r) ∧ decide (0 ≤ r) = l.any (Z.isOther kind) ∧ Below w.heap.size w w' := by
  have HC := hide hc
  have HL := hide hl
  have HP := hide hB
  clear hc hl hB
  go_enter Try.func68, Try.ntmps68
  go_wp2_with fail
  go_loopw [8] (fun i wr => ∃ j : Nat, j ≤ len ∧ i = .int .i64 j ∧ Hid ((l.take j).any (Z.isOther kind) = false) ∧ Hid (Below w.heap.size w wr)) (fun i _ => len - (intOf i).toNat)
  case atStart => exact ⟨0, Nat.zero_le _, rfl, hide rfl, hide (Below.refl _ _)⟩
  case round =>
    obtain ⟨j, hj, rfl, han, hbw⟩ := hrel
    by_cases hjl : j < len
    · obtain ⟨⟨xk, xi, xs⟩, hx⟩ : ∃ x, l[j]? = some x := ⟨l[j]'(by rw [HL.out]; exact hjl), List.getElem?_eq_getElem _⟩
      obtain ⟨c1, c2, c3⟩ := HC.out j _ hx
      have d1 : wr.cell? ⟨b, off + j * 3, none⟩ = some (.int .i64 xk) := by rw [hbw.out.cell (p := ⟨b, off + j * 3, none⟩) hlt]; exact c1
      have d2 : wr.cell? ⟨b, off + j * 3 + 1, none⟩ = some (.int .i64 xi) := by rw [hbw.out.cell (p := ⟨b, off + j * 3 + 1, none⟩) hlt]; exact c2
      have d3 : wr.cell? ⟨b, off + j * 3 + 2, none⟩ = some (.string xs) := by rw [hbw.out.cell (p := ⟨b, off + j * 3 + 2, none⟩) hlt]; exact c3
      have HX := hide hx
      clear c1 c2 c3 hx
      go_wp2_with fail
      refine (isother_any B kind _ _ _ _ (by rw [hbw.out.block B (lt_of_block HP.out)]; exact HP.out)).mono ?_
      rintro e w2 ⟨rfl, hw2⟩
      have HBN := hide (bthen hbw.out hw2)
      obtain ⟨q, hq⟩ : ∃ q, (Z.isOther kind) ⟨xk, xi, xs⟩ = q := ⟨_, rfl⟩
      have HQ := hide hq
      rw [hq]
      clear hw2 hq d1 d2 d3
      cases q with
      | true =>
        go_wp2
        go_ret
        exact ⟨_, rfl, by rw [any_get HX.out HQ.out]; simp, HBN.out⟩
      | false =>
        go_wp2
        go_roundw
        case rel => exact ⟨j + 1, hjl, by go_num, hide (any_take HX.out HQ.out han.out), HBN⟩
        case measure => simp [intOf]; omega
    · obtain rfl : j = len := by omega
      have HE : Hid (l.any (Z.isOther kind) = false) := by
        have := han.out
        rwa [← HL.out, List.take_length] at this
      go_wp2
      go_ret
      exact ⟨_, rfl, by rw [HE.out]; rfl, hbw.out⟩
theorem index_other0 (ao : Option Addr) (cap : Nat) (B : Nat) (kind : Int) (w : World) :
    Calls Try.prog 68 #[.slice ao 0 cap, .func (.func 45) #[] #[.pointer (some ⟨B, 0, none⟩)]] w fun e w' => ∃ r : Int, e = .returned (.int .i64 r) ∧ decide (0 ≤ r) = ([] : List Z.V).any (Z.isOther kind) ∧ Below w.heap.size w w' := by
  go_enter Try.func68, Try.ntmps68
  go_wp2_with fail
  go_rounds 1
  go_ret
  exact ⟨_, rfl, rfl, Below.refl _ _⟩
theorem contains_other (ao : Option Addr) (len cap : Nat) (l : List Z.V) (B : Nat) (kind : Int) (w : World) (h : SlV w ao len cap l) (hcap : len ≤ 140737488355328) (hB : w.heap[B]? = some (.cells #[.int .i64 kind] 3 (0, 0))) :
    Calls Try.prog 49 #[.slice ao len cap, .func (.func 45) #[] #[.pointer (some ⟨B, 0, none⟩)]] w fun e w' => e = .returned (.bool (l.any (Z.isOther kind))) ∧ Below w.heap.size w w' := by
  have HC : Hid (Calls Try.prog 68 #[.slice ao len cap, .func (.func 45) #[] #[.pointer (some ⟨B, 0, none⟩)]] w fun e w' => ∃ r : Int, e = .returned (.int .i64 r) ∧ decide (0 ≤ r) = l.any (Z.isOther kind) ∧ Below w.heap.size w w') := by
    show Calls _ _ _ _ _
    rcases h.2.2.2.2 with h5 | ⟨b, off, rfl, hlt, h5⟩
    · subst h5
      obtain rfl : l = [] := List.eq_nil_of_length_eq_zero h.1
      exact index_other0 ao cap B kind w
    · exact index_other b off len cap l B kind w h.1 hcap hlt hB h5
  clear h hB
  go_enter Try.func49, Try.ntmps49
  go_wp2_with fail
  refine HC.out.mono ?_
  rintro e w1 ⟨r, rfl, hr, hb1⟩
  replace hb1 := hide hb1
  obtain ⟨q, hq⟩ : ∃ q, l.any (Z.isOther kind) = q := ⟨_, rfl⟩
  rw [hq] at hr
  have HQ := hide hq
  clear hq
  cases q with
  | true =>
    have h0 : 0 ≤ r := by simpa using hr
    clear hr
    go_wp2
    go_ret
    exact ⟨by rw [HQ.out]; simp, hb1.out⟩
  | false =>
    have h0 : ¬ 0 ≤ r := by simpa using hr
    clear hr
    go_wp2
    go_ret
    exact ⟨by rw [HQ.out]; simp [h0], hb1.out⟩

set_option maxHeartbeats 1000000 in
theorem index_mayNot (b off len cap : Nat) (l : List Z.V) (w : World) (hl : l.length = len) (hcap : len ≤ 140737488355328) (hlt : b < w.heap.size) (hI : ∀ x ∈ l, Z.I64 x.i)
    (hc : ∀ j x, l[j]? = some x → w.cell? ⟨b, off + j * 3, none⟩ = some (.int .i64 x.k) ∧ w.cell? ⟨b, off + j * 3 + 1, none⟩ = some (.int .i64 x.i) ∧ w.cell? ⟨b, off + j * 3 + 2, none⟩ = some (.string x.s)) :
    Calls Try.prog 68 #[.slice (some ⟨b, off, none⟩) len cap, .func (.func 46) #[] #[]] w fun e w' => ∃ r : Int, e = .returned (.int .i64 r) ∧ decide (0 ≤ r) = l.any Z.mayNot ∧ Below w.heap.size w w' := by
  have HC := hide hc
  have HL := hide hl
  have HP := hide hI
  clear hc hl hI
  go_enter Try.func68, Try.ntmps68
  go_wp2_with fail
  go_loopw [8] (fun i wr => ∃ j : Nat, j ≤ len ∧ i = .int .i64 j ∧ Hid ((l.take j).any Z.mayNot = false) ∧ Hid (Below w.heap.size w wr)) (fun i _ => len - (intOf i).toNat)
  case atStart => exact ⟨0, Nat.zero_le _, rfl, hide rfl, hide (Below.refl _ _)⟩
  case round =>
    obtain ⟨j, hj, rfl, han, hbw⟩ := hrel
    by_cases hjl : j < len
    · obtain ⟨⟨xk, xi, xs⟩, hx⟩ : ∃ x, l[j]? = some x := ⟨l[j]'(by rw [HL.out]; exact hjl), List.getElem?_eq_getElem _⟩
      obtain ⟨c1, c2, c3⟩ := HC.out j _ hx
      have d1 : wr.cell? ⟨b, off + j * 3, none⟩ = some (.int .i64 xk) := by rw [hbw.out.cell (p := ⟨b, off + j * 3, none⟩) hlt]; exact c1
      have d2 : wr.cell? ⟨b, off + j * 3 + 1, none⟩ = some (.int .i64 xi) := by rw [hbw.out.cell (p := ⟨b, off + j * 3 + 1, none⟩) hlt]; exact c2
      have d3 : wr.cell? ⟨b, off + j * 3 + 2, none⟩ = some (.string xs) := by rw [hbw.out.cell (p := ⟨b, off + j * 3 + 2, none⟩) hlt]; exact c3
      have HX := hide hx
      clear c1 c2 c3 hx
      go_wp2_with fail
      refine (maynot_any _ _ _ _ (HP.out _ (List.mem_of_getElem? HX.out))).mono ?_
      rintro e w2 ⟨rfl, hw2⟩
      have HBN := hide (bthen hbw.out hw2)
      obtain ⟨q, hq⟩ : ∃ q, Z.mayNot ⟨xk, xi, xs⟩ = q := ⟨_, rfl⟩
      have HQ := hide hq
      rw [hq]
      clear hw2 hq d1 d2 d3
      cases q with
      | true =>
        go_wp2
        go_ret
        exact ⟨_, rfl, by rw [any_get HX.out HQ.out]; simp, HBN.out⟩
      | false =>
        go_wp2
        go_roundw
        case rel => exact ⟨j + 1, hjl, by go_num, hide (any_take HX.out HQ.out han.out), HBN⟩
        case measure => simp [intOf]; omega
    · obtain rfl : j = len := by omega
      have HE : Hid (l.any Z.mayNot = false) := by
        have := han.out
        rwa [← HL.out, List.take_length] at this
      go_wp2
      go_ret
      exact ⟨_, rfl, by rw [HE.out]; rfl, hbw.out⟩
theorem index_mayNot0 (ao : Option Addr) (cap : Nat) (w : World) :
    Calls Try.prog 68 #[.slice ao 0 cap, .func (.func 46) #[] #[]] w fun e w' => ∃ r : Int, e = .returned (.int .i64 r) ∧ decide (0 ≤ r) = ([] : List Z.V).any Z.mayNot ∧ Below w.heap.size w w' := by
  go_enter Try.func68, Try.ntmps68
  go_wp2_with fail
  go_rounds 1
  go_ret
  exact ⟨_, rfl, rfl, Below.refl _ _⟩
theorem contains_mayNot (ao : Option Addr) (len cap : Nat) (l : List Z.V) (w : World) (h : SlV w ao len cap l) (hcap : len ≤ 140737488355328) (hI : ∀ x ∈ l, Z.I64 x.i) :
    Calls Try.prog 49 #[.slice ao len cap, .func (.func 46) #[] #[]] w fun e w' => e = .returned (.bool (l.any Z.mayNot)) ∧ Below w.heap.size w w' := by
  have HC : Hid (Calls Try.prog 68 #[.slice ao len cap, .func (.func 46) #[] #[]] w fun e w' => ∃ r : Int, e = .returned (.int .i64 r) ∧ decide (0 ≤ r) = l.any Z.mayNot ∧ Below w.heap.size w w') := by
    show Calls _ _ _ _ _
    rcases h.2.2.2.2 with h5 | ⟨b, off, rfl, hlt, h5⟩
    · subst h5
      obtain rfl : l = [] := List.eq_nil_of_length_eq_zero h.1
      exact index_mayNot0 ao cap  w
    · exact index_mayNot b off len cap l  w h.1 hcap hlt hI h5
  clear h hI
  go_enter Try.func49, Try.ntmps49
  go_wp2_with fail
  refine HC.out.mono ?_
  rintro e w1 ⟨r, rfl, hr, hb1⟩
  replace hb1 := hide hb1
  obtain ⟨q, hq⟩ : ∃ q, l.any Z.mayNot = q := ⟨_, rfl⟩
  rw [hq] at hr
  have HQ := hide hq
  clear hq
  cases q with
  | true =>
    have h0 : 0 ≤ r := by simpa using hr
    clear hr
    go_wp2
    go_ret
    exact ⟨by rw [HQ.out]; simp, hb1.out⟩
  | false =>
    have h0 : ¬ 0 ≤ r := by simpa using hr
    clear hr
    go_wp2
    go_ret
    exact ⟨by rw [HQ.out]; simp [h0], hb1.out⟩
end Go.Proofs.Ytmhfpipeoojacaa
/- Steps of a region that draws its order: a value's parts in memory. -/
namespace Go.Proofs.Ytmhfpipeoojacaa.V
set_option linter.unusedVariables false
open Go.RowKit

variable {ops : Array Oper} {Q : Exit → Act → World → Prop} {tbl : List (Nat × Ent)} {w0 : World} {o : Oper}

/-- The address of a part. -/
theorem Step.field {s B i : Nat} (hw : Wants tbl ops o) (ho : o.op = .fieldAddr 24 (.tmp s) i) (hs : get tbl s = Ent.is (.pointer (some ⟨B, 0, none⟩))) (hi : i < 3) (hd : ∀ d, o.dst = some d → get tbl d = Ent.is (.pointer (some ⟨B, i, none⟩))) : Step Try.prog ops Q tbl w0 o := by
  refine Step.value hw fun a w hb hk => ⟨.pointer (some ⟨B, i, none⟩), ?_, fun d h => by rw [hd d h]; rfl⟩
  have h1 : a.eval (.tmp s) = .pointer (some ⟨B, 0, none⟩) := by
    have := hk s (looks_op (by rw [ho]; simp [Op.operands]))
    rwa [hs] at this
  simp only [execOp, ho, h1]
  match i, hi with
  | 0, _ => simp [go_sem]
  | 1, _ => simp [go_sem]
  | 2, _ => simp [go_sem]
/-- A value as a whole. -/
theorem Step.loadV {s B : Nat} {k i : Int} {z : ByteArray} (hw : Wants tbl ops o) (ho : o.op = .load 24 (.tmp s)) (hs : get tbl s = Ent.is (.pointer (some ⟨B, 0, none⟩))) (hB : At w0 B k i z) (hd : ∀ d, o.dst = some d → get tbl d = Ent.is (.agg #[.int .i64 k, .int .i64 i, .string z])) : Step Try.prog ops Q tbl w0 o := by
  refine Step.value hw fun a w hb hk => ⟨.agg #[.int .i64 k, .int .i64 i, .string z], ?_, fun d h => by rw [hd d h]; rfl⟩
  have h1 : a.eval (.tmp s) = .pointer (some ⟨B, 0, none⟩) := by
    have := hk s (looks_op (by rw [ho]; simp [Op.operands]))
    rwa [hs] at this
  have h2 : At w B k i z := hB.below hb
  unfold At at h2
  unfold execOp
  simp only [ho, h1, Instr.loadAt, Instr.sureAddr, Sem.run_bind, Sem.run_pure, Result.andThen_ok, run_loadVar_row w B 24 24 _ (0, 0) _ h2 Try.underlying24 rfl (by kernel_rfl)]
/-- A part. -/
theorem Step.loadI {t s B j : Nat} {k : IntKind} {n : Int} (hw : Wants tbl ops o) (ho : o.op = .load t (.tmp s)) (hs : get tbl s = Ent.is (.pointer (some ⟨B, j, none⟩))) (ht : Try.prog.underlying t = some (.int k)) (hl : B < w0.heap.size) (hB : w0.cell? ⟨B, j, none⟩ = some (.int k n)) (hd : ∀ d, o.dst = some d → get tbl d = Ent.is (.int k n)) : Step Try.prog ops Q tbl w0 o := by
  refine Step.value hw fun a w hb hk => ⟨.int k n, ?_, fun d h => by rw [hd d h]; rfl⟩
  have h1 : a.eval (.tmp s) = .pointer (some ⟨B, j, none⟩) := by
    have := hk s (looks_op (by rw [ho]; simp [Op.operands]))
    rwa [hs] at this
  have h2 : w.cell? ⟨B, j, none⟩ = some (.int k n) := by rw [hb.cell (p := ⟨B, j, none⟩) hl]; exact hB
  have ha : ∀ w : World, (isAgg t).run Try.prog w = .ok false w := fun w => by unfold isAgg; rw [Sem.run_bind, run_underlying ht w]; rfl
  simp only [execOp, ho, h1]
  simp [go_sem, h2, ha]
theorem Step.loadS {t s B j : Nat} {z : ByteArray} (hw : Wants tbl ops o) (ho : o.op = .load t (.tmp s)) (hs : get tbl s = Ent.is (.pointer (some ⟨B, j, none⟩))) (ht : Try.prog.underlying t = some .string) (hl : B < w0.heap.size) (hB : w0.cell? ⟨B, j, none⟩ = some (.string z)) (hd : ∀ d, o.dst = some d → get tbl d = Ent.is (.string z)) : Step Try.prog ops Q tbl w0 o := by
  refine Step.value hw fun a w hb hk => ⟨.string z, ?_, fun d h => by rw [hd d h]; rfl⟩
  have h1 : a.eval (.tmp s) = .pointer (some ⟨B, j, none⟩) := by
    have := hk s (looks_op (by rw [ho]; simp [Op.operands]))
    rwa [hs] at this
  have h2 : w.cell? ⟨B, j, none⟩ = some (.string z) := by rw [hb.cell (p := ⟨B, j, none⟩) hl]; exact hB
  have ha : ∀ w : World, (isAgg t).run Try.prog w = .ok false w := fun w => by unfold isAgg; rw [Sem.run_bind, run_underlying ht w]; rfl
  simp only [execOp, ho, h1]
  simp [go_sem, h2, ha]
theorem At.lt {w : World} {B : Nat} {k i : Int} {z : ByteArray} (h : At w B k i z) : B < w.heap.size := lt_of_block h
theorem eql_int (t : TypeId) (k : IntKind) (x y : Int) (_ht : Try.prog.underlying t = some (.int k)) (w : World) : (binOp .eql t (.int k x) (.int k y)).run Try.prog w = .ok (.bool (x == y)) w := by
  simp [go_sem]
theorem eql_bool (x y : Bool) (w : World) : (binOp .eql 4 (.bool x) (.bool y)).run Try.prog w = .ok (.bool (x == y)) w := by
  simp [go_sem]
end Go.Proofs.Ytmhfpipeoojacaa.V
/- The contract of the reference's May. -/
namespace Go.Proofs.Ytmhfpipeoojacaa
set_option linter.unusedVariables false
open Go.RowKit

theorem may_float2 {i : Int} {s : ByteArray} (hi : Z.I64 i) : Z.may ⟨2, i, s⟩ = (s.toList.isEmpty && (D.cl (Z.u i) == Z.u i)) := by
  rw [may_float, Bool.and_comm]
  congr 1
  unfold Z.same Z.cl
  simp
  rw [Bool.eq_iff_iff, beq_iff_eq, beq_iff_eq]
  constructor
  · intro h; rw [← Z.u_sg (D.cl_in (Z.u_in i)), h]
  · intro h; rw [h, Z.sg_u hi]
theorem may_null2 {i : Int} {s : ByteArray} : Z.may ⟨0, i, s⟩ = ((i == 0) && s.toList.isEmpty) := by
  rw [empty_of]; unfold Z.may; simp; rfl

def mayYesTbl (B : Nat) (i U C : Int) (s : ByteArray) (b : Bool) : List (Nat × V.Ent) :=
   [(1, V.Ent.is (.pointer (some ⟨B, 0, none⟩))),
    (22, V.Ent.is (.pointer (some ⟨B, 2, none⟩))),
    (23, V.Ent.is (.string s)),
    (24, V.Ent.is (.bool true)),
    (25, V.Ent.is (.bool true)),
    (26, V.Ent.is (.pointer (some ⟨B, 1, none⟩))),
    (27, V.Ent.is (.int .i64 i)),
    (28, V.Ent.is (.int .u64 U)),
    (29, V.Ent.is (.int .u64 C)),
    (30, V.Ent.is (.pointer (some ⟨B, 1, none⟩))),
    (31, V.Ent.is (.int .i64 i)),
    (32, V.Ent.is (.int .u64 U)),
    (33, V.Ent.is (.bool b)),
    (34, V.Ent.is (.bool b)),
    (2, V.Ent.is (.bool b))]

def mayNoTbl (B : Nat) (i U C : Int) (s : ByteArray) (b : Bool) : List (Nat × V.Ent) :=
   [(1, V.Ent.is (.pointer (some ⟨B, 0, none⟩))),
    (22, V.Ent.is (.pointer (some ⟨B, 2, none⟩))),
    (23, V.Ent.is (.string s)),
    (24, V.Ent.is (.bool false)),
    (25, V.Ent.is (.bool false)),
    (26, V.Ent.is (undef)),
    (27, V.Ent.is (undef)),
    (28, V.Ent.is (undef)),
    (29, V.Ent.is (undef)),
    (30, V.Ent.is (undef)),
    (31, V.Ent.is (undef)),
    (32, V.Ent.is (undef)),
    (33, V.Ent.is (undef)),
    (34, V.Ent.is (.bool false)),
    (2, V.Ent.is (.bool false))]

end Go.Proofs.Ytmhfpipeoojacaa
/- Check: may values be a column's? The program's answer, and the document's. -/
namespace Go.Proofs.Ytmhfpipeoojacaa
set_option linter.unusedVariables false
open Go.RowKit

theorem iscol_any (kind : Int) (w : World) : Calls Try.prog 48 #[.int .i64 kind] w fun e w' => e = .returned (.bool (Z.kindOk kind)) ∧ w' = w := by
  by_cases k1 : kind = 1
  · subst k1
    go_enter Try.func48, Try.ntmps48
    go_wp2
    go_ret
    exact ⟨rfl, rfl⟩
  · by_cases k2 : kind = 2
    · subst k2
      go_enter Try.func48, Try.ntmps48
      go_wp2
      go_ret
      exact ⟨rfl, rfl⟩
    · by_cases k3 : kind = 3
      · subst k3
        go_enter Try.func48, Try.ntmps48
        go_wp2
        go_ret
        exact ⟨rfl, rfl⟩
      · have HK : Hid (Z.kindOk kind = false) := by show _ = _; unfold Z.kindOk; simp [k1, k2, k3]
        have e1 : (kind == 1) = false := by simpa using k1
        have e2 : (kind == 2) = false := by simpa using k2
        have e3 : (kind == 3) = false := by simpa using k3
        go_enter Try.func48, Try.ntmps48
        go_wp2
        go_ret
        exact ⟨by rw [HK.out]; rfl, rfl⟩
theorem chk_kind {l : List Z.V} {kind : Int} (h : Z.kindOk kind = false) : Z.chk l kind = 1 := by unfold Z.chk; rw [if_pos h]
theorem chk_many {l : List Z.V} {kind : Int} (h : Z.kindOk kind = true) (h1 : 4096 < l.length) : Z.chk l kind = 2 := by unfold Z.chk; rw [h, if_neg (by decide), if_pos h1]
theorem chk_other {l : List Z.V} {kind : Int} (h : Z.kindOk kind = true) (h1 : l.length ≤ 4096) (h2 : l.any (Z.isOther kind) = true) : Z.chk l kind = 7 := by
  unfold Z.chk; rw [h, if_neg (by decide), if_neg (by omega)]
  exact if_pos h2
theorem chk_mayNot {l : List Z.V} {kind : Int} (h : Z.kindOk kind = true) (h1 : l.length ≤ 4096) (h2 : l.any (Z.isOther kind) = false) (h3 : l.any Z.mayNot = true) : Z.chk l kind = 1 := by
  unfold Z.chk; rw [h, if_neg (by decide), if_neg (by omega)]
  exact (if_neg (by show ¬ l.any (Z.isOther kind) = true; rw [h2]; decide)).trans (if_pos h3)
theorem chk_yes {l : List Z.V} {kind : Int} (h : Z.kindOk kind = true) (h1 : l.length ≤ 4096) (h2 : l.any (Z.isOther kind) = false) (h3 : l.any Z.mayNot = false) : Z.chk l kind = 0 := by
  unfold Z.chk; rw [h, if_neg (by decide), if_neg (by omega)]
  exact (if_neg (by show ¬ l.any (Z.isOther kind) = true; rw [h2]; decide)).trans (if_neg (by show ¬ l.any Z.mayNot = true; rw [h3]; decide))

set_option maxHeartbeats 1000000 in
theorem check_any (ao : Option Addr) (len cap : Nat) (l : List Z.V) (kind : Int) (w : World) (h : SlV w ao len cap l) (hI : ∀ x ∈ l, Z.I64 x.i) :
    Calls Try.prog 25 #[.slice ao len cap, .int .i64 kind] w fun e w' => e = .returned (.int .i64 (Z.chk l kind)) ∧ Below w.heap.size w w' := by
  have hmf : ∀ (fn : Fn) (first cap : Array Value) (w : World), (Instr.makeFunc fn first cap).run Try.prog w = .ok (.func fn first cap) w := fun _ _ _ _ => rfl
  have hb := heap_alloc_new w (.cells #[.int .i64 kind] 3)
  have b0 := hide (below_one w (.cells #[.int .i64 kind] 3))
  have HS := hide (h.below b0.out)
  have HI := hide hI
  have HL := hide h.1
  obtain ⟨c1, _⟩ := cell_of_heap hb
  have HB := hide hb
  clear h hI hb
  obtain ⟨q, hq⟩ : ∃ q, Z.kindOk kind = q := ⟨_, rfl⟩
  have HQ := hide hq
  clear hq
  go_enter Try.func25, Try.ntmps25
  go_wp2_with fail
  refine (iscol_any _ _).mono ?_
  rintro e w1 ⟨rfl, rfl⟩
  rw [HQ.out]
  cases q with
  | false =>
    go_wp2
    go_ret
    exact ⟨by rw [chk_kind HQ.out]; rfl, b0.out⟩
  | true =>
    by_cases hm : 4096 < len
    · go_wp2
      go_ret
      exact ⟨by rw [chk_many HQ.out (by rw [HL.out]; exact hm)]; rfl, b0.out⟩
    · go_wp2_with fail
      refine (contains_other _ _ _ l w.heap.size kind _ HS.out (by omega) HB.out).mono ?_
      rintro e w1 ⟨rfl, hb1⟩
      replace b0 := hide (bthen b0.out hb1)
      replace HS := hide (HS.out.below hb1)
      obtain ⟨q2, hq2⟩ : ∃ q, l.any (Z.isOther kind) = q := ⟨_, rfl⟩
      have HQ2 := hide hq2
      rw [hq2]
      clear hq2 hb1
      cases q2 with
      | true =>
        go_wp2
        go_ret
        exact ⟨by rw [chk_other HQ.out (by rw [HL.out]; omega) HQ2.out]; rfl, b0.out⟩
      | false =>
        go_wp2_with fail
        refine (contains_mayNot _ _ _ l _ HS.out (by omega) HI.out).mono ?_
        rintro e w2 ⟨rfl, hb2⟩
        replace b0 := hide (bthen b0.out hb2)
        obtain ⟨q3, hq3⟩ : ∃ q, l.any Z.mayNot = q := ⟨_, rfl⟩
        have HQ3 := hide hq3
        rw [hq3]
        clear hq3 hb2
        cases q3 with
        | true =>
          go_wp2
          go_ret
          exact ⟨by rw [chk_mayNot HQ.out (by rw [HL.out]; omega) HQ2.out HQ3.out]; rfl, b0.out⟩
        | false =>
          go_wp2
          go_ret
          exact ⟨by rw [chk_yes HQ.out (by rw [HL.out]; omega) HQ2.out HQ3.out]; rfl, b0.out⟩
end Go.Proofs.Ytmhfpipeoojacaa
/- The document's Check. -/
namespace Go.Proofs.Ytmhfpipeoojacaa
set_option linter.unusedVariables false
open Go.RowKit

end Go.Proofs.Ytmhfpipeoojacaa

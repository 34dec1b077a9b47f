/- Is one of the values nothing? Joined: the values laid in their places. -/
import Derived.Test.YtkcpfgjkplailaaBdM
import Derived.Handy
import Derived.Test.YtkcpfgjkplailaaBdH
import Derived.Test.YtkcpfgjkplailaaRows
import Derived.WalkKit
import Derived.WalkSpells
import Derived.WalkLawsBesides
import Derived.Test.YtkcpfgjkplailaaBdE
import Derived.Test.YtkcpfgjkplailaaBdO
namespace Go.Proofs.Ytkcpfgjkplailaa
set_option linter.unusedVariables false
open Go.RowKit

def anyN (l : List Z.V) : Bool := l.any fun x => x.k == 0
theorem anyN_get {l : List Z.V} {j : Nat} {x : Z.V} (h : l[j]? = some x) (hk : (x.k == 0) = true) : anyN l = true := by
  unfold anyN
  exact List.any_eq_true.2 ⟨x, List.mem_of_getElem? h, hk⟩
theorem anyN_take {l : List Z.V} {j : Nat} {x : Z.V} (h : l[j]? = some x) (hk : (x.k == 0) = false) (ht : anyN (l.take j) = false) : anyN (l.take (j + 1)) = false := by
  rw [take_snocV h]
  simp only [anyN, List.any_append, Bool.or_eq_false_iff, List.any_cons, List.any_nil, Bool.or_false]
  exact ⟨ht, hk⟩

/-- Split turned round. -/
def joinV : List Bool → List Z.V → List Z.V
  | [], _ => []
  | true :: bs, l => Z.z0 :: joinV bs l
  | false :: bs, l => l.getD 0 Z.z0 :: joinV bs (l.drop 1)
theorem joinV_length : ∀ (bs : List Bool) (l : List Z.V), (joinV bs l).length = bs.length
  | [], _ => rfl
  | true :: bs, l => by simp [joinV, joinV_length bs l]
  | false :: bs, l => by simp only [joinV, List.length_cons, joinV_length bs (l.drop 1)]
theorem joinV_yes : ∀ (bs : List Bool) (l : List Z.V), joinV (bs ++ [true]) l = joinV bs l ++ [Z.z0]
  | [], _ => rfl
  | true :: bs, l => by simp [joinV, joinV_yes bs l]
  | false :: bs, l => by simp only [joinV, List.cons_append, joinV_yes bs (l.drop 1)]
theorem joinV_no : ∀ (bs : List Bool) (l : List Z.V), joinV (bs ++ [false]) l = joinV bs l ++ [l.getD (bs.count false) Z.z0]
  | [], _ => rfl
  | true :: bs, l => by simp [joinV, joinV_no bs l]
  | false :: bs, l => by
    have := joinV_no bs (l.drop 1)
    simp only [List.cons_append, joinV, this, List.count_cons_self]
    congr 2
    simp [List.getD]
/-- The values laid in these places. -/
def laid (l : List Z.V) (len : Nat) (pre : List { i : Nat // i < len }) : List Z.V := pre.zipIdx.foldl (fun m p => m.set p.1.1 (l.getD p.2 Z.z0)) (List.replicate len Z.z0)
theorem laid_nil (l : List Z.V) (len : Nat) : laid l len [] = List.replicate len Z.z0 := rfl
theorem laid_snoc (l : List Z.V) (len : Nat) (pre : List { i : Nat // i < len }) (x : { i : Nat // i < len }) : laid l len (pre ++ [x]) = (laid l len pre).set x.1 (l.getD pre.length Z.z0) := by
  simp [laid, List.zipIdx_append]
theorem foldl_set_length {β : Type} (f : β → Nat) (g : β → Z.V) : ∀ (ps : List β) (m : List Z.V), (ps.foldl (fun m p => m.set (f p) (g p)) m).length = m.length
  | [], _ => rfl
  | p :: ps, m => by rw [List.foldl_cons, foldl_set_length f g ps, List.length_set]
theorem laid_length (l : List Z.V) (len : Nat) (pre : List { i : Nat // i < len }) : (laid l len pre).length = len := by
  unfold laid
  exact (foldl_set_length (β := { i : Nat // i < len } × Nat) (fun p => p.1.1) (fun p => l.getD p.2 Z.z0) _ _).trans (by simp)
theorem plc_false (bs : List Bool) : ∀ k, k ≤ bs.length → (plc bs bs.length k).length = (bs.take k).count false
  | 0, _ => rfl
  | k + 1, h => by
    have ih := plc_false bs k (by omega)
    rw [take_snocB bs k h]
    cases hb : bs.getD k false with
    | true => rw [plc_yes bs bs.length k h hb]; simp [ih]
    | false => rw [plc_no bs bs.length k h hb]; simp [ih]
theorem laid_plc (bs : List Bool) (l : List Z.V) : ∀ k, k ≤ bs.length → laid l bs.length (plc bs bs.length k) = joinV (bs.take k) l ++ List.replicate (bs.length - k) Z.z0
  | 0, _ => by simp [plc, laid_nil, joinV]
  | k + 1, h => by
    have ih := laid_plc bs l k (by omega)
    have hlen : (joinV (bs.take k) l).length = k := by rw [joinV_length, List.length_take]; omega
    have hr : List.replicate (bs.length - k) Z.z0 = Z.z0 :: List.replicate (bs.length - (k + 1)) Z.z0 := by
      rw [show bs.length - k = (bs.length - (k + 1)) + 1 by omega, List.replicate_succ]
    rw [take_snocB bs k h]
    cases hb : bs.getD k false with
    | true => rw [plc_yes bs bs.length k h hb, ih, joinV_yes, hr]; simp
    | false =>
      rw [plc_no bs bs.length k h hb, laid_snoc, ih, joinV_no, hr, plc_false bs k (by omega), List.set_append_right _ _ (by rw [hlen]; exact Nat.le_refl _), hlen, Nat.sub_self, List.set_cons_zero]
      simp
theorem laid_all (bs : List Bool) (l : List Z.V) {len : Nat} (h : bs.length = len) : laid l len (plc bs len len) = joinV bs l := by
  subst h
  rw [laid_plc bs l bs.length (Nat.le_refl _), List.take_length]
  simp
theorem count_tf (bs : List Bool) : bs.count false + cntT bs = bs.length := by
  induction bs with
  | nil => rfl
  | cons b bs ih => cases b <;> simp [cntT] at ih ⊢ <;> omega
/-- May these be joined? -/
def joinOk (bs : List Bool) (l : List Z.V) : Bool := (l.length + cntT bs == bs.length) && !anyN l
def joinL (bs : List Bool) (l : List Z.V) : List Z.V := if joinOk bs l then joinV bs l else []
def joinE (bs : List Bool) (l : List Z.V) : Int := if joinOk bs l then 0 else 4
theorem cellsV_set : ∀ (m : List Z.V) (j : Nat) (y : Z.V), j < m.length → cellsV (m.set j y) = (((cellsV m).set (j * 3) (.int .i64 y.k)).set (j * 3 + 1) (.int .i64 y.i)).set (j * 3 + 2) (.string y.s)
  | [], j, y, h => by simp at h
  | x :: m, 0, y, h => by simp [cellsV_cons]
  | x :: m, j + 1, y, h => by
    have ih := cellsV_set m j y (by simpa using h)
    rw [List.set_cons_succ, cellsV_cons, cellsV_cons, ih, show (j + 1) * 3 = j * 3 + 1 + 1 + 1 by omega, show j * 3 + 1 + 1 + 1 + 1 = (j * 3 + 1) + 1 + 1 + 1 by omega, show j * 3 + 1 + 1 + 1 + 2 = (j * 3 + 2) + 1 + 1 + 1 by omega]
    simp only [List.set_cons_succ]
theorem cellsV_replicate : ∀ n : Nat, cellsV (List.replicate n Z.z0) = (madeCells #[.int .i64 0, .int .i64 0, .string ⟨#[]⟩] (n * 3)).toList := by
  intro n
  apply List.ext_getElem?
  intro j
  by_cases hj : j < n * 3
  · have h1 : (List.replicate n Z.z0)[j / 3]? = some Z.z0 := by rw [List.getElem?_replicate, if_pos (by omega)]
    obtain ⟨g0, g1, g2⟩ := cellsV_get _ _ _ h1
    have hm : (madeCells #[.int .i64 0, .int .i64 0, .string ⟨#[]⟩] (n * 3)).toList[j]? = some (#[(.int .i64 0 : Value), .int .i64 0, .string ⟨#[]⟩][j % 3]!) := by
      simp [madeCells, hj]
    rw [hm]
    have hr : j = j / 3 * 3 ∨ j = j / 3 * 3 + 1 ∨ j = j / 3 * 3 + 2 := by omega
    rcases hr with hr | hr | hr
    · have h3 : j % 3 = 0 := by omega
      rw [h3]; rw [← hr] at g0; rw [g0]; rfl
    · have h3 : j % 3 = 1 := by omega
      rw [h3]; rw [← hr] at g1; rw [g1]; rfl
    · have h3 : j % 3 = 2 := by omega
      rw [h3]; rw [← hr] at g2; rw [g2]; rfl
  · rw [List.getElem?_eq_none (by rw [cellsV_length, List.length_replicate]; omega), List.getElem?_eq_none (by simp [madeCells]; omega)]
end Go.Proofs.Ytkcpfgjkplailaa
/- Plain facts: so many bytes ahead tell a value, or its error, as all of them do. -/
namespace Go.Proofs.Ytkcpfgjkplailaa
set_option linter.unusedVariables false
open Go.RowKit

theorem E.lead_take : ∀ (f m : Nat) (l : List Nat), f ≤ m → E.lead f (l.take m) = E.lead f l
  | 0, _, _, _ => rfl
  | f + 1, m + 1, [], _ => rfl
  | f + 1, m + 1, c :: r, h => by
    simp only [List.take_succ_cons, E.lead]
    rw [E.lead_take f m r (by omega)]
  | f + 1, 0, _, h => by omega
theorem E.g_take {m : Nat} (hm : 10 ≤ m) (l : List Nat) : E.gE (l.take m) = E.gE l ∧ E.gK (l.take m) = E.gK l ∧ E.gN (l.take m) = E.gN l := by
  have h1 := E.lead_take 9 m l (by omega)
  have h2 := (E.lead_is 9 l).1
  have h3 := (E.lead_is 9 l).2.1
  have hl : (l.take m).length = min m l.length := List.length_take
  have hE : E.gE (l.take m) = E.gE l := by
    unfold E.gE
    rw [h1, E.getD_take l 9 m (by omega), E.getD_take l (E.lead 9 l) m (by omega), hl]
    by_cases h4 : E.lead 9 l = l.length
    · rw [if_pos h4, if_pos (by omega)]
    · rw [if_neg h4, if_neg (by omega)]
  refine ⟨hE, ?_, ?_⟩
  · unfold E.gK; rw [hE, h1]
  · unfold E.gN; rw [hE, h1, List.take_take, Nat.min_eq_left (by omega)]
theorem E.gK_ten (l : List Nat) : E.gK l ≤ 10 := by
  have h2 := (E.lead_is 9 l).1
  unfold E.gK
  split <;> omega
/-- How many bytes tell a value of a kind. -/
def Z.most (kind : Int) : Nat := if kind = 3 then 1034 else 10
theorem o8_take (l : List Nat) (m : Nat) (h : 8 ≤ m) : Z.o8 (l.take m) = Z.o8 l := by
  unfold Z.o8
  simp only [E.getD_take l 0 m (by omega), E.getD_take l 1 m (by omega), E.getD_take l 2 m (by omega), E.getD_take l 3 m (by omega), E.getD_take l 4 m (by omega), E.getD_take l 5 m (by omega), E.getD_take l 6 m (by omega), E.getD_take l 7 m (by omega)]
theorem drop_len {l : List Nat} {m K : Nat} (hK : K ≤ (l.take m).length) : l.drop ((l.take m).length - ((l.take m).drop K).length) = l.drop K ∧ ((l.take m).drop K).length ≤ (l.take m).length := by
  rw [List.length_drop]
  exact ⟨by congr 1; omega, by omega⟩
theorem gK_take (l : List Nat) (m : Nat) (hm : 10 ≤ m) : E.gK l ≤ (l.take m).length := by
  have h2 := (E.lead_is 9 l).2.1
  have h1 := (E.lead_is 9 l).1
  rw [List.length_take]
  unfold E.gK
  split
  · rename_i h
    have h4 : E.lead 9 l ≠ l.length := fun h4 => by unfold E.gE at h; rw [if_pos h4] at h; omega
    omega
  · omega
theorem oE_two (l : List Nat) : Z.oE l 2 = if l.length < 8 then 3 else if D.ky (D.bt ((Z.o8 l : Nat) : Int)) = ((Z.o8 l : Nat) : Int) then 0 else 4 := by unfold Z.oE; rw [if_neg (by decide), if_neg (by decide), if_pos rfl]
theorem o_ahead {kind : Int} (hk : kind = 1 ∨ kind = 2 ∨ kind = 3) (l : List Nat) :
    Z.oE (l.take (Z.most kind)) kind = Z.oE l kind ∧ Z.oV (l.take (Z.most kind)) kind = Z.oV l kind ∧
      (Z.oE l kind = 0 → l.drop ((l.take (Z.most kind)).length - (Z.oR (l.take (Z.most kind)) kind).length) = Z.oR l kind) ∧ (Z.oR (l.take (Z.most kind)) kind).length ≤ (l.take (Z.most kind)).length := by
  have key : ∀ m, Z.most kind = m → Z.oE (l.take m) kind = Z.oE l kind → (Z.oE l kind = 0 → Z.oW (l.take m) kind = Z.oW l kind ∧ ∃ K, K ≤ (l.take m).length ∧ Z.oS (l.take m) kind = (l.take m).drop K ∧ Z.oS l kind = l.drop K) →
      Z.oE (l.take m) kind = Z.oE l kind ∧ Z.oV (l.take m) kind = Z.oV l kind ∧ (Z.oE l kind = 0 → l.drop ((l.take m).length - (Z.oR (l.take m) kind).length) = Z.oR l kind) ∧ (Z.oR (l.take m) kind).length ≤ (l.take m).length := by
    intro m _ hE h
    refine ⟨hE, ?_, ?_, ?_⟩
    · unfold Z.oV
      rw [hE]
      split
      · rename_i h0; exact (h h0).1
      · rfl
    · intro h0
      obtain ⟨_, K, hK, e1, e2⟩ := h h0
      unfold Z.oR
      rw [hE, if_pos h0, if_pos h0, e1, e2]
      exact (drop_len hK).1
    · unfold Z.oR
      rw [hE]
      split
      · rename_i h0
        obtain ⟨_, K, hK, e1, e2⟩ := h h0
        rw [e1]
        exact (drop_len hK).2
      · simp
  refine key _ rfl ?_ ?_
  · rcases hk with rfl | rfl | rfl
    · show Z.oE (l.take 10) 1 = _
      unfold Z.oE
      rw [if_neg (by decide), if_pos rfl, if_neg (by decide), if_pos rfl, (E.g_take (by omega) l).1]
    · show Z.oE (l.take 10) 2 = _
      rw [oE_two, oE_two, o8_take l 10 (by omega), List.length_take]
      by_cases h8 : l.length < 8
      · rw [if_pos (by omega), if_pos h8]
      · rw [if_neg (by omega), if_neg h8]
    · show Z.oE (l.take 1034) 3 = _
      unfold Z.oE
      rw [if_neg (by decide), if_neg (by decide), if_neg (by decide), if_pos rfl, if_neg (by decide), if_neg (by decide), if_neg (by decide), if_pos rfl]
      obtain ⟨g1, g2, g3⟩ := E.g_take (m := 1034) (by omega) l
      have g4 := E.gK_ten l
      unfold E.xE
      rw [g1, g2, g3, List.length_take]
      split
      · rfl
      · split
        · rfl
        · by_cases h8 : l.length - E.gK l < E.gN l
          · rw [if_pos (by omega), if_pos h8]
          · rw [if_neg (by omega), if_neg h8]
  · intro h0
    rcases hk with rfl | rfl | rfl
    · show Z.oW (l.take 10) 1 = _ ∧ ∃ K, K ≤ (l.take 10).length ∧ Z.oS (l.take 10) 1 = (l.take 10).drop K ∧ _
      obtain ⟨g1, g2, g3⟩ := E.g_take (m := 10) (by omega) l
      refine ⟨?_, E.gK l, gK_take l 10 (by omega), ?_, ?_⟩
      · unfold Z.oW; rw [if_pos rfl, if_pos rfl, g3]
      · unfold Z.oS; rw [if_pos rfl, g2]
      · unfold Z.oS; rw [if_pos rfl]
    · show Z.oW (l.take 10) 2 = _ ∧ ∃ K, K ≤ (l.take 10).length ∧ Z.oS (l.take 10) 2 = (l.take 10).drop K ∧ _
      have h8 : 8 ≤ l.length := by
        unfold Z.oE at h0
        rw [if_neg (by decide), if_neg (by decide), if_pos rfl] at h0
        split at h0
        · exact absurd h0 (by decide)
        · omega
      refine ⟨?_, 8, by rw [List.length_take]; omega, ?_, ?_⟩
      · unfold Z.oW; rw [if_neg (by decide), if_pos rfl, if_neg (by decide), if_pos rfl, o8_take l 10 (by omega)]
      · unfold Z.oS; rw [if_neg (by decide), if_pos rfl]
      · unfold Z.oS; rw [if_neg (by decide), if_pos rfl]
    · show Z.oW (l.take 1034) 3 = _ ∧ ∃ K, K ≤ (l.take 1034).length ∧ Z.oS (l.take 1034) 3 = (l.take 1034).drop K ∧ _
      obtain ⟨g1, g2, g3⟩ := E.g_take (m := 1034) (by omega) l
      have g4 := E.gK_ten l
      have hx : E.gN l ≤ 1024 ∧ E.gN l ≤ l.length - E.gK l := by
        unfold Z.oE at h0
        rw [if_neg (by decide), if_neg (by decide), if_neg (by decide), if_pos rfl] at h0
        unfold E.xE at h0
        split at h0
        · exact absurd h0 (by assumption)
        · split at h0
          · exact absurd h0 (by decide)
          · split at h0
            · exact absurd h0 (by decide)
            · omega
      have hgk := gK_take l 1034 (by omega)
      refine ⟨?_, E.gK l + E.gN l, ?_, ?_, ?_⟩
      · unfold Z.oW
        rw [if_neg (by decide), if_neg (by decide), if_pos rfl, if_neg (by decide), if_neg (by decide), if_pos rfl]
        unfold E.xS
        rw [g2, g3, List.drop_take, List.take_take, Nat.min_eq_left (by omega)]
      · rw [List.length_take] at hgk ⊢; omega
      · unfold Z.oS; rw [if_neg (by decide), if_neg (by decide), if_pos rfl]; unfold E.xR; rw [g2, g3, List.drop_drop]
      · unfold Z.oS; rw [if_neg (by decide), if_neg (by decide), if_pos rfl]; unfold E.xR; rw [List.drop_drop]
end Go.Proofs.Ytkcpfgjkplailaa
/- slices.ContainsFunc with the two closures of Check; Check. -/
namespace Go.Proofs.Ytkcpfgjkplailaa
set_option linter.unusedVariables false
open Go.RowKit

theorem any_get {l : List Z.V} {p : Z.V → Bool} {j : Nat} {x : Z.V} (h : l[j]? = some x) (hk : p x = true) : l.any p = true := List.any_eq_true.2 ⟨x, List.mem_of_getElem? h, hk⟩
theorem any_take {l : List Z.V} {p : Z.V → Bool} {j : Nat} {x : Z.V} (h : l[j]? = some x) (hk : p x = false) (ht : (l.take j).any p = false) : (l.take (j + 1)).any p = false := by
  rw [take_snocV h, List.any_append, ht, List.any_cons, hk]; rfl
def Z.isOther (kind : Int) (x : Z.V) : Bool := x.k != kind
def Z.mayNot (x : Z.V) : Bool := !Z.may x

theorem isother_any (B : Nat) (kind : Int) (k i : Int) (s : ByteArray) (w : World) (hb : w.heap[B]? = some (.cells #[.int .i64 kind] 3 (0, 0))) :
    Calls Try.prog 41 #[.agg #[.int .i64 k, .int .i64 i, .string s], .pointer (some ⟨B, 0, none⟩)] w fun e w' => e = .returned (.bool (Z.isOther kind ⟨k, i, s⟩)) ∧ Below w.heap.size w w' := by
  have hA := At.new w k i s
  have b0 := hide (below_one w (.cells #[.int .i64 k, .int .i64 i, .string s] 42))
  have hb1 := heap_alloc_keep (.cells #[.int .i64 k, .int .i64 i, .string s] 42) hb
  obtain ⟨c1, _⟩ := cell_of_heap hb1
  obtain ⟨a1, a2, a3⟩ := hA.cells
  clear hA hb hb1
  obtain ⟨q, hq⟩ : ∃ q, (k != kind) = q := ⟨_, rfl⟩
  have HQ : Hid (Z.isOther kind ⟨k, i, s⟩ = q) := hq
  go_enter Try.func41, Try.ntmps41
  go_wp2
  go_ret
  exact ⟨by rw [HQ.out]; rfl, b0.out⟩
theorem maynot_any (k i : Int) (s : ByteArray) (w : World) (hi : Z.I64 i) :
    Calls Try.prog 42 #[.agg #[.int .i64 k, .int .i64 i, .string s]] w fun e w' => e = .returned (.bool (Z.mayNot ⟨k, i, s⟩)) ∧ Below w.heap.size w w' := by
  have hA := At.new w k i s
  have b0 := hide (below_one w (.cells #[.int .i64 k, .int .i64 i, .string s] 42))
  obtain ⟨a1, a2, a3⟩ := hA.cells
  clear hA
  obtain ⟨q, hq⟩ : ∃ q, Z.may ⟨k, i, s⟩ = q := ⟨_, rfl⟩
  have HQ := hide hq
  clear hq
  go_enter Try.func42, Try.ntmps42
  go_wp2_with fail
  refine (may_any _ _ _ _ hi).mono ?_
  rintro e w1 ⟨rfl, hb⟩
  rw [HQ.out]
  replace b0 := hide (bthen b0.out hb)
  clear hb
  go_wp2
  go_ret
  exact ⟨by simp [Z.mayNot, HQ.out], b0.out⟩

set_option maxHeartbeats 1000000 in
theorem index_other (b off len cap : Nat) (l : List Z.V) (B : Nat) (kind : Int) (w : World) (hl : l.length = len) (hcap : len ≤ 140737488355328) (hlt : b < w.heap.size) (hB : w.heap[B]? = some (.cells #[.int .i64 kind] 3 (0, 0)))
    (hc : ∀ j x, l[j]? = some x → w.cell? ⟨b, off + j * 3, none⟩ = some (.int .i64 x.k) ∧ w.cell? ⟨b, off + j * 3 + 1, none⟩ = some (.int .i64 x.i) ∧ w.cell? ⟨b, off + j * 3 + 2, none⟩ = some (.string x.s)) :
    Calls Try.prog 67 #[.slice (some ⟨b, off, none⟩) len cap, .func (.func 41) #[] #[.pointer (some ⟨B, 0, none⟩)]] w fun e w' => ∃ r : Int, e = .returned (.int .i64 r) ∧ decide (0 ≤ r) = l.any (Z.isOther kind) ∧ Below w.heap.size w w' := by
  have HC := hide hc
  have HL := hide hl
  have HP := hide hB
  clear hc hl hB
  go_enter Try.func67, Try.ntmps67
  go_wp2_with fail
  go_loopw [8] (fun i wr => ∃ j : Nat, j ≤ len ∧ i = .int .i64 j ∧ Hid ((l.take j).any (Z.isOther kind) = false) ∧ Hid (Below w.heap.size w wr)) (fun i _ => len - (intOf i).toNat)
  case atStart => exact ⟨0, Nat.zero_le _, rfl, hide rfl, hide (Below.refl _ _)⟩
  case round =>
    obtain ⟨j, hj, rfl, han, hbw⟩ := hrel
    by_cases hjl : j < len
    · obtain ⟨⟨xk, xi, xs⟩, hx⟩ : ∃ x, l[j]? = some x := ⟨l[j]'(by rw [HL.out]; exact hjl), List.getElem?_eq_getElem _⟩
      obtain ⟨c1, c2, c3⟩ := HC.out j _ hx
      have d1 : wr.cell? ⟨b, off + j * 3, none⟩ = some (.int .i64 xk) := by rw [hbw.out.cell (p := ⟨b, off + j * 3, none⟩) hlt]; exact c1
      have d2 : wr.cell? ⟨b, off + j * 3 + 1, none⟩ = some (.int .i64 xi) := by rw [hbw.out.cell (p := ⟨b, off + j * 3 + 1, none⟩) hlt]; exact c2
      have d3 : wr.cell? ⟨b, off + j * 3 + 2, none⟩ = some (.string xs) := by rw [hbw.out.cell (p := ⟨b, off + j * 3 + 2, none⟩) hlt]; exact c3
      have HX := hide hx
      clear c1 c2 c3 hx
      go_wp2_with fail
      refine (isother_any B kind _ _ _ _ (by rw [hbw.out.block B (lt_of_block HP.out)]; exact HP.out)).mono ?_
      rintro e w2 ⟨rfl, hw2⟩
      have HBN := hide (bthen hbw.out hw2)
      obtain ⟨q, hq⟩ : ∃ q, (Z.isOther kind) ⟨xk, xi, xs⟩ = q := ⟨_, rfl⟩
      have HQ := hide hq
      rw [hq]
      clear hw2 hq d1 d2 d3
      cases q with
      | true =>
        go_wp2
        go_ret
        exact ⟨_, rfl, by rw [any_get HX.out HQ.out]; simp, HBN.out⟩
      | false =>
        go_wp2
        go_roundw
        case rel => exact ⟨j + 1, hjl, by go_num, hide (any_take HX.out HQ.out han.out), HBN⟩
        case measure => simp [intOf]; omega
    · obtain rfl : j = len := by omega
      have HE : Hid (l.any (Z.isOther kind) = false) := by
        have := han.out
        rwa [← HL.out, List.take_length] at this
      go_wp2
      go_ret
      exact ⟨_, rfl, by rw [HE.out]; rfl, hbw.out⟩
theorem index_other0 (ao : Option Addr) (cap : Nat) (B : Nat) (kind : Int) (w : World) :
    Calls Try.prog 67 #[.slice ao 0 cap, .func (.func 41) #[] #[.pointer (some ⟨B, 0, none⟩)]] w fun e w' => ∃ r : Int, e = .returned (.int .i64 r) ∧ decide (0 ≤ r) = ([] : List Z.V).any (Z.isOther kind) ∧ Below w.heap.size w w' := by
  go_enter Try.func67, Try.ntmps67
  go_wp2_with fail
  go_rounds 1
  go_ret
  exact ⟨_, rfl, rfl, Below.refl _ _⟩
theorem contains_other (ao : Option Addr) (len cap : Nat) (l : List Z.V) (B : Nat) (kind : Int) (w : World) (h : SlV w ao len cap l) (hcap : len ≤ 140737488355328) (hB : w.heap[B]? = some (.cells #[.int .i64 kind] 3 (0, 0))) :
    Calls Try.prog 45 #[.slice ao len cap, .func (.func 41) #[] #[.pointer (some ⟨B, 0, none⟩)]] w fun e w' => e = .returned (.bool (l.any (Z.isOther kind))) ∧ Below w.heap.size w w' := by
  have HC : Hid (Calls Try.prog 67 #[.slice ao len cap, .func (.func 41) #[] #[.pointer (some ⟨B, 0, none⟩)]] w fun e w' => ∃ r : Int, e = .returned (.int .i64 r) ∧ decide (0 ≤ r) = l.any (Z.isOther kind) ∧ Below w.heap.size w w') := by
    show Calls _ _ _ _ _
    rcases h.2.2.2.2 with h5 | ⟨b, off, rfl, hlt, h5⟩
    · subst h5
      obtain rfl : l = [] := List.eq_nil_of_length_eq_zero h.1
      exact index_other0 ao cap B kind w
    · exact index_other b off len cap l B kind w h.1 hcap hlt hB h5
  clear h hB
  go_enter Try.func45, Try.ntmps45
  go_wp2_with fail
  refine HC.out.mono ?_
  rintro e w1 ⟨r, rfl, hr, hb1⟩
  replace hb1 := hide hb1
  obtain ⟨q, hq⟩ : ∃ q, l.any (Z.isOther kind) = q := ⟨_, rfl⟩
  rw [hq] at hr
  have HQ := hide hq
  clear hq
  cases q with
  | true =>
    have h0 : 0 ≤ r := by simpa using hr
    clear hr
    go_wp2
    go_ret
    exact ⟨by rw [HQ.out]; simp, hb1.out⟩
  | false =>
    have h0 : ¬ 0 ≤ r := by simpa using hr
    clear hr
    go_wp2
    go_ret
    exact ⟨by rw [HQ.out]; simp [h0], hb1.out⟩

set_option maxHeartbeats 1000000 in
theorem index_mayNot (b off len cap : Nat) (l : List Z.V) (w : World) (hl : l.length = len) (hcap : len ≤ 140737488355328) (hlt : b < w.heap.size) (hI : ∀ x ∈ l, Z.I64 x.i)
    (hc : ∀ j x, l[j]? = some x → w.cell? ⟨b, off + j * 3, none⟩ = some (.int .i64 x.k) ∧ w.cell? ⟨b, off + j * 3 + 1, none⟩ = some (.int .i64 x.i) ∧ w.cell? ⟨b, off + j * 3 + 2, none⟩ = some (.string x.s)) :
    Calls Try.prog 67 #[.slice (some ⟨b, off, none⟩) len cap, .func (.func 42) #[] #[]] w fun e w' => ∃ r : Int, e = .returned (.int .i64 r) ∧ decide (0 ≤ r) = l.any Z.mayNot ∧ Below w.heap.size w w' := by
  have HC := hide hc
  have HL := hide hl
  have HP := hide hI
  clear hc hl hI
  go_enter Try.func67, Try.ntmps67
  go_wp2_with fail
  go_loopw [8] (fun i wr => ∃ j : Nat, j ≤ len ∧ i = .int .i64 j ∧ Hid ((l.take j).any Z.mayNot = false) ∧ Hid (Below w.heap.size w wr)) (fun i _ => len - (intOf i).toNat)
  case atStart => exact ⟨0, Nat.zero_le _, rfl, hide rfl, hide (Below.refl _ _)⟩
  case round =>
    obtain ⟨j, hj, rfl, han, hbw⟩ := hrel
    by_cases hjl : j < len
    · obtain ⟨⟨xk, xi, xs⟩, hx⟩ : ∃ x, l[j]? = some x := ⟨l[j]'(by rw [HL.out]; exact hjl), List.getElem?_eq_getElem _⟩
      obtain ⟨c1, c2, c3⟩ := HC.out j _ hx
      have d1 : wr.cell? ⟨b, off + j * 3, none⟩ = some (.int .i64 xk) := by rw [hbw.out.cell (p := ⟨b, off + j * 3, none⟩) hlt]; exact c1
      have d2 : wr.cell? ⟨b, off + j * 3 + 1, none⟩ = some (.int .i64 xi) := by rw [hbw.out.cell (p := ⟨b, off + j * 3 + 1, none⟩) hlt]; exact c2
      have d3 : wr.cell? ⟨b, off + j * 3 + 2, none⟩ = some (.string xs) := by rw [hbw.out.cell (p := ⟨b, off + j * 3 + 2, none⟩) hlt]; exact c3
      have HX := hide hx
      clear c1 c2 c3 hx
      go_wp2_with fail
      refine (maynot_any _ _ _ _ (HP.out _ (List.mem_of_getElem? HX.out))).mono ?_
      rintro e w2 ⟨rfl, hw2⟩
      have HBN := hide (bthen hbw.out hw2)
      obtain ⟨q, hq⟩ : ∃ q, Z.mayNot ⟨xk, xi, xs⟩ = q := ⟨_, rfl⟩
      have HQ := hide hq
      rw [hq]
      clear hw2 hq d1 d2 d3
      cases q with
      | true =>
        go_wp2
        go_ret
        exact ⟨_, rfl, by rw [any_get HX.out HQ.out]; simp, HBN.out⟩
      | false =>
        go_wp2
        go_roundw
        case rel => exact ⟨j + 1, hjl, by go_num, hide (any_take HX.out HQ.out han.out), HBN⟩
        case measure => simp [intOf]; omega
    · obtain rfl : j = len := by omega
      have HE : Hid (l.any Z.mayNot = false) := by
        have := han.out
        rwa [← HL.out, List.take_length] at this
      go_wp2
      go_ret
      exact ⟨_, rfl, by rw [HE.out]; rfl, hbw.out⟩
theorem index_mayNot0 (ao : Option Addr) (cap : Nat) (w : World) :
    Calls Try.prog 67 #[.slice ao 0 cap, .func (.func 42) #[] #[]] w fun e w' => ∃ r : Int, e = .returned (.int .i64 r) ∧ decide (0 ≤ r) = ([] : List Z.V).any Z.mayNot ∧ Below w.heap.size w w' := by
  go_enter Try.func67, Try.ntmps67
  go_wp2_with fail
  go_rounds 1
  go_ret
  exact ⟨_, rfl, rfl, Below.refl _ _⟩
theorem contains_mayNot (ao : Option Addr) (len cap : Nat) (l : List Z.V) (w : World) (h : SlV w ao len cap l) (hcap : len ≤ 140737488355328) (hI : ∀ x ∈ l, Z.I64 x.i) :
    Calls Try.prog 45 #[.slice ao len cap, .func (.func 42) #[] #[]] w fun e w' => e = .returned (.bool (l.any Z.mayNot)) ∧ Below w.heap.size w w' := by
  have HC : Hid (Calls Try.prog 67 #[.slice ao len cap, .func (.func 42) #[] #[]] w fun e w' => ∃ r : Int, e = .returned (.int .i64 r) ∧ decide (0 ≤ r) = l.any Z.mayNot ∧ Below w.heap.size w w') := by
    show Calls _ _ _ _ _
    rcases h.2.2.2.2 with h5 | ⟨b, off, rfl, hlt, h5⟩
    · subst h5
      obtain rfl : l = [] := List.eq_nil_of_length_eq_zero h.1
      exact index_mayNot0 ao cap  w
    · exact index_mayNot b off len cap l  w h.1 hcap hlt hI h5
  clear h hI
  go_enter Try.func45, Try.ntmps45
  go_wp2_with fail
  refine HC.out.mono ?_
  rintro e w1 ⟨r, rfl, hr, hb1⟩
  replace hb1 := hide hb1
  obtain ⟨q, hq⟩ : ∃ q, l.any Z.mayNot = q := ⟨_, rfl⟩
  rw [hq] at hr
  have HQ := hide hq
  clear hq
  cases q with
  | true =>
    have h0 : 0 ≤ r := by simpa using hr
    clear hr
    go_wp2
    go_ret
    exact ⟨by rw [HQ.out]; simp, hb1.out⟩
  | false =>
    have h0 : ¬ 0 ≤ r := by simpa using hr
    clear hr
    go_wp2
    go_ret
    exact ⟨by rw [HQ.out]; simp [h0], hb1.out⟩
end Go.Proofs.Ytkcpfgjkplailaa
/- The contracts of the reference's Parts, IsNan, Clean, Key, Bits, Compare. -/
namespace Go.Proofs.Ytkcpfgjkplailaa
set_option linter.unusedVariables false
open Go.RowKit

theorem rparts_any (b : Int) (w : World) (h0 : 0 ≤ b) (h1 : b < 18446744073709551616) :
    Calls Try.prog 88 #[.int .u64 b] w fun e w' => e = .returned (.tuple #[.bool (decide (9223372036854775808 ≤ b)), .int .u64 (b / 4503599627370496 % 2048), .int .u64 (b % 4503599627370496)]) ∧ w' = w := by
  go_enter Try.func88, Try.ntmps88
  go_wp2
  go_ret3
  exact ⟨rfl, rfl⟩
theorem risnan_any (b : Int) (w : World) (h0 : 0 ≤ b) (h1 : b < 18446744073709551616) :
    Calls Try.prog 81 #[.int .u64 b] w fun e w' => e = .returned (.bool (D.isN b)) ∧ w' = w := by
  go_enter Try.func81, Try.ntmps81
  go_wp2_with fail
  refine (rparts_any b w h0 h1).mono ?_
  rintro e w1 ⟨rfl, rfl⟩
  obtain ⟨E, hE⟩ : ∃ E, b / 4503599627370496 % 2048 = E := ⟨_, rfl⟩
  obtain ⟨F, hF⟩ : ∃ F, b % 4503599627370496 = F := ⟨_, rfl⟩
  rw [hE, hF]
  have hI : Hid (D.isN b = ((E == 2047) && (F != 0))) := by show _ = _; unfold D.isN; rw [hE, hF]
  clear hE hF
  cases hb : (E == 2047) with
  | false =>
    go_wp2
    go_ret
    exact ⟨by rw [hI.out, hb]; rfl, rfl⟩
  | true =>
    go_wp2
    go_ret
    exact ⟨by rw [hI.out, hb]; rfl, rfl⟩
theorem rclean_any (b : Int) (w : World) (h0 : 0 ≤ b) (h1 : b < 18446744073709551616) :
    Calls Try.prog 70 #[.int .u64 b] w fun e w' => e = .returned (.int .u64 (D.cl b)) ∧ w' = w := by
  go_enter Try.func70, Try.ntmps70
  go_wp2_with fail
  refine (risnan_any b w h0 h1).mono ?_
  rintro e w1 ⟨rfl, rfl⟩
  cases hb : D.isN b with
  | false =>
    have HC : Hid (D.cl b = b) := D.cl_num hb
    go_wp2
    go_ret
    exact ⟨by rw [HC.out]; rfl, rfl⟩
  | true =>
    have HC : Hid (D.cl b = 9221120237041090560) := D.cl_nan hb
    go_wp2
    go_ret
    exact ⟨by rw [HC.out]; rfl, rfl⟩
theorem rkey_any (b : Int) (w : World) (h0 : 0 ≤ b) (h1 : b < 18446744073709551616) :
    Calls Try.prog 79 #[.int .u64 b] w fun e w' => e = .returned (.int .u64 (D.ky b)) ∧ w' = w := by
  have hc := D.cl_in (b := b) ⟨h0, h1⟩
  go_enter Try.func79, Try.ntmps79
  go_wp2_with fail
  refine (rclean_any b w h0 h1).mono ?_
  rintro e w1 ⟨rfl, rfl⟩
  obtain ⟨c, hce⟩ : ∃ c, D.cl b = c := ⟨_, rfl⟩
  rw [hce] at hc ⊢
  have HK : Hid (D.ky b = if 9223372036854775808 ≤ c then 18446744073709551615 - c else c + 9223372036854775808) := by show _ = _; unfold D.ky; rw [hce]
  obtain ⟨hc0, hc1⟩ := hc
  clear hce
  by_cases hs : 9223372036854775808 ≤ c
  · go_wp2_with fail
    refine (rparts_any c w1 hc0 hc1).mono ?_
    rintro e w2 ⟨rfl, rfl⟩
    have hd : decide (9223372036854775808 ≤ c) = true := by simp [hs]
    rw [hd]
    go_wp2
    go_ret
    exact ⟨by rw [HK.out, if_pos hs]; rfl, rfl⟩
  · go_wp2_with fail
    refine (rparts_any c w1 hc0 hc1).mono ?_
    rintro e w2 ⟨rfl, rfl⟩
    have hd : decide (9223372036854775808 ≤ c) = false := by simp; omega
    rw [hd]
    go_wp2
    go_ret
    exact ⟨by rw [HK.out, if_neg (by omega)]; rfl, rfl⟩
theorem rcompare_any (a b : Int) (w : World) (h0 : 0 ≤ a) (h1 : a < 18446744073709551616) (h2 : 0 ≤ b) (h3 : b < 18446744073709551616) :
    Calls Try.prog 64 #[.int .u64 a, .int .u64 b] w fun e w' => e = .returned (.int .i64 (D.cp a b)) ∧ w' = w := by
  have hk := fun w => rkey_any a w h0 h1
  have hl := fun w => rkey_any b w h2 h3
  have HC : Hid (D.cp a b = if D.ky a < D.ky b then -1 else if D.ky b < D.ky a then 1 else 0) := by show _ = _; rfl
  obtain ⟨x, hx⟩ : ∃ x, D.ky a = x := ⟨_, rfl⟩
  obtain ⟨y, hy⟩ : ∃ y, D.ky b = y := ⟨_, rfl⟩
  simp only [hx] at hk HC
  simp only [hy] at hl HC
  have HK : Hid (∀ w, Calls Try.prog 79 #[.int .u64 a] w fun e w' => e = .returned (.int .u64 x) ∧ w' = w) := hk
  have HL : Hid (∀ w, Calls Try.prog 79 #[.int .u64 b] w fun e w' => e = .returned (.int .u64 y) ∧ w' = w) := hl
  clear hk hl hx hy
  generalize D.cp a b = cpv at HC ⊢
  go_enter Try.func64, Try.ntmps64
  go_wp2_with fail
  refine (HK.out _).mono ?_
  rintro e w1 ⟨rfl, rfl⟩
  go_wp2_with fail
  refine (HL.out _).mono ?_
  rintro e w2 ⟨rfl, rfl⟩
  by_cases c1 : x < y
  · have HV : Hid (cpv = -1) := by show _ = _; rw [HC.out, if_pos c1]
    go_wp2
    go_ret
    exact ⟨by rw [HV.out]; rfl, rfl⟩
  · have HX : Hid (cpv = if y < x then 1 else 0) := by show _ = _; rw [HC.out, if_neg c1]
    go_wp2_with fail
    refine (HK.out _).mono ?_
    rintro e w3 ⟨rfl, rfl⟩
    go_wp2_with fail
    refine (HL.out _).mono ?_
    rintro e w4 ⟨rfl, rfl⟩
    by_cases c2 : y < x
    · have HV : Hid (cpv = 1) := by show _ = _; rw [HX.out, if_pos c2]
      go_wp2
      go_ret
      exact ⟨by rw [HV.out]; rfl, rfl⟩
    · have HV : Hid (cpv = 0) := by show _ = _; rw [HX.out, if_neg c2]
      go_wp2
      go_ret
      exact ⟨by rw [HV.out]; rfl, rfl⟩
end Go.Proofs.Ytkcpfgjkplailaa

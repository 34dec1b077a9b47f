/- Split: which values are nothing, and the others. -/
import Derived.Test.YtmhfpipeoojacaaGreatBdF
import Derived.Test.YtmhfpipeoojacaaGreatBdH
import Derived.Handy
namespace Go.Proofs.YtmhfpipeoojacaaGreat
set_option linter.unusedVariables false
open Go.RowKit
attribute [local go_sem] Oper.semAt_some

/-- Nothing. -/
def Z.z0 : Z.V := ⟨0, 0, ⟨#[]⟩⟩
/-- Which are nothing. -/
def nus (l : List Z.V) : List Bool := l.map fun x => x.k == 0
/-- The others. -/
def oth (l : List Z.V) : List Z.V := l.filter fun x => !(x.k == 0)
theorem nus_length (l : List Z.V) : (nus l).length = l.length := by simp [nus]
theorem nus_get {l : List Z.V} {j : Nat} {x : Z.V} (h : l[j]? = some x) : (nus l).getD j false = (x.k == 0) := by simp [nus, List.getD, h]
theorem take_snocV {l : List Z.V} {j : Nat} {x : Z.V} (h : l[j]? = some x) : l.take (j + 1) = l.take j ++ [x] := by
  rw [List.take_add_one, h]; rfl
/-- The values at these places. -/
def got (l : List Z.V) {len : Nat} (pre : List { i : Nat // i < len }) : List Z.V := pre.map fun x => l.getD x.1 Z.z0
theorem got_snoc (l : List Z.V) {len : Nat} (pre : List { i : Nat // i < len }) (x : { i : Nat // i < len }) : got l (pre ++ [x]) = got l pre ++ [l.getD x.1 Z.z0] := by simp [got]
theorem got_length (l : List Z.V) {len : Nat} (pre : List { i : Nat // i < len }) : (got l pre).length = pre.length := by simp [got]
/-- A box holds a row of values of one's own. -/
def HoldsV (W : World) (B n₀ : Nat) (m : List Z.V) : Prop := ∃ v, Boxed W B 22 v ∧ OwnV W n₀ v m
theorem holdsV_own {β : Type} (B n₀ : Nat) (f : β → List Z.V) : Own (fun s W => HoldsV W B n₀ (f s)) := by
  intro s W W' row h hg hr
  obtain ⟨v, h1, h2⟩ := h
  obtain ⟨v', g1, g2, _⟩ := holdsRow_own n₀ B 22 45 3 (fun s => (f s).length) (fun s => cellsV (f s)) (fun _ _ => True) s W W' row ⟨v, h1, h2, trivial⟩ hg hr
  exact ⟨v', g1, g2⟩
theorem plc_oth (l : List Z.V) : ∀ k, k ≤ l.length → got l (plc (nus l) l.length k) = oth (l.take k)
  | 0, _ => rfl
  | k + 1, h => by
    have ih := plc_oth l k (by omega)
    obtain ⟨x, hx⟩ : ∃ x, l[k]? = some x := ⟨l[k]'h, List.getElem?_eq_getElem _⟩
    have hn := nus_get hx
    rw [take_snocV hx]
    cases hb : (x.k == 0) with
    | true =>
      rw [plc_yes _ _ k h (by rw [hn, hb]), ih]
      simp [oth, hb]
    | false =>
      rw [plc_no _ _ k h (by rw [hn, hb]), got_snoc, ih]
      simp [oth, hb, List.getD, hx]
theorem cntT_oth (l : List Z.V) : (oth l).length + cntT (nus l) = l.length := by
  have h1 := plc_oth l l.length (Nat.le_refl _)
  have h2 := plc_all (nus l) (nus_length l)
  rw [List.take_length] at h1
  rw [← h1, got_length]
  exact h2
/-- What the places hold after j rounds. -/
def soFar (l : List Z.V) (len j : Nat) : List Value := Vb (nus (l.take j)) ++ List.replicate (len - j) (.bool false)
theorem soFar_zero (l : List Z.V) (len : Nat) : soFar l len 0 = List.replicate len (.bool false) := by simp [soFar, nus, Vb]
theorem soFar_all (l : List Z.V) {len : Nat} (h : l.length = len) : soFar l len len = Vb (nus l) := by subst h; simp [soFar]
theorem soFar_set (l : List Z.V) (len j : Nat) (hl : l.length = len) (h : j < len) {x : Z.V} (hx : l[j]? = some x) : (soFar l len j).set j (.bool (x.k == 0)) = soFar l len (j + 1) := by
  have h1 : (Vb (nus (l.take j))).length = j := by rw [Vb_length, nus_length, List.length_take]; omega
  unfold soFar
  rw [take_snocV hx, show len - j = (len - (j + 1)) + 1 by omega, List.replicate_succ, List.set_append_right _ _ (by omega), h1, Nat.sub_self, List.set_cons_zero]
  simp [nus, Vb]
theorem soFar_at (l : List Z.V) (len j : Nat) (hl : l.length = len) (h : j < len) : (soFar l len j)[j]? = some (.bool false) := by
  have h1 : (Vb (nus (l.take j))).length = j := by rw [Vb_length, nus_length, List.length_take]; omega
  unfold soFar
  rw [List.getElem?_append_right (by omega), h1, Nat.sub_self, show len - j = (len - (j + 1)) + 1 by omega, List.replicate_succ]
  rfl

theorem owns_below {w w' : World} {B : Nat} {e : TypeId} {size : Nat} {v : Value} {n : Nat} {xs : List Value} (h : w.ownsRow B e size v n xs) (hb : Below w.heap.size w w') : w'.ownsRow B e size v n xs := owns_of_block h fun g hg => hb.block g (owns_lt h hg).2
/-- An append to one's own row, and a store into a box, leave all that is no cells. -/
theorem others_app {W wa w2 : World} {B : Nat} {e : TypeId} {size : Nat} {v : Value} {n : Nat} {xs : List Value} (hwa : Below W.heap.size W wa) (ho : wa.ownsRow B e size v n xs) (hk : Kept (fun k => v.ownBlock = some k) wa w2) : KeepsOthers W w2 := by
  refine ⟨Nat.le_trans hwa.size hk.size, fun k o hk0 hc => ?_⟩
  have h1 : wa.heap[k]? = some o := (hwa.block k (lt_of_block hk0)).trans hk0
  rw [hk.block k (lt_of_block h1) (fun hv => ?_)]
  · exact h1
  · rcases ho.2 with ⟨h2, _⟩ | ⟨g, cap, cur, h2, _, hh, _⟩
    · rw [h2] at hv; simp [Value.ownBlock] at hv
    · rw [h2] at hv
      simp [Value.ownBlock] at hv
      subst hv
      rw [h1] at hh
      obtain rfl := Option.some.inj hh
      simp [Obj.isCells] at hc
theorem boxed_app {wa w2 : World} {B B' : Nat} {t e : TypeId} {size : Nat} {v u : Value} {n : Nat} {xs : List Value} (hb : Boxed wa B t u) (hte : t ≠ e) (ho : wa.ownsRow B' e size v n xs) (hk : Kept (fun k => v.ownBlock = some k) wa w2) : Boxed w2 B t u :=
  (hk.block B hb.lt (fun h => hb.not_row hte ho h.symm)).trans hb

/-- What Split's third region holds. -/
def spTbl (B0 B1 B j : Nat) (ao : Option Addr) (cap c n : Nat) : List (Nat × V.Ent) :=
  [(1, V.Ent.is (.pointer (some ⟨B0, 0, none⟩))), (4, V.Ent.is (.slice (some ⟨B1, 0, none⟩) j j)), (25, V.Ent.is (.slice ao j cap)), (26, V.Ent.is (.int .i64 (j : Int))), (27, V.Ent.is (.slice (some ⟨B1, 0, none⟩) j j)), (28, V.Ent.is (.int .i64 (c : Int))), (29, V.Ent.is (.int .i64 (n : Int))), (30, V.Ent.ownV B []), (7, V.Ent.box B 22 (.slice none 0 0))]

/-- What a round's region holds. -/
def rdTbl (B0 B : Nat) (g off j cap : Nat) (m : Nat) (x : Nat) (v : Value) (k i : Int) (z : ByteArray) : List (Nat × V.Ent) :=
  [(1, V.Ent.is (.pointer (some ⟨B0, 0, none⟩))), (7, V.Ent.is (.pointer (some ⟨B, 0, none⟩))), (8, V.Ent.is (.int .i64 (x : Int))), (34, V.Ent.is v), (35, V.Ent.is (.slice (some ⟨g, off, none⟩) j cap)), (36, V.Ent.is (.int .i64 (x : Int))), (37, V.Ent.is (.pointer (some ⟨g, off + x * 3, none⟩))), (38, V.Ent.is (.agg #[.int .i64 k, .int .i64 i, .string z])), (39, V.Ent.slV 1 [⟨k, i, z⟩])]

end Go.Proofs.YtmhfpipeoojacaaGreat
/- Is one of the values nothing? Joined: the values laid in their places. -/
namespace Go.Proofs.YtmhfpipeoojacaaGreat
set_option linter.unusedVariables false
open Go.RowKit

def anyN (l : List Z.V) : Bool := l.any fun x => x.k == 0
theorem anyN_get {l : List Z.V} {j : Nat} {x : Z.V} (h : l[j]? = some x) (hk : (x.k == 0) = true) : anyN l = true := by
  unfold anyN
  exact List.any_eq_true.2 ⟨x, List.mem_of_getElem? h, hk⟩
theorem anyN_take {l : List Z.V} {j : Nat} {x : Z.V} (h : l[j]? = some x) (hk : (x.k == 0) = false) (ht : anyN (l.take j) = false) : anyN (l.take (j + 1)) = false := by
  rw [take_snocV h]
  simp only [anyN, List.any_append, Bool.or_eq_false_iff, List.any_cons, List.any_nil, Bool.or_false]
  exact ⟨ht, hk⟩

/-- Split turned round. -/
def joinV : List Bool → List Z.V → List Z.V
  | [], _ => []
  | true :: bs, l => Z.z0 :: joinV bs l
  | false :: bs, l => l.getD 0 Z.z0 :: joinV bs (l.drop 1)
theorem joinV_length : ∀ (bs : List Bool) (l : List Z.V), (joinV bs l).length = bs.length
  | [], _ => rfl
  | true :: bs, l => by simp [joinV, joinV_length bs l]
  | false :: bs, l => by simp only [joinV, List.length_cons, joinV_length bs (l.drop 1)]
theorem joinV_yes : ∀ (bs : List Bool) (l : List Z.V), joinV (bs ++ [true]) l = joinV bs l ++ [Z.z0]
  | [], _ => rfl
  | true :: bs, l => by simp [joinV, joinV_yes bs l]
  | false :: bs, l => by simp only [joinV, List.cons_append, joinV_yes bs (l.drop 1)]
theorem joinV_no : ∀ (bs : List Bool) (l : List Z.V), joinV (bs ++ [false]) l = joinV bs l ++ [l.getD (bs.count false) Z.z0]
  | [], _ => rfl
  | true :: bs, l => by simp [joinV, joinV_no bs l]
  | false :: bs, l => by
    have := joinV_no bs (l.drop 1)
    simp only [List.cons_append, joinV, this, List.count_cons_self]
    congr 2
    simp [List.getD]
/-- The values laid in these places. -/
def laid (l : List Z.V) (len : Nat) (pre : List { i : Nat // i < len }) : List Z.V := pre.zipIdx.foldl (fun m p => m.set p.1.1 (l.getD p.2 Z.z0)) (List.replicate len Z.z0)
theorem laid_nil (l : List Z.V) (len : Nat) : laid l len [] = List.replicate len Z.z0 := rfl
theorem laid_snoc (l : List Z.V) (len : Nat) (pre : List { i : Nat // i < len }) (x : { i : Nat // i < len }) : laid l len (pre ++ [x]) = (laid l len pre).set x.1 (l.getD pre.length Z.z0) := by
  simp [laid, List.zipIdx_append]
theorem foldl_set_length {β : Type} (f : β → Nat) (g : β → Z.V) : ∀ (ps : List β) (m : List Z.V), (ps.foldl (fun m p => m.set (f p) (g p)) m).length = m.length
  | [], _ => rfl
  | p :: ps, m => by rw [List.foldl_cons, foldl_set_length f g ps, List.length_set]
theorem laid_length (l : List Z.V) (len : Nat) (pre : List { i : Nat // i < len }) : (laid l len pre).length = len := by
  unfold laid
  exact (foldl_set_length (β := { i : Nat // i < len } × Nat) (fun p => p.1.1) (fun p => l.getD p.2 Z.z0) _ _).trans (by simp)
theorem plc_false (bs : List Bool) : ∀ k, k ≤ bs.length → (plc bs bs.length k).length = (bs.take k).count false
  | 0, _ => rfl
  | k + 1, h => by
    have ih := plc_false bs k (by omega)
    rw [take_snocB bs k h]
    cases hb : bs.getD k false with
    | true => rw [plc_yes bs bs.length k h hb]; simp [ih]
    | false => rw [plc_no bs bs.length k h hb]; simp [ih]
theorem laid_plc (bs : List Bool) (l : List Z.V) : ∀ k, k ≤ bs.length → laid l bs.length (plc bs bs.length k) = joinV (bs.take k) l ++ List.replicate (bs.length - k) Z.z0
  | 0, _ => by simp [plc, laid_nil, joinV]
  | k + 1, h => by
    have ih := laid_plc bs l k (by omega)
    have hlen : (joinV (bs.take k) l).length = k := by rw [joinV_length, List.length_take]; omega
    have hr : List.replicate (bs.length - k) Z.z0 = Z.z0 :: List.replicate (bs.length - (k + 1)) Z.z0 := by
      rw [show bs.length - k = (bs.length - (k + 1)) + 1 by omega, List.replicate_succ]
    rw [take_snocB bs k h]
    cases hb : bs.getD k false with
    | true => rw [plc_yes bs bs.length k h hb, ih, joinV_yes, hr]; simp
    | false =>
      rw [plc_no bs bs.length k h hb, laid_snoc, ih, joinV_no, hr, plc_false bs k (by omega), List.set_append_right _ _ (by rw [hlen]; exact Nat.le_refl _), hlen, Nat.sub_self, List.set_cons_zero]
      simp
theorem laid_all (bs : List Bool) (l : List Z.V) {len : Nat} (h : bs.length = len) : laid l len (plc bs len len) = joinV bs l := by
  subst h
  rw [laid_plc bs l bs.length (Nat.le_refl _), List.take_length]
  simp
theorem count_tf (bs : List Bool) : bs.count false + cntT bs = bs.length := by
  induction bs with
  | nil => rfl
  | cons b bs ih => cases b <;> simp [cntT] at ih ⊢ <;> omega
/-- May these be joined? -/
def joinOk (bs : List Bool) (l : List Z.V) : Bool := (l.length + cntT bs == bs.length) && !anyN l
def joinL (bs : List Bool) (l : List Z.V) : List Z.V := if joinOk bs l then joinV bs l else []
def joinE (bs : List Bool) (l : List Z.V) : Int := if joinOk bs l then 0 else 4
theorem cellsV_set : ∀ (m : List Z.V) (j : Nat) (y : Z.V), j < m.length → cellsV (m.set j y) = (((cellsV m).set (j * 3) (.int .i64 y.k)).set (j * 3 + 1) (.int .i64 y.i)).set (j * 3 + 2) (.string y.s)
  | [], j, y, h => by simp at h
  | x :: m, 0, y, h => by simp [cellsV_cons]
  | x :: m, j + 1, y, h => by
    have ih := cellsV_set m j y (by simpa using h)
    rw [List.set_cons_succ, cellsV_cons, cellsV_cons, ih, show (j + 1) * 3 = j * 3 + 1 + 1 + 1 by omega, show j * 3 + 1 + 1 + 1 + 1 = (j * 3 + 1) + 1 + 1 + 1 by omega, show j * 3 + 1 + 1 + 1 + 2 = (j * 3 + 2) + 1 + 1 + 1 by omega]
    simp only [List.set_cons_succ]
theorem cellsV_replicate : ∀ n : Nat, cellsV (List.replicate n Z.z0) = (madeCells #[.int .i64 0, .int .i64 0, .string ⟨#[]⟩] (n * 3)).toList := by
  intro n
  apply List.ext_getElem?
  intro j
  by_cases hj : j < n * 3
  · have h1 : (List.replicate n Z.z0)[j / 3]? = some Z.z0 := by rw [List.getElem?_replicate, if_pos (by omega)]
    obtain ⟨g0, g1, g2⟩ := cellsV_get _ _ _ h1
    have hm : (madeCells #[.int .i64 0, .int .i64 0, .string ⟨#[]⟩] (n * 3)).toList[j]? = some (#[(.int .i64 0 : Value), .int .i64 0, .string ⟨#[]⟩][j % 3]!) := by
      simp [madeCells, hj]
    rw [hm]
    have hr : j = j / 3 * 3 ∨ j = j / 3 * 3 + 1 ∨ j = j / 3 * 3 + 2 := by omega
    rcases hr with hr | hr | hr
    · have h3 : j % 3 = 0 := by omega
      rw [h3]; rw [← hr] at g0; rw [g0]; rfl
    · have h3 : j % 3 = 1 := by omega
      rw [h3]; rw [← hr] at g1; rw [g1]; rfl
    · have h3 : j % 3 = 2 := by omega
      rw [h3]; rw [← hr] at g2; rw [g2]; rfl
  · rw [List.getElem?_eq_none (by rw [cellsV_length, List.length_replicate]; omega), List.getElem?_eq_none (by simp [madeCells]; omega)]
end Go.Proofs.YtmhfpipeoojacaaGreat

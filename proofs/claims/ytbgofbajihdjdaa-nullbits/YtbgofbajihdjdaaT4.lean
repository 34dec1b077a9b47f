/- Is one of the values nothing? Joined: the values laid in their places. -/
import Derived.Test.YtbgofbajihdjdaaT3
import Derived.Handy
namespace Go.Proofs.Ytbgofbajihdjdaa
set_option linter.unusedVariables false
open Go.RowKit

def anyN (l : List Z.V) : Bool := l.any fun x => x.k == 0
theorem anyN_get {l : List Z.V} {j : Nat} {x : Z.V} (h : l[j]? = some x) (hk : (x.k == 0) = true) : anyN l = true := by
  unfold anyN
  exact List.any_eq_true.2 ⟨x, List.mem_of_getElem? h, hk⟩
theorem anyN_take {l : List Z.V} {j : Nat} {x : Z.V} (h : l[j]? = some x) (hk : (x.k == 0) = false) (ht : anyN (l.take j) = false) : anyN (l.take (j + 1)) = false := by
  rw [take_snocV h]
  simp only [anyN, List.any_append, Bool.or_eq_false_iff, List.any_cons, List.any_nil, Bool.or_false]
  exact ⟨ht, hk⟩

set_option maxHeartbeats 1000000 in
theorem index_some (b off len cap : Nat) (l : List Z.V) (w : World) (hl : l.length = len) (hcap : len ≤ 140737488355328) (hlt : b < w.heap.size)
    (hc : ∀ j x, l[j]? = some x → w.cell? ⟨b, off + j * 3, none⟩ = some (.int .i64 x.k) ∧ w.cell? ⟨b, off + j * 3 + 1, none⟩ = some (.int .i64 x.i) ∧ w.cell? ⟨b, off + j * 3 + 2, none⟩ = some (.string x.s)) :
    Calls Try.prog 30 #[.slice (some ⟨b, off, none⟩) len cap, .func (.func 22) #[] #[]] w fun e w' => ∃ r : Int, e = .returned (.int .i64 r) ∧ decide (0 ≤ r) = anyN l ∧ Below w.heap.size w w' := by
  have HC := hide hc
  have HL := hide hl
  clear hc hl
  go_enter Try.func30, Try.ntmps30
  go_wp2_with fail
  go_loopw [8] (fun i wr => ∃ j : Nat, j ≤ len ∧ i = .int .i64 j ∧ Hid (anyN (l.take j) = false) ∧ Hid (Below w.heap.size w wr)) (fun i _ => len - (intOf i).toNat)
  case atStart => exact ⟨0, Nat.zero_le _, rfl, hide rfl, hide (Below.refl _ _)⟩
  case round =>
    obtain ⟨j, hj, rfl, han, hbw⟩ := hrel
    by_cases hjl : j < len
    · obtain ⟨⟨xk, xi, xs⟩, hx⟩ : ∃ x, l[j]? = some x := ⟨l[j]'(by rw [HL.out]; exact hjl), List.getElem?_eq_getElem _⟩
      obtain ⟨c1, c2, c3⟩ := HC.out j _ hx
      have d1 : wr.cell? ⟨b, off + j * 3, none⟩ = some (.int .i64 xk) := by rw [hbw.out.cell (p := ⟨b, off + j * 3, none⟩) hlt]; exact c1
      have d2 : wr.cell? ⟨b, off + j * 3 + 1, none⟩ = some (.int .i64 xi) := by rw [hbw.out.cell (p := ⟨b, off + j * 3 + 1, none⟩) hlt]; exact c2
      have d3 : wr.cell? ⟨b, off + j * 3 + 2, none⟩ = some (.string xs) := by rw [hbw.out.cell (p := ⟨b, off + j * 3 + 2, none⟩) hlt]; exact c3
      have HX := hide hx
      clear c1 c2 c3 hx
      go_wp2_with fail
      refine (zisnull_any _ _ _ _).mono ?_
      rintro e w2 ⟨rfl, hw2⟩
      have hbn : Below w.heap.size w w2 := by rw [hw2]; exact bthen hbw.out (below_one wr _)
      have HBN := hide hbn
      obtain ⟨q, hq⟩ : ∃ q, (xk == 0) = q := ⟨_, rfl⟩
      have HQ := hide hq
      rw [hq]
      clear hbn hw2 hq d1 d2 d3
      cases q with
      | true =>
        go_wp2
        go_ret
        exact ⟨_, rfl, by rw [anyN_get HX.out HQ.out]; simp, HBN.out⟩
      | false =>
        go_wp2
        go_roundw
        case rel => exact ⟨j + 1, hjl, by go_num, hide (anyN_take HX.out HQ.out han.out), HBN⟩
        case measure => simp [intOf]; omega
    · obtain rfl : j = len := by omega
      have HE : Hid (anyN l = false) := by
        have := han.out
        rwa [← HL.out, List.take_length] at this
      go_wp2
      go_ret
      exact ⟨_, rfl, by rw [HE.out]; rfl, hbw.out⟩
theorem index_none (ao : Option Addr) (cap : Nat) (w : World) :
    Calls Try.prog 30 #[.slice ao 0 cap, .func (.func 22) #[] #[]] w fun e w' => ∃ r : Int, e = .returned (.int .i64 r) ∧ decide (0 ≤ r) = anyN [] ∧ Below w.heap.size w w' := by
  go_enter Try.func30, Try.ntmps30
  go_wp2_with fail
  go_rounds 1
  go_ret
  exact ⟨_, rfl, rfl, Below.refl _ _⟩
theorem contains_any (ao : Option Addr) (len cap : Nat) (l : List Z.V) (w : World) (h : SlV w ao len cap l) (hcap : len ≤ 140737488355328) :
    Calls Try.prog 24 #[.slice ao len cap, .func (.func 22) #[] #[]] w fun e w' => e = .returned (.bool (anyN l)) ∧ Below w.heap.size w w' := by
  have HC : Hid (Calls Try.prog 30 #[.slice ao len cap, .func (.func 22) #[] #[]] w fun e w' => ∃ r : Int, e = .returned (.int .i64 r) ∧ decide (0 ≤ r) = anyN l ∧ Below w.heap.size w w') := by
    show Calls _ _ _ _ _
    rcases h.2.2.2.2 with h5 | ⟨b, off, rfl, hlt, h5⟩
    · subst h5
      obtain rfl : l = [] := List.eq_nil_of_length_eq_zero h.1
      exact index_none ao cap w
    · exact index_some b off len cap l w h.1 hcap hlt h5
  clear h
  go_enter Try.func24, Try.ntmps24
  go_wp2_with fail
  refine HC.out.mono ?_
  rintro e w1 ⟨r, rfl, hr, hb1⟩
  replace hb1 := hide hb1
  obtain ⟨q, hq⟩ : ∃ q, anyN l = q := ⟨_, rfl⟩
  rw [hq] at hr
  have HQ := hide hq
  clear hq
  cases q with
  | true =>
    have h0 : 0 ≤ r := by simpa using hr
    clear hr
    go_wp2
    go_ret
    exact ⟨by simp [HQ.out], hb1.out⟩
  | false =>
    have h0 : ¬ 0 ≤ r := by simpa using hr
    clear hr
    go_wp2
    go_ret
    exact ⟨by simp [HQ.out, h0], hb1.out⟩

/-- Split turned round. -/
def joinV : List Bool → List Z.V → List Z.V
  | [], _ => []
  | true :: bs, l => Z.z0 :: joinV bs l
  | false :: bs, l => l.getD 0 Z.z0 :: joinV bs (l.drop 1)
theorem joinV_length : ∀ (bs : List Bool) (l : List Z.V), (joinV bs l).length = bs.length
  | [], _ => rfl
  | true :: bs, l => by simp [joinV, joinV_length bs l]
  | false :: bs, l => by simp only [joinV, List.length_cons, joinV_length bs (l.drop 1)]
theorem joinV_yes : ∀ (bs : List Bool) (l : List Z.V), joinV (bs ++ [true]) l = joinV bs l ++ [Z.z0]
  | [], _ => rfl
  | true :: bs, l => by simp [joinV, joinV_yes bs l]
  | false :: bs, l => by simp only [joinV, List.cons_append, joinV_yes bs (l.drop 1)]
theorem joinV_no : ∀ (bs : List Bool) (l : List Z.V), joinV (bs ++ [false]) l = joinV bs l ++ [l.getD (bs.count false) Z.z0]
  | [], _ => rfl
  | true :: bs, l => by simp [joinV, joinV_no bs l]
  | false :: bs, l => by
    have := joinV_no bs (l.drop 1)
    simp only [List.cons_append, joinV, this, List.count_cons_self]
    congr 2
    simp [List.getD]
/-- The values laid in these places. -/
def laid (l : List Z.V) (len : Nat) (pre : List { i : Nat // i < len }) : List Z.V := pre.zipIdx.foldl (fun m p => m.set p.1.1 (l.getD p.2 Z.z0)) (List.replicate len Z.z0)
theorem laid_nil (l : List Z.V) (len : Nat) : laid l len [] = List.replicate len Z.z0 := rfl
theorem laid_snoc (l : List Z.V) (len : Nat) (pre : List { i : Nat // i < len }) (x : { i : Nat // i < len }) : laid l len (pre ++ [x]) = (laid l len pre).set x.1 (l.getD pre.length Z.z0) := by
  simp [laid, List.zipIdx_append]
theorem foldl_set_length {β : Type} (f : β → Nat) (g : β → Z.V) : ∀ (ps : List β) (m : List Z.V), (ps.foldl (fun m p => m.set (f p) (g p)) m).length = m.length
  | [], _ => rfl
  | p :: ps, m => by rw [List.foldl_cons, foldl_set_length f g ps, List.length_set]
theorem laid_length (l : List Z.V) (len : Nat) (pre : List { i : Nat // i < len }) : (laid l len pre).length = len := by
  unfold laid
  exact (foldl_set_length (β := { i : Nat // i < len } × Nat) (fun p => p.1.1) (fun p => l.getD p.2 Z.z0) _ _).trans (by simp)
theorem plc_false (bs : List Bool) : ∀ k, k ≤ bs.length → (plc bs bs.length k).length = (bs.take k).count false
  | 0, _ => rfl
  | k + 1, h => by
    have ih := plc_false bs k (by omega)
    rw [take_snocB bs k h]
    cases hb : bs.getD k false with
    | true => rw [plc_yes bs bs.length k h hb]; simp [ih]
    | false => rw [plc_no bs bs.length k h hb]; simp [ih]
theorem laid_plc (bs : List Bool) (l : List Z.V) : ∀ k, k ≤ bs.length → laid l bs.length (plc bs bs.length k) = joinV (bs.take k) l ++ List.replicate (bs.length - k) Z.z0
  | 0, _ => by simp [plc, laid_nil, joinV]
  | k + 1, h => by
    have ih := laid_plc bs l k (by omega)
    have hlen : (joinV (bs.take k) l).length = k := by rw [joinV_length, List.length_take]; omega
    have hr : List.replicate (bs.length - k) Z.z0 = Z.z0 :: List.replicate (bs.length - (k + 1)) Z.z0 := by
      rw [show bs.length - k = (bs.length - (k + 1)) + 1 by omega, List.replicate_succ]
    rw [take_snocB bs k h]
    cases hb : bs.getD k false with
    | true => rw [plc_yes bs bs.length k h hb, ih, joinV_yes, hr]; simp
    | false =>
      rw [plc_no bs bs.length k h hb, laid_snoc, ih, joinV_no, hr, plc_false bs k (by omega), List.set_append_right _ _ (by rw [hlen]; exact Nat.le_refl _), hlen, Nat.sub_self, List.set_cons_zero]
      simp
theorem laid_all (bs : List Bool) (l : List Z.V) {len : Nat} (h : bs.length = len) : laid l len (plc bs len len) = joinV bs l := by
  subst h
  rw [laid_plc bs l bs.length (Nat.le_refl _), List.take_length]
  simp
theorem count_tf (bs : List Bool) : bs.count false + cntT bs = bs.length := by
  induction bs with
  | nil => rfl
  | cons b bs ih => cases b <;> simp [cntT] at ih ⊢ <;> omega
/-- May these be joined? -/
def joinOk (bs : List Bool) (l : List Z.V) : Bool := (l.length + cntT bs == bs.length) && !anyN l
def joinL (bs : List Bool) (l : List Z.V) : List Z.V := if joinOk bs l then joinV bs l else []
def joinE (bs : List Bool) (l : List Z.V) : Int := if joinOk bs l then 0 else 4
theorem cellsV_set : ∀ (m : List Z.V) (j : Nat) (y : Z.V), j < m.length → cellsV (m.set j y) = (((cellsV m).set (j * 3) (.int .i64 y.k)).set (j * 3 + 1) (.int .i64 y.i)).set (j * 3 + 2) (.string y.s)
  | [], j, y, h => by simp at h
  | x :: m, 0, y, h => by simp [cellsV_cons]
  | x :: m, j + 1, y, h => by
    have ih := cellsV_set m j y (by simpa using h)
    rw [List.set_cons_succ, cellsV_cons, cellsV_cons, ih, show (j + 1) * 3 = j * 3 + 1 + 1 + 1 by omega, show j * 3 + 1 + 1 + 1 + 1 = (j * 3 + 1) + 1 + 1 + 1 by omega, show j * 3 + 1 + 1 + 1 + 2 = (j * 3 + 2) + 1 + 1 + 1 by omega]
    simp only [List.set_cons_succ]
theorem cellsV_replicate : ∀ n : Nat, cellsV (List.replicate n Z.z0) = (madeCells #[.int .i64 0, .int .i64 0, .string ⟨#[]⟩] (n * 3)).toList := by
  intro n
  apply List.ext_getElem?
  intro j
  by_cases hj : j < n * 3
  · have h1 : (List.replicate n Z.z0)[j / 3]? = some Z.z0 := by rw [List.getElem?_replicate, if_pos (by omega)]
    obtain ⟨g0, g1, g2⟩ := cellsV_get _ _ _ h1
    have hm : (madeCells #[.int .i64 0, .int .i64 0, .string ⟨#[]⟩] (n * 3)).toList[j]? = some (#[(.int .i64 0 : Value), .int .i64 0, .string ⟨#[]⟩][j % 3]!) := by
      simp [madeCells, hj]
    rw [hm]
    have hr : j = j / 3 * 3 ∨ j = j / 3 * 3 + 1 ∨ j = j / 3 * 3 + 2 := by omega
    rcases hr with hr | hr | hr
    · have h3 : j % 3 = 0 := by omega
      rw [h3]; rw [← hr] at g0; rw [g0]; rfl
    · have h3 : j % 3 = 1 := by omega
      rw [h3]; rw [← hr] at g1; rw [g1]; rfl
    · have h3 : j % 3 = 2 := by omega
      rw [h3]; rw [← hr] at g2; rw [g2]; rfl
  · rw [List.getElem?_eq_none (by rw [cellsV_length, List.length_replicate]; omega), List.getElem?_eq_none (by simp [madeCells]; omega)]
end Go.Proofs.Ytbgofbajihdjdaa

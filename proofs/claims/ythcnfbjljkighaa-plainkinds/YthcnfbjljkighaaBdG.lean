/- Is one of the values nothing? Joined: the values laid in their places. -/
import Derived.Test.YthcnfbjljkighaaBdF
import Derived.Handy
import Derived.WalkKit
namespace Go.Proofs.Ythcnfbjljkighaa
set_option linter.unusedVariables false
open Go.RowKit

def anyN (l : List Z.V) : Bool := l.any fun x => x.k == 0
theorem anyN_get {l : List Z.V} {j : Nat} {x : Z.V} (h : l[j]? = some x) (hk : (x.k == 0) = true) : anyN l = true := by
  unfold anyN
  exact List.any_eq_true.2 ⟨x, List.mem_of_getElem? h, hk⟩
theorem anyN_take {l : List Z.V} {j : Nat} {x : Z.V} (h : l[j]? = some x) (hk : (x.k == 0) = false) (ht : anyN (l.take j) = false) : anyN (l.take (j + 1)) = false := by
  rw [take_snocV h]
  simp only [anyN, List.any_append, Bool.or_eq_false_iff, List.any_cons, List.any_nil, Bool.or_false]
  exact ⟨ht, hk⟩

/-- Split turned round. -/
def joinV : List Bool → List Z.V → List Z.V
  | [], _ => []
  | true :: bs, l => Z.z0 :: joinV bs l
  | false :: bs, l => l.getD 0 Z.z0 :: joinV bs (l.drop 1)
theorem joinV_length : ∀ (bs : List Bool) (l : List Z.V), (joinV bs l).length = bs.length
  | [], _ => rfl
  | true :: bs, l => by simp [joinV, joinV_length bs l]
  | false :: bs, l => by simp only [joinV, List.length_cons, joinV_length bs (l.drop 1)]
theorem joinV_yes : ∀ (bs : List Bool) (l : List Z.V), joinV (bs ++ [true]) l = joinV bs l ++ [Z.z0]
  | [], _ => rfl
  | true :: bs, l => by simp [joinV, joinV_yes bs l]
  | false :: bs, l => by simp only [joinV, List.cons_append, joinV_yes bs (l.drop 1)]
theorem joinV_no : ∀ (bs : List Bool) (l : List Z.V), joinV (bs ++ [false]) l = joinV bs l ++ [l.getD (bs.count false) Z.z0]
  | [], _ => rfl
  | true :: bs, l => by simp [joinV, joinV_no bs l]
  | false :: bs, l => by
    have := joinV_no bs (l.drop 1)
    simp only [List.cons_append, joinV, this, List.count_cons_self]
    congr 2
    simp [List.getD]
/-- The values laid in these places. -/
def laid (l : List Z.V) (len : Nat) (pre : List { i : Nat // i < len }) : List Z.V := pre.zipIdx.foldl (fun m p => m.set p.1.1 (l.getD p.2 Z.z0)) (List.replicate len Z.z0)
theorem laid_nil (l : List Z.V) (len : Nat) : laid l len [] = List.replicate len Z.z0 := rfl
theorem laid_snoc (l : List Z.V) (len : Nat) (pre : List { i : Nat // i < len }) (x : { i : Nat // i < len }) : laid l len (pre ++ [x]) = (laid l len pre).set x.1 (l.getD pre.length Z.z0) := by
  simp [laid, List.zipIdx_append]
theorem foldl_set_length {β : Type} (f : β → Nat) (g : β → Z.V) : ∀ (ps : List β) (m : List Z.V), (ps.foldl (fun m p => m.set (f p) (g p)) m).length = m.length
  | [], _ => rfl
  | p :: ps, m => by rw [List.foldl_cons, foldl_set_length f g ps, List.length_set]
theorem laid_length (l : List Z.V) (len : Nat) (pre : List { i : Nat // i < len }) : (laid l len pre).length = len := by
  unfold laid
  exact (foldl_set_length (β := { i : Nat // i < len } × Nat) (fun p => p.1.1) (fun p => l.getD p.2 Z.z0) _ _).trans (by simp)
theorem plc_false (bs : List Bool) : ∀ k, k ≤ bs.length → (plc bs bs.length k).length = (bs.take k).count false
  | 0, _ => rfl
  | k + 1, h => by
    have ih := plc_false bs k (by omega)
    rw [take_snocB bs k h]
    cases hb : bs.getD k false with
    | true => rw [plc_yes bs bs.length k h hb]; simp [ih]
    | false => rw [plc_no bs bs.length k h hb]; simp [ih]
theorem laid_plc (bs : List Bool) (l : List Z.V) : ∀ k, k ≤ bs.length → laid l bs.length (plc bs bs.length k) = joinV (bs.take k) l ++ List.replicate (bs.length - k) Z.z0
  | 0, _ => by simp [plc, laid_nil, joinV]
  | k + 1, h => by
    have ih := laid_plc bs l k (by omega)
    have hlen : (joinV (bs.take k) l).length = k := by rw [joinV_length, List.length_take]; omega
    have hr : List.replicate (bs.length - k) Z.z0 = Z.z0 :: List.replicate (bs.length - (k + 1)) Z.z0 := by
      rw [show bs.length - k = (bs.length - (k + 1)) + 1 by omega, List.replicate_succ]
    rw [take_snocB bs k h]
    cases hb : bs.getD k false with
    | true => rw [plc_yes bs bs.length k h hb, ih, joinV_yes, hr]; simp
    | false =>
      rw [plc_no bs bs.length k h hb, laid_snoc, ih, joinV_no, hr, plc_false bs k (by omega), List.set_append_right _ _ (by rw [hlen]; exact Nat.le_refl _), hlen, Nat.sub_self, List.set_cons_zero]
      simp
theorem laid_all (bs : List Bool) (l : List Z.V) {len : Nat} (h : bs.length = len) : laid l len (plc bs len len) = joinV bs l := by
  subst h
  rw [laid_plc bs l bs.length (Nat.le_refl _), List.take_length]
  simp
theorem count_tf (bs : List Bool) : bs.count false + cntT bs = bs.length := by
  induction bs with
  | nil => rfl
  | cons b bs ih => cases b <;> simp [cntT] at ih ⊢ <;> omega
/-- May these be joined? -/
def joinOk (bs : List Bool) (l : List Z.V) : Bool := (l.length + cntT bs == bs.length) && !anyN l
def joinL (bs : List Bool) (l : List Z.V) : List Z.V := if joinOk bs l then joinV bs l else []
def joinE (bs : List Bool) (l : List Z.V) : Int := if joinOk bs l then 0 else 4
theorem cellsV_set : ∀ (m : List Z.V) (j : Nat) (y : Z.V), j < m.length → cellsV (m.set j y) = (((cellsV m).set (j * 3) (.int .i64 y.k)).set (j * 3 + 1) (.int .i64 y.i)).set (j * 3 + 2) (.string y.s)
  | [], j, y, h => by simp at h
  | x :: m, 0, y, h => by simp [cellsV_cons]
  | x :: m, j + 1, y, h => by
    have ih := cellsV_set m j y (by simpa using h)
    rw [List.set_cons_succ, cellsV_cons, cellsV_cons, ih, show (j + 1) * 3 = j * 3 + 1 + 1 + 1 by omega, show j * 3 + 1 + 1 + 1 + 1 = (j * 3 + 1) + 1 + 1 + 1 by omega, show j * 3 + 1 + 1 + 1 + 2 = (j * 3 + 2) + 1 + 1 + 1 by omega]
    simp only [List.set_cons_succ]
theorem cellsV_replicate : ∀ n : Nat, cellsV (List.replicate n Z.z0) = (madeCells #[.int .i64 0, .int .i64 0, .string ⟨#[]⟩] (n * 3)).toList := by
  intro n
  apply List.ext_getElem?
  intro j
  by_cases hj : j < n * 3
  · have h1 : (List.replicate n Z.z0)[j / 3]? = some Z.z0 := by rw [List.getElem?_replicate, if_pos (by omega)]
    obtain ⟨g0, g1, g2⟩ := cellsV_get _ _ _ h1
    have hm : (madeCells #[.int .i64 0, .int .i64 0, .string ⟨#[]⟩] (n * 3)).toList[j]? = some (#[(.int .i64 0 : Value), .int .i64 0, .string ⟨#[]⟩][j % 3]!) := by
      simp [madeCells, hj]
    rw [hm]
    have hr : j = j / 3 * 3 ∨ j = j / 3 * 3 + 1 ∨ j = j / 3 * 3 + 2 := by omega
    rcases hr with hr | hr | hr
    · have h3 : j % 3 = 0 := by omega
      rw [h3]; rw [← hr] at g0; rw [g0]; rfl
    · have h3 : j % 3 = 1 := by omega
      rw [h3]; rw [← hr] at g1; rw [g1]; rfl
    · have h3 : j % 3 = 2 := by omega
      rw [h3]; rw [← hr] at g2; rw [g2]; rfl
  · rw [List.getElem?_eq_none (by rw [cellsV_length, List.length_replicate]; omega), List.getElem?_eq_none (by simp [madeCells]; omega)]
end Go.Proofs.Ythcnfbjljkighaa
/- Plain facts on numbers' bytes, seven bits a byte, the lowest first; nothing of the program. -/
namespace Go.Proofs.Ythcnfbjljkighaa.E
set_option linter.unusedVariables false

/-- A number's bytes, so many at most; a number's bytes. -/
def lebF : Nat → Nat → List Nat
  | 0, n => [n]
  | f + 1, n => if n < 128 then [n] else (n % 128 + 128) :: lebF f (n / 128)
def leb (n : Nat) : List Nat := lebF n n
theorem lebF_any (n : Nat) : ∀ f g, n ≤ f → n ≤ g → lebF f n = lebF g n := by
  induction n using Nat.strongRecOn with
  | _ n ih =>
    intro f g hf hg
    by_cases h : n < 128
    · cases f <;> cases g <;> simp [lebF, h]
    · match f, g, hf, hg with
      | f + 1, g + 1, hf, hg =>
        simp only [lebF, if_neg h]
        rw [ih (n / 128) (by omega) f g (by omega) (by omega)]
      | 0, _, hf, _ => omega
      | _, 0, _, hg => omega
theorem leb_small (n : Nat) (h : n < 128) : leb n = [n] := by
  unfold leb; cases n <;> simp [lebF]; omega
theorem leb_big (n : Nat) (h : 128 ≤ n) : leb n = (n % 128 + 128) :: leb (n / 128) := by
  unfold leb
  rw [lebF_any n n ((n / 128) + 1 + n) (Nat.le_refl _) (by omega), show n / 128 + 1 + n = (n / 128 + n) + 1 by omega]
  simp only [lebF, if_neg (show ¬ n < 128 by omega)]
  rw [lebF_any (n / 128) (n / 128 + n) (n / 128) (by omega) (Nat.le_refl _)]

/-- The number that bytes are. -/
def val : List Nat → Nat
  | [] => 0
  | c :: r => c % 128 + 128 * val r

theorem val_append (a b : List Nat) : val (a ++ b) = val a + 128 ^ a.length * val b := by
  induction a with
  | nil => simp [val]
  | cons x r ih =>
    simp only [List.cons_append, val, ih, List.length_cons, Nat.pow_succ]
    rw [Nat.mul_add, ← Nat.mul_assoc, Nat.mul_comm 128 (128 ^ r.length)]
    omega
theorem val_lt (l : List Nat) : val l < 128 ^ l.length := by
  induction l with
  | nil => simp [val]
  | cons c r ih => simp only [val, List.length_cons, Nat.pow_succ]; omega

theorem val_leb (n : Nat) : val (leb n) = n := by
  induction n using Nat.strongRecOn with
  | _ n ih =>
    by_cases h : n < 128
    · rw [leb_small n h]; simp [val]; omega
    · rw [leb_big n (by omega)]; simp only [val, ih (n / 128) (by omega)]; omega

/-- Bytes that a number is put as: all but the last have 128 more; the last is not 0, but if it is the only one. -/
def Can (l : List Nat) (k : Nat) : Prop := l.length = k + 1 ∧ (∀ j, j < k → 128 ≤ l.getD j 0 ∧ l.getD j 0 < 256) ∧ l.getD k 0 < 128 ∧ (0 < k → l.getD k 0 ≠ 0)

theorem can_cons {c : Nat} {r : List Nat} {k : Nat} (h : Can (c :: r) (k + 1)) : 128 ≤ c ∧ c < 256 ∧ Can r k ∧ (k = 0 → r.getD 0 0 ≠ 0) := by
  obtain ⟨h1, h2, h3, h4⟩ := h
  have h0 := h2 0 (by omega)
  refine ⟨h0.1, h0.2, ⟨by simpa using h1, fun j hj => ?_, by simpa using h3, fun hk => by simpa using h4 (by omega)⟩, fun hk => ?_⟩
  · have := h2 (j + 1) (by omega)
    simpa using this
  · subst hk; simpa using h4 (by omega)

theorem val_pos {l : List Nat} {k : Nat} (h : Can l k) (hl : k = 0 → l.getD 0 0 ≠ 0) : 0 < val l := by
  induction k generalizing l with
  | zero =>
    obtain ⟨h1, h2, h3, h4⟩ := h
    match l, h1 with
    | [c], _ =>
      have := hl rfl
      simp [val] at this h3 ⊢
      omega
  | succ k ih =>
    match l, h.1 with
    | c :: r, _ =>
      obtain ⟨h1, h2, h3, h4⟩ := can_cons h
      have := ih h3 h4
      simp only [val]; omega

theorem leb_val {l : List Nat} {k : Nat} (h : Can l k) : leb (val l) = l := by
  induction k generalizing l with
  | zero =>
    obtain ⟨h1, h2, h3, h4⟩ := h
    match l, h1 with
    | [c], _ =>
      simp [val] at h3 ⊢
      rw [leb_small _ (by omega)]
      simp; omega
  | succ k ih =>
    match l, h.1 with
    | c :: r, _ =>
      obtain ⟨h1, h2, h3, h4⟩ := can_cons h
      have hp := val_pos h3 h4
      simp only [val]
      rw [leb_big _ (by omega), show (c % 128 + 128 * val r) / 128 = val r by omega, ih h3]
      congr 1; omega

theorem leb_can (n : Nat) : ∃ k, Can (leb n) k := by
  induction n using Nat.strongRecOn with
  | _ n ih =>
    by_cases h : n < 128
    · exact ⟨0, by rw [leb_small n h]; exact ⟨rfl, fun j hj => by omega, by simpa using h, by omega⟩⟩
    · obtain ⟨k, hk⟩ := ih (n / 128) (by omega)
      refine ⟨k + 1, ?_⟩
      have hv := val_leb (n / 128)
      rw [leb_big n (by omega)]
      obtain ⟨h1, h2, h3, h4⟩ := hk
      refine ⟨by simp [h1], fun j hj => ?_, by simpa using h3, fun _ => ?_⟩
      · match j with
        | 0 => simp; omega
        | j + 1 => simpa using h2 j (by omega)
      · simp only [List.getD_cons_succ]
        rcases Nat.eq_zero_or_pos k with h0 | h0
        · subst h0
          intro he
          match hl : leb (n / 128), h1 with
          | [c], _ => rw [hl] at he hv; simp [val] at he hv; omega
        · exact h4 h0

theorem leb_length_le (n k : Nat) (hk : 0 < k) (h : n < 128 ^ k) : (leb n).length ≤ k := by
  induction k generalizing n with
  | zero => omega
  | succ k ih =>
    by_cases hn : n < 128
    · rw [leb_small n hn]; simp
    · rw [leb_big n (by omega)]
      rcases Nat.eq_zero_or_pos k with h0 | h0
      · subst h0; simp at h; omega
      · have := ih (n / 128) h0 (by rw [Nat.pow_succ] at h; omega)
        simp; omega
theorem leb_pos (n : Nat) : 0 < (leb n).length := by obtain ⟨k, hk⟩ := leb_can n; rw [hk.1]; omega
theorem leb_ten (n : Nat) (h : n < 18446744073709551616) : (leb n).length ≤ 10 := leb_length_le n 10 (by omega) (by omega)
theorem leb_lt (n : Nat) : ∀ x ∈ leb n, x < 256 := by
  induction n using Nat.strongRecOn with
  | _ n ih =>
    by_cases h : n < 128
    · rw [leb_small n h]; intro x hx; simp at hx; omega
    · rw [leb_big n (by omega)]
      intro x hx
      rcases List.mem_cons.1 hx with rfl | hx
      · omega
      · exact ih (n / 128) (by omega) x hx
theorem leb_mono (a b : Nat) (h : a ≤ b) : (leb a).length ≤ (leb b).length := by
  induction b using Nat.strongRecOn generalizing a with
  | _ b ih =>
    by_cases ha : a < 128
    · rw [leb_small a ha]; exact leb_pos b
    · rw [leb_big a (by omega), leb_big b (by omega)]
      have := ih (b / 128) (by omega) (a / 128) (by omega)
      simp; omega

/-- How many bytes, of the first f, have 128 more. -/
def lead : Nat → List Nat → Nat
  | 0, _ => 0
  | _ + 1, [] => 0
  | f + 1, c :: r => if 128 ≤ c then lead f r + 1 else 0

def IsLead (f : Nat) (l : List Nat) (k : Nat) : Prop := k ≤ f ∧ k ≤ l.length ∧ (∀ j, j < k → 128 ≤ l.getD j 0) ∧ (k = f ∨ k = l.length ∨ l.getD k 0 < 128)
theorem lead_is (f : Nat) (l : List Nat) : IsLead f l (lead f l) := by
  induction f generalizing l with
  | zero => exact ⟨Nat.le_refl _, Nat.zero_le _, fun j hj => absurd hj (by simp [lead]), .inl rfl⟩
  | succ f ih =>
    cases l with
    | nil => exact ⟨by simp [lead], by simp [lead], fun j hj => absurd hj (by simp [lead]), .inr (.inl rfl)⟩
    | cons c r =>
      by_cases hc : 128 ≤ c
      · obtain ⟨h1, h2, h3, h4⟩ := ih r
        simp only [lead, if_pos hc]
        refine ⟨by omega, by simpa using h2, fun j hj => ?_, ?_⟩
        · match j with
          | 0 => simpa using hc
          | j + 1 => simpa using h3 j (by omega)
        · rcases h4 with h | h | h
          · exact .inl (by omega)
          · exact .inr (.inl (by simpa using h))
          · exact .inr (.inr (by simpa using h))
      · simp only [lead, if_neg hc]
        exact ⟨by omega, by omega, fun j hj => by omega, .inr (.inr (by simp; omega))⟩
theorem lead_uniq {f : Nat} {l : List Nat} {a b : Nat} (ha : IsLead f l a) (hb : IsLead f l b) : a = b := by
  obtain ⟨a1, a2, a3, a4⟩ := ha
  obtain ⟨b1, b2, b3, b4⟩ := hb
  rcases Nat.lt_trichotomy a b with h | h | h
  · have := b3 a h
    omega
  · exact h
  · have := a3 b h
    omega
theorem lead_eq {f : Nat} {l : List Nat} {k : Nat} (h : IsLead f l k) : lead f l = k := lead_uniq (lead_is f l) h

/-- Get: the error; how many bytes; the number. -/
def gE (l : List Nat) : Nat := if lead 9 l = l.length then 3 else if (lead 9 l = 9 ∧ 1 < l.getD 9 0) ∨ (0 < lead 9 l ∧ l.getD (lead 9 l) 0 = 0) then 4 else 0
def gK (l : List Nat) : Nat := if gE l = 0 then lead 9 l + 1 else 0
def gN (l : List Nat) : Nat := if gE l = 0 then val (l.take (lead 9 l + 1)) else 0

theorem gE_short {l : List Nat} {k : Nat} (h : IsLead 9 l k) (hk : k = l.length) : gE l = 3 := by
  unfold gE; rw [lead_eq h, if_pos hk]
theorem gE_form {l : List Nat} {k : Nat} (h : IsLead 9 l k) (hk : k < l.length) (hf : (k = 9 ∧ 1 < l.getD k 0) ∨ (0 < k ∧ l.getD k 0 = 0)) : gE l = 4 := by
  unfold gE; rw [lead_eq h, if_neg (by omega), if_pos]
  rcases hf with ⟨rfl, hf⟩ | hf
  · exact .inl ⟨rfl, hf⟩
  · exact .inr hf
theorem gE_ok {l : List Nat} {k : Nat} (h : IsLead 9 l k) (hk : k < l.length) (h9 : k = 9 → l.getD k 0 ≤ 1) (h0 : 0 < k → l.getD k 0 ≠ 0) : gE l = 0 ∧ gK l = k + 1 ∧ gN l = val (l.take (k + 1)) := by
  have e : gE l = 0 := by
    unfold gE; rw [lead_eq h, if_neg (by omega), if_neg]
    rintro (⟨rfl, hf⟩ | ⟨a, b⟩)
    · have := h9 rfl; omega
    · exact h0 a b
  refine ⟨e, ?_, ?_⟩
  · unfold gK; rw [if_pos e, lead_eq h]
  · unfold gN; rw [if_pos e, lead_eq h]

theorem getD_lt {l : List Nat} (h : ∀ x ∈ l, x < 256) (j : Nat) : l.getD j 0 < 256 := by
  by_cases hj : j < l.length
  · have : l.getD j 0 = l[j] := by simp [List.getD, hj]
    rw [this]; exact h _ (List.getElem_mem hj)
  · simp [List.getD, hj]
theorem getD_take (l : List Nat) (j k : Nat) (h : j < k) : (l.take k).getD j 0 = l.getD j 0 := by
  simp [List.getD, h]

/-- Where Get has no error. -/
theorem gE_zero {l : List Nat} (h : gE l = 0) (h256 : ∀ x ∈ l, x < 256) : gK l ≤ l.length ∧ 0 < gK l ∧ Can (l.take (gK l)) (gK l - 1) ∧ gN l = val (l.take (gK l)) ∧ (gK l = 10 → l.getD 9 0 ≤ 1) ∧ gK l ≤ 10 := by
  have hl := lead_is 9 l
  obtain ⟨h1, h2, h3, h4⟩ := hl
  have hk : gK l = lead 9 l + 1 := by unfold gK; rw [if_pos h]
  have hn : gN l = val (l.take (lead 9 l + 1)) := by unfold gN; rw [if_pos h]
  rw [hk, hn]
  unfold gE at h
  by_cases hs : lead 9 l = l.length
  · rw [if_pos hs] at h; omega
  · rw [if_neg hs] at h
    by_cases hf : (lead 9 l = 9 ∧ 1 < l.getD 9 0) ∨ (0 < lead 9 l ∧ l.getD (lead 9 l) 0 = 0)
    · rw [if_pos hf] at h; omega
    · generalize lead 9 l = k at *
      have h9 : k = 9 → l.getD 9 0 ≤ 1 := fun e => by
        rcases Nat.lt_or_ge 1 (l.getD 9 0) with h | h
        · exact absurd (.inl ⟨e, h⟩) hf
        · exact h
      refine ⟨by omega, by omega, ⟨by simp; omega, fun j hj => ?_, ?_, fun hk0 => ?_⟩, rfl, fun e => h9 (by omega), by omega⟩
      · rw [getD_take _ _ _ (by omega)]
        exact ⟨h3 j (by omega), getD_lt h256 j⟩
      · rw [Nat.add_sub_cancel, getD_take _ _ _ (by omega)]
        rcases h4 with h4 | h4 | h4
        · subst h4; have := h9 rfl; omega
        · omega
        · exact h4
      · rw [Nat.add_sub_cancel, getD_take _ _ _ (by omega)]
        intro he
        exact hf (.inr ⟨by omega, he⟩)

theorem val_ten (l : List Nat) (h : l.length ≤ 10) (h9 : l.getD 9 0 ≤ 1) : val l < 18446744073709551616 := by
  rcases Nat.lt_or_ge l.length 10 with hl | hl
  · have h1 := val_lt l
    have h2 : 128 ^ l.length ≤ 128 ^ 9 := Nat.pow_le_pow_right (by omega) (by omega)
    omega
  · have e : l = l.take 9 ++ [l.getD 9 0] := by
      have h1 : l.take (9 + 1) = l.take 9 ++ [l[9]] := List.take_succ_eq_append_getElem (by omega)
      have h2 : l.getD 9 0 = l[9] := by simp [List.getD, show 9 < l.length by omega]
      rw [h2, ← h1, List.take_of_length_le (by omega)]
    rw [e, val_append]
    have h1 := val_lt (l.take 9)
    have h2 : (l.take 9).length = 9 := by simp; omega
    rw [h2] at h1 ⊢
    simp only [val]
    omega

/-- Bytes that are got are put as the very bytes. -/
theorem g_ones {l : List Nat} (h : gE l = 0) (h256 : ∀ x ∈ l, x < 256) : leb (gN l) = l.take (gK l) := by
  obtain ⟨_, _, h3, h4, _⟩ := gE_zero h h256
  rw [h4]; exact leb_val h3
theorem gN_lt {l : List Nat} (h256 : ∀ x ∈ l, x < 256) : gN l < 18446744073709551616 := by
  by_cases h : gE l = 0
  · obtain ⟨h1, h2, h3, h4, h5, h6⟩ := gE_zero h h256
    rw [h4]
    refine val_ten _ (by simp; omega) ?_
    rcases Nat.lt_or_ge (gK l) 10 with hk | hk
    · simp [List.getD, List.getElem?_take, show ¬ 9 < gK l by omega]
    · rw [getD_take _ _ _ (by omega)]; exact h5 (by omega)
  · unfold gN; rw [if_neg h]; omega

theorem lead_leb (n : Nat) (hn : n < 18446744073709551616) (more : List Nat) : ∃ k, (leb n).length = k + 1 ∧ IsLead 9 (leb n ++ more) k ∧ (k = 9 → (leb n ++ more).getD k 0 ≤ 1) ∧ (0 < k → (leb n ++ more).getD k 0 ≠ 0) ∧ ∀ j, j < k → 128 ≤ (leb n).getD j 0 := by
  obtain ⟨k, h1, h2, h3, h4⟩ := leb_can n
  have h10 := leb_ten n hn
  have hg : ∀ j, j ≤ k → (leb n ++ more).getD j 0 = (leb n).getD j 0 := fun j hj => by simp [List.getD, List.getElem?_append_left (show j < (leb n).length by omega)]
  refine ⟨k, h1, ⟨by omega, by simp; omega, fun j hj => by rw [hg j (by omega)]; exact (h2 j hj).1, .inr (.inr (by rw [hg k (by omega)]; exact h3))⟩, fun e => ?_, fun hk => by rw [hg k (by omega)]; exact h4 hk, fun j hj => (h2 j hj).1⟩
  rw [hg k (by omega)]
  subst e
  have e : leb n = (leb n).take 9 ++ [(leb n).getD 9 0] := by
    have h1 : (leb n).take (9 + 1) = (leb n).take 9 ++ [(leb n)[9]] := List.take_succ_eq_append_getElem (by omega)
    have h2 : (leb n).getD 9 0 = (leb n)[9] := by simp [List.getD, show 9 < (leb n).length by omega]
    rw [h2, ← h1, List.take_of_length_le (by omega)]
  have hv := val_leb n
  rw [e, val_append] at hv
  have h2 : ((leb n).take 9).length = 9 := by simp; omega
  rw [h2] at hv
  simp only [val] at hv
  have : (leb n).getD 9 0 % 128 = (leb n).getD 9 0 := by omega
  omega

/-- What was put is got. -/
theorem g_put (n : Nat) (hn : n < 18446744073709551616) (more : List Nat) : gE (leb n ++ more) = 0 ∧ gK (leb n ++ more) = (leb n).length ∧ gN (leb n ++ more) = n := by
  obtain ⟨k, h1, h2, h3, h4, _⟩ := lead_leb n hn more
  obtain ⟨e1, e2, e3⟩ := gE_ok h2 (by simp; omega) h3 h4
  refine ⟨e1, by omega, ?_⟩
  rw [e3, ← h1, List.take_left, val_leb]
/-- No beginning of it is got. -/
theorem g_cut (n : Nat) (hn : n < 18446744073709551616) (k : Nat) (hk : k < (leb n).length) : gE ((leb n).take k) = 3 := by
  obtain ⟨j, h1, _, _, _, h5⟩ := lead_leb n hn []
  have h10 := leb_ten n hn
  refine gE_short (k := k) ⟨by omega, by simp; omega, fun i hi => ?_, .inr (.inl (by simp; omega))⟩ (by simp; omega)
  rw [getD_take _ _ _ hi]; exact h5 i (by omega)
theorem g_zero {l : List Nat} (h : gE l ≠ 0) : gK l = 0 ∧ gN l = 0 := by
  unfold gK gN; rw [if_neg h, if_neg h]; exact ⟨rfl, rfl⟩
theorem gE_le (l : List Nat) : gE l = 0 ∨ gE l = 3 ∨ gE l = 4 := by
  unfold gE; split
  · exact .inr (.inl rfl)
  · split
    · exact .inr (.inr rfl)
    · exact .inl rfl

/-- Numbers of either sign as numbers. -/
def zig (n : Int) : Nat := if n < 0 then (-2 * n - 1).toNat else (2 * n).toNat
def zag (n : Nat) : Int := if n % 2 = 1 then -((n / 2 : Nat) : Int) - 1 else ((n / 2 : Nat) : Int)
theorem zag_zig (n : Int) : zag (zig n) = n := by
  unfold zig zag; split <;> split <;> omega
theorem zig_zag (n : Nat) : zig (zag n) = n := by
  unfold zig zag; split <;> split <;> omega
theorem zig_lt (n : Int) (h0 : -9223372036854775808 ≤ n) (h1 : n < 9223372036854775808) : zig n < 18446744073709551616 := by
  unfold zig; split <;> omega
theorem zag_lt (n : Nat) (h : n < 18446744073709551616) : -9223372036854775808 ≤ zag n ∧ zag n < 9223372036854775808 := by
  unfold zag; split <;> omega
theorem zig_half (n : Int) : zig (n.tdiv 2) ≤ zig n := by
  unfold zig
  rcases Int.le_total 0 n with h | h
  · rw [Int.tdiv_eq_ediv_of_nonneg h]
    split <;> split <;> omega
  · obtain ⟨m, rfl⟩ : ∃ m : Int, n = -m := ⟨-n, by omega⟩
    rw [Int.neg_tdiv, Int.tdiv_eq_ediv_of_nonneg (by omega)]
    split <;> split <;> omega

def lebs (l : List Int) : List Nat := l.flatMap fun x => leb (zig x)
theorem lebs_snoc (l : List Int) (x : Int) : lebs (l ++ [x]) = lebs l ++ leb (zig x) := by simp [lebs]
theorem lebs_cons (l : List Int) (x : Int) : lebs (x :: l) = leb (zig x) ++ lebs l := by simp [lebs]
def In (l : List Int) : Prop := ∀ x ∈ l, -9223372036854775808 ≤ x ∧ x < 9223372036854775808
theorem lebs_le (l : List Int) (h : In l) : (lebs l).length ≤ 10 * l.length := by
  induction l with
  | nil => simp [lebs]
  | cons x r ih =>
    have h1 := ih fun y hy => h y (by simp [hy])
    have h2 := h x (by simp)
    have h3 := leb_ten (zig x) (zig_lt x h2.1 h2.2)
    rw [lebs_cons]; simp; omega
theorem lebs_lt (l : List Int) : ∀ x ∈ lebs l, x < 256 := by
  intro x hx
  obtain ⟨y, _, hy⟩ := List.mem_flatMap.1 hx
  exact leb_lt _ x hy

/-- ToInts: the error, the numbers, what is left. -/
def tE : Nat → List Nat → Nat
  | 0, _ => 0
  | n + 1, b => if gE b = 0 then tE n (b.drop (gK b)) else gE b
def tL : Nat → List Nat → List Int
  | 0, _ => []
  | n + 1, b => zag (gN b) :: tL n (b.drop (gK b))
def tR : Nat → List Nat → List Nat
  | 0, b => b
  | n + 1, b => tR n (b.drop (gK b))
theorem tR_succ (n : Nat) (b : List Nat) : tR (n + 1) b = (tR n b).drop (gK (tR n b)) := by
  induction n generalizing b with
  | zero => rfl
  | succ n ih => rw [tR, ih, ← tR]
theorem tL_succ (n : Nat) (b : List Nat) : tL (n + 1) b = tL n b ++ [zag (gN (tR n b))] := by
  induction n generalizing b with
  | zero => rfl
  | succ n ih => rw [tL, ih, tL, tR, List.cons_append]
theorem tL_length (n : Nat) (b : List Nat) : (tL n b).length = n := by
  induction n generalizing b with
  | zero => rfl
  | succ n ih => simp [tL, ih]
theorem tE_succ (n : Nat) (b : List Nat) (h : tE n b = 0) : tE (n + 1) b = gE (tR n b) := by
  induction n generalizing b with
  | zero => simp only [tE, tR]; split <;> simp_all
  | succ n ih =>
    rw [tE] at h ⊢
    by_cases hg : gE b = 0
    · rw [if_pos hg] at h ⊢; rw [ih _ h, tR]
    · rw [if_neg hg] at h; exact absurd h hg
theorem tE_more (n m : Nat) (b : List Nat) (h : tE n b ≠ 0) : tE (n + m) b = tE n b := by
  induction n generalizing b with
  | zero => exact absurd rfl h
  | succ n ih =>
    rw [show n + 1 + m = (n + m) + 1 by omega]
    rw [tE] at h ⊢
    rw [tE]
    by_cases hg : gE b = 0
    · rw [if_pos hg] at h ⊢; rw [if_pos hg, ih _ h]
    · rw [if_neg hg, if_neg hg]
theorem tE_stop {j n : Nat} {b : List Nat} (h : tE j b = 0) (hj : j < n) (hg : gE (tR j b) ≠ 0) : tE n b = gE (tR j b) := by
  obtain ⟨m, rfl⟩ := Nat.le.dest (show j + 1 ≤ n from hj)
  have h1 := tE_succ j b h
  rw [tE_more (j + 1) m b (by rw [h1]; exact hg), h1]
theorem mem_drop {l : List Nat} {k : Nat} (h : ∀ x ∈ l, x < 256) : ∀ x ∈ l.drop k, x < 256 := fun x hx => h x (List.mem_of_mem_drop hx)
theorem tR_length (n : Nat) (b : List Nat) (h256 : ∀ x ∈ b, x < 256) (h : tE n b = 0) : (tR n b).length + n ≤ b.length := by
  induction n generalizing b with
  | zero => simp [tR]
  | succ n ih =>
    rw [tE] at h
    by_cases hg : gE b = 0
    · rw [if_pos hg] at h
      have h1 := ih (b.drop (gK b)) (mem_drop h256) h
      obtain ⟨h2, h3, _⟩ := gE_zero hg h256
      rw [tR]; simp at h1; omega
    · rw [if_neg hg] at h; exact absurd h hg
theorem tR_lt (n : Nat) (b : List Nat) (h256 : ∀ x ∈ b, x < 256) : ∀ x ∈ tR n b, x < 256 := by
  induction n generalizing b with
  | zero => exact h256
  | succ n ih => rw [tR]; exact ih _ (mem_drop h256)
theorem tE_le (n : Nat) (b : List Nat) : tE n b = 0 ∨ tE n b = 3 ∨ tE n b = 4 := by
  induction n generalizing b with
  | zero => exact .inl rfl
  | succ n ih =>
    rw [tE]; split
    · exact ih _
    · exact gE_le b
/-- Numbers that were put are got. -/
theorem t_put (l : List Int) (h : In l) (more : List Nat) : tE l.length (lebs l ++ more) = 0 ∧ tL l.length (lebs l ++ more) = l ∧ tR l.length (lebs l ++ more) = more := by
  induction l with
  | nil => exact ⟨rfl, rfl, rfl⟩
  | cons x r ih =>
    obtain ⟨i1, i2, i3⟩ := ih fun y hy => h y (by simp [hy])
    have hx := h x (by simp)
    obtain ⟨g1, g2, g3⟩ := g_put (zig x) (zig_lt x hx.1 hx.2) (lebs r ++ more)
    rw [lebs_cons, List.append_assoc, List.length_cons]
    rw [tE, tL, tR, if_pos g1, g2, g3, List.drop_left, i1, i2, i3, zag_zig]
    exact ⟨rfl, rfl, rfl⟩
theorem t_more (l : List Int) (h : In l) : tE (l.length + 1) (lebs l) = 3 := by
  obtain ⟨h1, h2, h3⟩ := t_put l h []
  rw [List.append_nil] at h1 h3
  rw [tE_succ _ _ h1, h3]; rfl

def iE (n : Int) (l : List Nat) : Nat := if n < 0 then 1 else tE n.toNat l
theorem iE_neg {n : Int} {l : List Nat} (h : n < 0) : iE n l = 1 := by unfold iE; rw [if_pos h]
theorem iE_pos {n : Int} {l : List Nat} (h : 0 ≤ n) : iE n l = tE n.toNat l := by unfold iE; rw [if_neg (by omega)]
/-- What ToInts, ToText tell beside an error: nothing. -/
def iL (n : Int) (l : List Nat) : List Int := if iE n l = 0 then tL n.toNat l else []
def iR (n : Int) (l : List Nat) : List Nat := if iE n l = 0 then tR n.toNat l else []

/-- ToText: the error, the text's bytes, what is left. -/
def xE (most : Int) (l : List Nat) : Nat := if gE l ≠ 0 then gE l else if most < 0 ∨ most < ((gN l : Nat) : Int) then 2 else if l.length - gK l < gN l then 3 else 0
def xS (l : List Nat) : List Nat := (l.drop (gK l)).take (gN l)
def xR (l : List Nat) : List Nat := (l.drop (gK l)).drop (gN l)
theorem xE_bad {most : Int} {l : List Nat} (h : gE l ≠ 0) : xE most l = gE l := by unfold xE; rw [if_pos h]
theorem xE_range {most : Int} {l : List Nat} (h : gE l = 0) (h1 : most < 0 ∨ most < ((gN l : Nat) : Int)) : xE most l = 2 := by unfold xE; rw [if_neg (by simpa using h), if_pos h1]
theorem xE_short {most : Int} {l : List Nat} (h : gE l = 0) (h1 : 0 ≤ most) (h2 : ((gN l : Nat) : Int) ≤ most) (h3 : l.length - gK l < gN l) : xE most l = 3 := by unfold xE; rw [if_neg (by simpa using h), if_neg (by omega), if_pos h3]
theorem xE_ok {most : Int} {l : List Nat} (h : gE l = 0) (h1 : 0 ≤ most) (h2 : ((gN l : Nat) : Int) ≤ most) (h3 : gN l ≤ l.length - gK l) : xE most l = 0 := by unfold xE; rw [if_neg (by simpa using h), if_neg (by omega), if_neg (by omega)]
theorem xE_cases (most : Int) (l : List Nat) : xE most l = 0 ∨ xE most l = 2 ∨ xE most l = 3 ∨ xE most l = 4 := by
  unfold xE; split
  · have := gE_le l; omega
  · split
    · omega
    · split <;> omega
def yS (most : Int) (l : List Nat) : List Nat := if xE most l = 0 then xS l else []
def yR (most : Int) (l : List Nat) : List Nat := if xE most l = 0 then xR l else []
end Go.Proofs.Ythcnfbjljkighaa.E

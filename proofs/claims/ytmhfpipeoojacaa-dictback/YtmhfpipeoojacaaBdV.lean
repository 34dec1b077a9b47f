/- Plain facts on codes: places among words; a column laid down as words and codes, and read. Nothing of the program. -/
import Derived.Test.YtmhfpipeoojacaaBdO
import Derived.Test.YtmhfpipeoojacaaBdB
import Derived.Test.YtmhfpipeoojacaaBdA
import Derived.Test.YtmhfpipeoojacaaBdU
namespace Go.Proofs.Ytmhfpipeoojacaa
set_option linter.unusedVariables false
open Go.RowKit

/-- A value's place among words; whether all have one; the places. -/
def Z.pl (ws : List Z.V) (v : Z.V) : Option Nat := ws.findIdx? fun x => decide (Z.cv x v = 0)
def Z.cdN (ws : List Z.V) (v : Z.V) : Nat := (Z.pl ws v).getD 0
def Z.cdE (ws l : List Z.V) : Int := if (l.all fun v => Z.has ws v) = true then 0 else 6
def Z.cdL (ws l : List Z.V) : List Nat := if Z.cdE ws l = 0 then l.map (Z.cdN ws) else []
theorem pl_some {ws : List Z.V} {v : Z.V} {j : Nat} (h : Z.pl ws v = some j) : ∃ y, ws[j]? = some y ∧ Z.cv y v = 0 := by
  unfold Z.pl at h
  obtain ⟨h1, h2, _⟩ := List.findIdx?_eq_some_iff_getElem.1 h
  exact ⟨ws[j], List.getElem?_eq_getElem h1, by simpa using h2⟩
theorem pl_none {ws : List Z.V} {v : Z.V} : Z.pl ws v = none ↔ Z.has ws v = false := by
  unfold Z.pl Z.has
  rw [List.findIdx?_eq_none_iff, List.any_eq_false]
  simp
theorem pl_has {ws : List Z.V} {v : Z.V} (h : Z.has ws v = true) : ∃ j, Z.pl ws v = some j := by
  cases hp : Z.pl ws v with
  | none => rw [pl_none] at hp; rw [hp] at h; exact absurd h (by decide)
  | some j => exact ⟨j, rfl⟩
theorem cdN_has {ws : List Z.V} {v : Z.V} (h : Z.has ws v = true) : ∃ y, ws[Z.cdN ws v]? = some y ∧ Z.cv y v = 0 := by
  obtain ⟨j, hj⟩ := pl_has h
  unfold Z.cdN
  rw [hj]
  exact pl_some hj
theorem cdE_ok {ws l : List Z.V} (h : ∀ v ∈ l, Z.has ws v = true) : Z.cdE ws l = 0 := by
  unfold Z.cdE
  rw [if_pos (List.all_eq_true.2 h)]
theorem cdE_bad {ws l : List Z.V} {v : Z.V} (hv : v ∈ l) (h : Z.has ws v = false) : Z.cdE ws l = 6 := by
  unfold Z.cdE
  rw [if_neg]
  intro h1
  rw [List.all_eq_true] at h1
  rw [h1 v hv] at h
  exact absurd h (by decide)
theorem cdE_zero {ws l : List Z.V} (h : Z.cdE ws l = 0) : ∀ v ∈ l, Z.has ws v = true := by
  unfold Z.cdE at h
  split at h
  · rename_i h1
    exact List.all_eq_true.1 h1
  · exact absurd h (by decide)
theorem cdL_ok {ws l : List Z.V} (h : Z.cdE ws l = 0) : Z.cdL ws l = l.map (Z.cdN ws) := by unfold Z.cdL; rw [if_pos h]
theorem cdL_bad {ws l : List Z.V} (h : Z.cdE ws l ≠ 0) : Z.cdL ws l = [] := by unfold Z.cdL; rw [if_neg h]
/-- Among values that rise a value's place is how many are below it. -/
theorem rise_cdN {ws : List Z.V} (h : Z.Rise ws) {j : Nat} {y v : Z.V} (hj : ws[j]? = some y) (hv : Z.cv y v = 0) : Z.cdN ws v = j := by
  obtain ⟨z, hz, hzv⟩ := cdN_has (ws := ws) (v := v) (has_iff.2 ⟨y, List.mem_of_getElem? hj, hv⟩)
  exact rise_place h hz hj (cv_eq_trans hzv (cv_eq_sym hv))
theorem rise_blw {ws : List Z.V} (h : Z.Rise ws) {j : Nat} {y v : Z.V} (hj : ws[j]? = some y) (hv : Z.cv y v = 0) : Z.blw ws v = j := by
  obtain ⟨z, hz, hzv⟩ := (rise_has h v).1 (has_iff.2 ⟨y, List.mem_of_getElem? hj, hv⟩)
  exact rise_place h hz hj (cv_eq_trans hzv (cv_eq_sym hv))
theorem rise_below {ws : List Z.V} (h : Z.Rise ws) {j : Nat} {y v : Z.V} (hj : ws[j]? = some y) : j < Z.blw ws v ↔ Z.cv y v < 0 := by
  obtain ⟨h1, h2⟩ := rise_cut h v
  constructor
  · intro hl
    exact h1 y (List.mem_of_getElem? (by rw [List.getElem?_take, if_pos hl]; exact hj))
  · intro hv
    rcases Nat.lt_or_ge j (Z.blw ws v) with h3 | h3
    · exact h3
    · have := h2 y (List.mem_of_getElem? (i := j - Z.blw ws v) (by rw [List.getElem?_drop, show Z.blw ws v + (j - Z.blw ws v) = j by omega]; exact hj))
      omega
theorem words_has (l : List Z.V) : ∀ v ∈ l, Z.has (Z.wds l) v = true := fun v hv => has_iff.2 ((words_of l).all v hv)
theorem words_cdE (l : List Z.V) : Z.cdE (Z.wds l) l = 0 := cdE_ok (words_has l)
/-- The width of the greatest place. -/
def Z.dwd (n : Nat) : Nat := bitLen (n - 1)
theorem dwd_le {n : Nat} (h : n ≤ 4096) : Z.dwd n ≤ 12 := (bitLen_le_iff (n - 1) 12).2 (by omega)
theorem dwd_fit {n j : Nat} (h : j < n) : j < 2 ^ Z.dwd n := by
  have h1 := (bitLen_le_iff (n - 1) (Z.dwd n)).1 (Nat.le_refl _)
  omega
/-- Codes as numbers. -/
theorem cI_in {c : List Nat} {m : Nat} (hm : m ≤ 4096) (h : ∀ x ∈ c, x < m) : In64 (ints c) := by
  intro x hx
  unfold ints at hx
  obtain ⟨y, hy, rfl⟩ := List.mem_map.1 hx
  have := h y hy
  omega
theorem cI_fit {c : List Nat} {m : Nat} (h : ∀ x ∈ c, x < m) : Fit (ints c) (Z.dwd m) := by
  intro x hx
  unfold ints at hx
  obtain ⟨y, hy, rfl⟩ := List.mem_map.1 hx
  have := dwd_fit (h y hy)
  rw [← pow_int]
  omega
theorem cI_inj {c d : List Nat} (h : ints c = ints d) : c = d := by
  have h2 := congrArg (List.map Int.toNat) h
  simpa [ints, List.map_map, Function.comp_def] using h2
/-- A column's bytes: how many words, the words, the codes. -/
def Z.db (l : List Z.V) : List Nat := E.leb (Z.wds l).length ++ (Z.pb (Z.wds l) ++ A.bytesOf (bitsAll (ints (Z.cdL (Z.wds l) l)) (Z.dwd (Z.wds l).length)))
def Z.dcb (l : List Z.V) (kind : Int) : List Nat := if Z.chk l kind = 0 then Z.db l else []
theorem dcb_ok {l : List Z.V} {kind : Int} (h : Z.chk l kind = 0) : Z.dcb l kind = Z.db l := by unfold Z.dcb; rw [if_pos h]
theorem dcb_bad {l : List Z.V} {kind : Int} (h : Z.chk l kind ≠ 0) : Z.dcb l kind = [] := by unfold Z.dcb; rw [if_neg h]
/-- Do values rise? -/
def Z.risB : List Z.V → Bool
  | [] => true
  | [_] => true
  | x :: y :: t => decide (Z.cv x y < 0) && Z.risB (y :: t)
theorem risB_iff : ∀ ws : List Z.V, Z.risB ws = true ↔ Z.Rise ws
  | [] => by simp [Z.risB, Z.Rise]
  | [x] => by simp [Z.risB, Z.Rise]
  | x :: y :: t => by
    rw [Z.risB, Bool.and_eq_true, decide_eq_true_eq, risB_iff (y :: t)]
    constructor
    · rintro ⟨h1, h2⟩
      refine List.pairwise_cons.2 ⟨fun z hz => ?_, h2⟩
      rcases List.mem_cons.1 hz with rfl | hz
      · exact h1
      · exact cv_lt_lt h1 ((List.pairwise_cons.1 h2).1 z hz)
    · intro h
      obtain ⟨h1, h2⟩ := List.pairwise_cons.1 h
      exact ⟨h1 y (by simp), h2⟩
/-- Are codes places, and each place a code? -/
def Z.cdOk (m : Nat) (c : List Nat) : Bool := (c.all fun x => decide (x < m)) && ((List.range m).all fun j => c.any fun x => x == j)
theorem cdOk_iff {m : Nat} {c : List Nat} : Z.cdOk m c = true ↔ (∀ x ∈ c, x < m) ∧ ∀ j, j < m → j ∈ c := by
  unfold Z.cdOk
  rw [Bool.and_eq_true, List.all_eq_true, List.all_eq_true]
  simp
/-- The parts of a column's bytes: how many words, the words, the rest, the codes. -/
def Z.dM (b : List Nat) : Nat := E.gN b
def Z.dW (kind : Int) (b : List Nat) : List Z.V := Z.pL kind (E.gN b) (b.drop (E.gK b))
def Z.dR (kind : Int) (b : List Nat) : List Nat := Z.pR kind (E.gN b) (b.drop (E.gK b))
def Z.dC (kind : Int) (n : Nat) (b : List Nat) : List Nat := (nums (Z.dR kind b) n (Z.dwd (E.gN b))).map Int.toNat
/-- What is wrong with bytes as a column of so many values. -/
def Z.dN (kind : Int) (n : Nat) (b : List Nat) : Nat :=
  if E.gE b ≠ 0 then E.gE b else if n < E.gN b then 4 else if Z.pE kind (E.gN b) (b.drop (E.gK b)) ≠ 0 then Z.pE kind (E.gN b) (b.drop (E.gK b)) else
  if Z.risB (Z.dW kind b) = false then 4 else if jb (Z.dR kind b) (n * Z.dwd (E.gN b)) ≠ 0 then jb (Z.dR kind b) (n * Z.dwd (E.gN b)) else if Z.cdOk (E.gN b) (Z.dC kind n b) = false then 4 else 0
structure Z.DOk (kind : Int) (n : Nat) (b : List Nat) : Prop where
  num : E.gE b = 0
  most : E.gN b ≤ n
  vals : Z.pE kind (E.gN b) (b.drop (E.gK b)) = 0
  rise : Z.Rise (Z.dW kind b)
  bits : jb (Z.dR kind b) (n * Z.dwd (E.gN b)) = 0
  code : Z.cdOk (E.gN b) (Z.dC kind n b) = true
theorem dN_zero {kind : Int} {n : Nat} {b : List Nat} (h : Z.dN kind n b = 0) : Z.DOk kind n b := by
  unfold Z.dN at h
  split at h
  · omega
  · rename_i h1
    split at h
    · omega
    · rename_i h2
      split at h
      · omega
      · rename_i h3
        split at h
        · omega
        · rename_i h4
          split at h
          · omega
          · rename_i h5
            split at h
            · omega
            · rename_i h6
              exact ⟨by omega, by omega, by omega, (risB_iff _).1 (by simpa using h4), by omega, by simpa using h6⟩
theorem dN_of {kind : Int} {n : Nat} {b : List Nat} (h : Z.DOk kind n b) : Z.dN kind n b = 0 := by
  unfold Z.dN
  have h1 := h.num
  have h2 := h.most
  have h3 := h.vals
  have h4 := (risB_iff _).2 h.rise
  have h5 := h.bits
  rw [if_neg (by omega), if_neg (by omega), if_neg (by omega), h4, if_neg (by decide), if_neg (by omega), h.code, if_neg (by decide)]
/-- The values of codes. -/
def Z.dV (ws : List Z.V) (c : List Nat) : List Z.V := c.map fun x => ws.getD x ⟨0, 0, ⟨#[]⟩⟩
theorem getD_of {ws : List Z.V} {j : Nat} {y : Z.V} (h : ws[j]? = some y) : ws.getD j ⟨0, 0, ⟨#[]⟩⟩ = y := by rw [List.getD_eq_getElem?_getD, h]; rfl
theorem get_lt {ws : List Z.V} {j : Nat} (h : j < ws.length) : ws[j]? = some (ws.getD j ⟨0, 0, ⟨#[]⟩⟩) := by
  rw [List.getD_eq_getElem?_getD, List.getElem?_eq_getElem h]; rfl
/-- Words and codes, each word a code, are those of their values. -/
theorem code_words {ws : List Z.V} {c : List Nat} (h : Z.Rise ws) (h1 : ∀ x ∈ c, x < ws.length) (h2 : ∀ j, j < ws.length → j ∈ c) : Z.wds (Z.dV ws c) = ws ∧ Z.cdL ws (Z.dV ws c) = c := by
  have hm : ∀ x ∈ Z.dV ws c, ∃ j, j ∈ c ∧ ws[j]? = some x := fun x hx => by
    obtain ⟨j, hj, rfl⟩ := List.mem_map.1 hx
    exact ⟨j, hj, get_lt (h1 j hj)⟩
  have hw : Z.Words (Z.dV ws c) ws := by
    refine ⟨h, fun x hx => ?_, fun y hy => ?_⟩
    · obtain ⟨j, _, hj⟩ := hm x hx
      exact ⟨x, List.mem_of_getElem? hj, Z.cv_refl x⟩
    · obtain ⟨j, hj⟩ := List.getElem?_of_mem hy
      have hjl := (List.getElem?_eq_some_iff.1 hj).1
      have hyl : y ∈ Z.dV ws c := List.mem_map.2 ⟨j, h2 j hjl, getD_of hj⟩
      cases hf : (Z.dV ws c).find? (fun x => decide (Z.cv x y = 0)) with
      | none =>
        rw [List.find?_eq_none] at hf
        exact absurd (by simp [Z.cv_refl]) (hf y hyl)
      | some z =>
        have hv : Z.cv z y = 0 := by simpa using List.find?_some hf
        obtain ⟨i, _, hi⟩ := hm z (List.mem_of_find?_eq_some hf)
        obtain rfl := rise_place h hi hj hv
        rw [hi] at hj
        rw [Option.some.inj hj]
  refine ⟨words_uniq (words_of _) hw, ?_⟩
  have he : Z.cdE ws (Z.dV ws c) = 0 := cdE_ok fun v hv => by
    obtain ⟨j, _, hj⟩ := hm v hv
    exact has_iff.2 ⟨v, List.mem_of_getElem? hj, Z.cv_refl v⟩
  rw [cdL_ok he]
  unfold Z.dV
  rw [List.map_map]
  conv => rhs; rw [← List.map_id c]
  apply List.map_congr_left
  intro j hj
  exact rise_cdN h (get_lt (h1 j hj)) (Z.cv_refl _)
/-- Codes are places, and each place is one. -/
theorem codes_ok (l : List Z.V) : Z.cdOk (Z.wds l).length (Z.cdL (Z.wds l) l) = true := by
  rw [cdOk_iff, cdL_ok (words_cdE l)]
  refine ⟨fun x hx => ?_, fun j hj => ?_⟩
  · obtain ⟨v, hv, rfl⟩ := List.mem_map.1 hx
    obtain ⟨y, hy, _⟩ := cdN_has (words_has l v hv)
    exact (List.getElem?_eq_some_iff.1 hy).1
  · have hg := get_lt hj
    have hm := words_mem (words_of l) (List.mem_of_getElem? hg)
    exact List.mem_map.2 ⟨_, hm, rise_cdN (wds_rise l) hg (Z.cv_refl _)⟩
/-- The words of a column's codes are its values, where values that are alike are the same. -/
theorem codes_back {l : List Z.V} (h : ∀ x ∈ l, ∀ y ∈ l, Z.cv x y = 0 → x = y) : Z.dV (Z.wds l) (Z.cdL (Z.wds l) l) = l := by
  rw [cdL_ok (words_cdE l)]
  unfold Z.dV
  rw [List.map_map]
  conv => rhs; rw [← List.map_id l]
  apply List.map_congr_left
  intro v hv
  obtain ⟨y, hy, hyv⟩ := cdN_has (words_has l v hv)
  show (Z.wds l).getD (Z.cdN (Z.wds l) v) _ = v
  rw [getD_of hy]
  exact h y (words_mem (words_of l) (List.mem_of_getElem? hy)) v hv hyv
end Go.Proofs.Ytmhfpipeoojacaa
/- A region that draws its order, by what each slot holds once it is written: one step an operation, whatever the order. -/
namespace Go.Proofs.Ytmhfpipeoojacaa.V
set_option linter.unusedVariables false
open Go.RowKit

/-- What a slot holds: it stays so while nothing old turns. -/
structure Ent where
  p : Value → World → Prop
  mono : ∀ {v : Value} {w w' : World}, Below w.heap.size w w' → p v w → p v w'
/-- One value. -/
def Ent.is (x : Value) : Ent := ⟨fun v _ => v = x, fun _ h => h⟩
/-- Bytes that can be read. -/
def Ent.sl (k : Nat) (l : List Nat) : Ent := ⟨fun v w => ∃ a c, v = .slice a k c ∧ Sl w .u8 a k c (ints l), fun hb ⟨a, c, h1, h2⟩ => ⟨a, c, h1, h2.below hb⟩⟩
def Ent.no : Ent := ⟨fun _ _ => False, fun _ h => h⟩
def get : List (Nat × Ent) → Nat → Ent
  | [], _ => Ent.no
  | (k, p) :: r, d => bif Nat.beq d k then p else get r d

def base (ops : Array Oper) (d : Nat) : Bool := ops.toList.all fun p => p.dst != some d
def edge (ops : Array Oper) (o : Oper) (d : Nat) : Bool := o.after.toList.any fun e => Region.binds .any e && (ops[e.on]?).bind (·.dst) == some d
def nodup : List Nat → Bool
  | [] => true
  | d :: r => !r.contains d && nodup r
def okO (bs : List Nat) (ops : Array Oper) (n : Nat) (i : Nat) (o : Oper) : Bool :=
  (o.looksAt ops).all (fun d => (bs.contains d && base ops d) || edge ops o d) && o.after.toList.all (fun e => !Region.binds .any e || decide (e.on < i)) && o.dst.all (fun d => decide (d < n))
def okL (bs : List Nat) (ops : Array Oper) (n : Nat) : Nat → List Oper → Bool
  | _, [] => true
  | i, o :: r => okO bs ops n i o && okL bs ops n (i + 1) r
def ok (bs : List Nat) (ops : Array Oper) (n : Nat) : Bool := nodup (ops.toList.filterMap (·.dst)) && okL bs ops n 0 ops.toList && bs.all (base ops)

theorem okL_get {bs : List Nat} {ops : Array Oper} {n : Nat} : ∀ {l : List Oper} {k i : Nat} {o : Oper}, okL bs ops n k l = true → l[i]? = some o → okO bs ops n (k + i) o = true
  | [], _, _, _, _, h => by simp at h
  | x :: r, k, 0, o, h, ho => by
    simp at ho; subst ho
    simp [okL] at h; exact h.1
  | x :: r, k, i + 1, o, h, ho => by
    simp at ho
    simp [okL] at h
    have := okL_get h.2 ho
    rwa [Nat.add_assoc, Nat.add_comm 1 i] at this

theorem nodup_uniq : ∀ {l : List Oper} {i j : Nat} {o p : Oper} {d : Nat}, nodup (l.filterMap (·.dst)) = true → l[i]? = some o → l[j]? = some p → o.dst = some d → p.dst = some d → i = j
  | [], _, _, _, _, _, _, h, _, _, _ => by simp at h
  | x :: r, 0, 0, _, _, _, _, _, _, _, _ => rfl
  | x :: r, 0, j + 1, o, p, d, hn, ho, hp, hod, hpd => by
    simp at ho hp; subst ho
    rw [List.filterMap_cons, hod] at hn
    simp [nodup] at hn
    have : p ∈ r := List.mem_of_getElem? hp
    exact absurd hpd (hn.1 p this)
  | x :: r, i + 1, 0, o, p, d, hn, ho, hp, hod, hpd => by
    simp at ho hp; subst hp
    rw [List.filterMap_cons, hpd] at hn
    simp [nodup] at hn
    have : o ∈ r := List.mem_of_getElem? ho
    exact absurd hod (hn.1 o this)
  | x :: r, i + 1, j + 1, o, p, d, hn, ho, hp, hod, hpd => by
    simp at ho hp
    have hn' : nodup (r.filterMap (·.dst)) = true := by
      rw [List.filterMap_cons] at hn
      cases hx : x.dst with
      | none => rw [hx] at hn; exact hn
      | some y => rw [hx] at hn; simp [nodup] at hn; exact hn.2
    rw [nodup_uniq hn' ho hp hod hpd]

variable {P : Program}

/-- One operation: whatever slots it looks at hold what they should. -/
def Step (P : Program) (ops : Array Oper) (Q : Exit → Act → World → Prop) (tbl : List (Nat × Ent)) (w0 : World) (o : Oper) : Prop :=
  ∀ (a : Act) (w : World), Below w0.heap.size w0 w → (∀ d, (o.looksAt ops).contains d = true → (get tbl d).p (a.eval (.tmp d)) w) →
    (Region.wanted o (yielded ops a.tmps) = true ∧ o.wp P a w (fun a' w' => Below w.heap.size w w' ∧ ∃ v, a' = a.put o.dst v ∧ ∀ d, o.dst = some d → (get tbl d).p v w') Q) ∨
    (Region.wanted o (yielded ops a.tmps) = false ∧ ∀ d, o.dst = some d → (get tbl d).p undef w)
def Steps (P : Program) (ops : Array Oper) (Q : Exit → Act → World → Prop) (tbl : List (Nat × Ent)) (w0 : World) : List Oper → Prop
  | [] => True
  | o :: r => Step P ops Q tbl w0 o ∧ Steps P ops Q tbl w0 r
theorem Steps.get {ops : Array Oper} {Q : Exit → Act → World → Prop} {tbl : List (Nat × Ent)} {w0 : World} : ∀ {l : List Oper} {i : Nat} {o : Oper}, Steps P ops Q tbl w0 l → l[i]? = some o → Step P ops Q tbl w0 o
  | [], _, _, _, h => by simp at h
  | x :: r, 0, o, h, ho => by simp at ho; subst ho; exact h.1
  | x :: r, i + 1, o, h, ho => by simp at ho; exact Steps.get h.2 ho

structure Inv (ops : Array Oper) (bs : List Nat) (tbl : List (Nat × Ent)) (w0 : World) (a0 : Act) (listed : Array Bool) (a : Act) (w : World) : Prop where
  sz : listed.size = ops.size
  bel : Below w0.heap.size w0 w
  defers : a.defers = a0.defers
  tsize : a.tmps.size = a0.tmps.size
  bases : ∀ d, d ∈ bs → (V.get tbl d).p (a.eval (.tmp d)) w
  others : ∀ d, V.base ops d = true → a.eval (.tmp d) = a0.eval (.tmp d)
  known : ∀ i o d, ops[i]? = some o → listed.getD i false = true → o.dst = some d → (V.get tbl d).p (a.eval (.tmp d)) w

theorem eval_put_same {a : Act} {d : Nat} {v : Value} (h : d < a.tmps.size) : (a.put (some d) v).eval (.tmp d) = v := by
  simp [Act.eval, Act.put, Array.getD, h]

theorem Inv.step {ops : Array Oper} {bs : List Nat} {tbl : List (Nat × Ent)} {w0 w w' : World} {a0 a : Act} {listed : Array Bool} (hok : ok bs ops a0.tmps.size = true) (h : Inv ops bs tbl w0 a0 listed a w) {i : Nat} {o : Oper} (ho : ops[i]? = some o)
    (hb : Below w.heap.size w w') {v : Value} (hv : ∀ d, o.dst = some d → (V.get tbl d).p v w') : Inv ops bs tbl w0 a0 (listed.setIfInBounds i true) (a.put o.dst v) w' := by
  simp only [ok, Bool.and_eq_true] at hok
  obtain ⟨⟨hnd, hl⟩, hbase⟩ := hok
  have hoi : ops.toList[i]? = some o := by simpa using ho
  have hoo := okL_get hl hoi
  simp only [okO, Bool.and_eq_true] at hoo
  have hdl : ∀ d, o.dst = some d → d < a.tmps.size := fun d hd => by
    have := hoo.2
    rw [hd] at this
    rw [h.tsize]
    simpa using this
  have hsz := h.bel.size
  refine ⟨by simp [h.sz], h.bel.trans (hb.mono hsz), ?_, ?_, ?_, ?_, ?_⟩
  · rw [← h.defers]; cases o.dst <;> rfl
  · rw [← h.tsize]; cases o.dst <;> simp [Act.put]
  · intro d hd
    rw [Act.eval_put (fun x hx e => ?_)]
    · exact (V.get tbl d).mono hb (h.bases d hd)
    · injection e with e
      subst e
      have h1 := List.all_eq_true.1 hbase d hd
      have h2 := List.all_eq_true.1 h1 o (List.mem_of_getElem? hoi)
      simp [hx] at h2
  · intro d hd
    rw [Act.eval_put (fun x hx e => ?_)]
    · exact h.others d hd
    · injection e with e
      subst e
      have h2 := List.all_eq_true.1 hd o (List.mem_of_getElem? hoi)
      simp [hx] at h2
  · intro j p d hp hlj hpd
    by_cases hij : i = j
    · subst hij
      rw [ho] at hp
      obtain rfl := Option.some.inj hp
      rw [hpd, eval_put_same (hdl d hpd)]
      exact hv d hpd
    · have hlj' : listed.getD j false = true := by
        simpa [Array.getD_eq_getD_getElem?, Array.getElem?_setIfInBounds_ne hij] using hlj
      rw [Act.eval_put (fun x hx e => ?_)]
      · exact (V.get tbl d).mono hb (h.known j p d hp hlj' hpd)
      · injection e with e
        subst e
        exact hij (nodup_uniq hnd hoi (by simpa using hp) hx hpd)

theorem ready_get {ops : Array Oper} {listed : Array Bool} {i : Nat} (h : i ∈ Region.ready .any ops listed) : ∃ o, ops[i]? = some o ∧ i < ops.size ∧ listed.getD i true = false ∧ ∀ e ∈ o.after, Region.binds .any e = true → listed.getD e.on false = true := by
  simp only [Region.ready, List.mem_filter, List.mem_range, Bool.and_eq_true] at h
  obtain ⟨h1, h2, h3⟩ := h
  have ho : ops[i]? = some ops[i] := by simp [h1]
  refine ⟨ops[i], ho, h1, by simpa using h2, fun e he hbd => ?_⟩
  rw [ho] at h3
  simp at h3
  obtain ⟨k, hk, hek⟩ := Array.getElem_of_mem he
  have := h3 k hk
  rw [hek] at this
  simpa [hbd, Array.getD_eq_getD_getElem?] using this

/-- Where nothing may come up, all has. -/
theorem all_listed {bs : List Nat} {ops : Array Oper} {n : Nat} {listed : Array Bool} (hl : okL bs ops n 0 ops.toList = true) (hsz : listed.size = ops.size) (hr : Region.ready .any ops listed = []) : ∀ i, i < ops.size → listed.getD i false = true := by
  intro i
  induction i using Nat.strongRecOn with
  | _ i ih =>
    intro hi
    cases hg : listed.getD i false with
    | true => rfl
    | false =>
      exfalso
      have ho : ops[i]? = some ops[i] := by simp [hi]
      have hoo := okL_get hl (i := i) (o := ops[i]) (by simp [hi])
      simp only [okO, Bool.and_eq_true, Nat.zero_add] at hoo
      have hin : i ∈ Region.ready .any ops listed := by
        simp only [Region.ready, List.mem_filter, List.mem_range, Bool.and_eq_true]
        refine ⟨hi, ?_, ?_⟩
        · have : listed.getD i true = false := by
            have h1 : i < listed.size := by omega
            simp [Array.getD, h1] at hg ⊢
            exact hg
          simp [this]
        · rw [ho]
          simp only [Option.map_some, Option.getD_some]
          rw [Array.all_eq_true]
          intro k hk
          have he := List.all_eq_true.1 hoo.1.2 (ops[i].after[k]) (by simp)
          cases hb : Region.binds .any ops[i].after[k] with
          | false => rfl
          | true =>
            simp [hb] at he
            have := ih _ he (by omega)
            simpa using this
      rw [hr] at hin
      simp at hin

theorem wpAny_inv {ops : Array Oper} {bs : List Nat} {tbl : List (Nat × Ent)} {w0 : World} {a0 : Act} {Q : Exit → Act → World → Prop} (hok : ok bs ops a0.tmps.size = true) (hs : Steps P ops Q tbl w0 ops.toList)
    (hd : ∀ a w, Below w0.heap.size w0 w → a.defers = a0.defers → a.tmps.size = a0.tmps.size → (∀ d, V.base ops d = true → a.eval (.tmp d) = a0.eval (.tmp d)) → (∀ (i : Nat) (o : Oper) (d : Nat), ops[i]? = some o → o.dst = some d → (V.get tbl d).p (a.eval (.tmp d)) w) → Q .normal a w) :
    ∀ (fuel : Nat) (listed : Array Bool) (a : Act) (w : World), Inv ops bs tbl w0 a0 listed a w → listed.toList.count false ≤ fuel → wpAny P .any ops Q fuel listed a w := by
  have hok' := hok
  simp only [ok, Bool.and_eq_true] at hok'
  obtain ⟨⟨hnd, hl⟩, hbase⟩ := hok'
  have hdone : ∀ listed a w, Inv ops bs tbl w0 a0 listed a w → Region.ready .any ops listed = [] → Q .normal a w := fun listed a w hI hr =>
    hd a w hI.bel hI.defers hI.tsize hI.others fun i o d ho hod => hI.known i o d ho (all_listed hl hI.sz hr i (by
      rcases Nat.lt_or_ge i ops.size with h | h
      · exact h
      · simp [h] at ho)) hod
  intro fuel
  induction fuel with
  | zero =>
    intro listed a w hI hc
    have hr : Region.ready .any ops listed = [] := by
      apply List.filter_eq_nil_iff.2
      intro i hi
      have hi' : i < listed.size := by rw [hI.sz]; simpa using hi
      have h1 : listed[i] = true := by
        cases hx : listed[i] with
        | true => rfl
        | false =>
          have : false ∈ listed.toList := by rw [← hx]; simp
          have := List.count_pos_iff.2 this
          omega
      simp [Array.getD, hi', h1]
    exact ⟨hr, hdone listed a w hI hr⟩
  | succ fuel ih =>
    intro listed a w hI hc
    refine ⟨hdone listed a w hI, fun i hi => ?_⟩
    obtain ⟨o, ho, hi1, hi2, hi3⟩ := ready_get hi
    have hil : i < listed.size := by rw [hI.sz]; exact hi1
    have hcnt : (listed.setIfInBounds i true).toList.count false ≤ fuel := by
      have hf : listed[i] = false := by simpa [Array.getD, hil] using hi2
      have h1 : (listed.setIfInBounds i true).toList = listed.toList.set i true := by simp
      have h2 := List.count_set (a := true) (b := false) (l := listed.toList) (i := i) (h := by simpa using hil)
      rw [h1, h2]
      simp [hf]
      have : false ∈ listed.toList := by rw [← hf]; simp
      have := List.count_pos_iff.2 this
      simp at this hc
      omega
    have hoi : ops.toList[i]? = some o := by simpa using ho
    have hoo := okL_get hl hoi
    simp only [okO, Bool.and_eq_true] at hoo
    have hk : ∀ d, (o.looksAt ops).contains d = true → (V.get tbl d).p (a.eval (.tmp d)) w := by
      intro d hd
      have h1 := List.all_eq_true.1 hoo.1.1 d (by simpa using hd)
      simp only [Bool.or_eq_true, Bool.and_eq_true] at h1
      rcases h1 with ⟨h1, _⟩ | h1
      · exact hI.bases d (by simpa using h1)
      · simp only [edge, List.any_eq_true, Bool.and_eq_true, beq_iff_eq] at h1
        obtain ⟨e, he, hbd, hx⟩ := h1
        cases hp : ops[e.on]? with
        | none => rw [hp] at hx; simp at hx
        | some p =>
          rw [hp] at hx
          exact hI.known _ p d hp (hi3 e (by simpa using he) hbd) hx
    unfold wpOp
    rw [ho]
    rcases hs.get hoi a w hI.bel hk with ⟨hw, hwp⟩ | ⟨hw, hv⟩
    · simp only [hw, if_true]
      refine .inl (Oper.wp_mono (fun a' w' h => ?_) hwp)
      obtain ⟨hb, v, rfl, hv⟩ := h
      exact ih _ _ _ (hI.step hok ho hb hv) hcnt
    · simp only [hw]
      exact ih _ _ _ (hI.step hok ho (Below.refl _ _) hv) hcnt

/-- A region that draws its order. -/
theorem wp_region {id : Nat} {l : List Oper} {Q : Exit → Act → World → Prop} {a : Act} {w w0 : World} (bs : List Nat) (tbl : List (Nat × Ent)) (hm : P.follows .mixedOrders = true) (hok : ok bs l.toArray a.tmps.size = true) (hw : Below w0.heap.size w0 w) (hb : ∀ d, d ∈ bs → (V.get tbl d).p (a.eval (.tmp d)) w.drew) (hs : Steps P l.toArray Q tbl w0 l)
    (hd : ∀ a' w', Below w0.heap.size w0 w' → a'.defers = a.defers → (∀ (i : Nat) (o : Oper) (d : Nat), l[i]? = some o → o.dst = some d → (V.get tbl d).p (a'.eval (.tmp d)) w') → Q .normal a' w') : (Code.region id l.toArray true).wp P Q a w := by
  refine wp_region_any hm ?_
  refine wpAny_inv (bs := bs) (tbl := tbl) (w0 := w0) (a0 := a) hok (by simpa using hs) (fun a' w' h1 h2 _ _ h3 => hd a' w' h1 h2 fun i o d ho => h3 i o d (by simpa using ho)) _ _ _ _ ?_ ?_
  · exact ⟨by simp, hw.drew, rfl, rfl, hb, fun _ _ => rfl, fun i o d _ h => by simp [Array.getD] at h⟩
  · simp

/-- Slots written one behind the other. -/
def puts (a : Act) (ds : List Nat) (vs : Nat → Value) : Act := ds.foldl (fun a d => a.put (some d) (vs d)) a
theorem puts_get (vs : Nat → Value) : ∀ (ds : List Nat) (a : Act), (puts a ds vs).defers = a.defers ∧ (puts a ds vs).tmps.size = a.tmps.size ∧ ∀ d, (puts a ds vs).tmps[d]? = if d ∈ ds ∧ d < a.tmps.size then some (vs d) else a.tmps[d]?
  | [], a => ⟨rfl, rfl, fun d => by simp [puts]⟩
  | x :: r, a => by
    obtain ⟨h1, h2, h3⟩ := puts_get vs r (a.put (some x) (vs x))
    have e : puts a (x :: r) vs = puts (a.put (some x) (vs x)) r vs := rfl
    rw [e]
    refine ⟨h1, by rw [h2]; simp [Act.put], fun d => ?_⟩
    rw [h3 d]
    have hs : (a.put (some x) (vs x)).tmps.size = a.tmps.size := by simp [Act.put]
    rw [hs]
    by_cases hr : d ∈ r ∧ d < a.tmps.size
    · rw [if_pos hr, if_pos ⟨List.mem_cons_of_mem _ hr.1, hr.2⟩]
    · rw [if_neg hr]
      by_cases hx : d = x
      · subst hx
        by_cases hl : d < a.tmps.size
        · rw [if_pos ⟨List.mem_cons_self, hl⟩]
          simp [Act.put, hl]
        · rw [if_neg (fun h => hl h.2)]
          simp [Act.put, hl]
      · rw [if_neg (fun h => by
          rcases List.mem_cons.1 h.1 with h' | h'
          · exact hx h'
          · exact hr ⟨h', h.2⟩)]
        simp [Act.put, Array.getElem?_setIfInBounds_ne (fun e => hx e.symm)]
theorem eval_get {a : Act} {d : Nat} (h : d < a.tmps.size) : a.tmps[d]? = some (a.eval (.tmp d)) := by
  simp [Act.eval, Array.getD, h]
theorem act_ext {a b : Act} (h1 : a.tmps = b.tmps) (h2 : a.defers = b.defers) : a = b := by
  cases a; cases b; cases h1; cases h2; rfl

/-- A region that draws its order, where more follows: the frame behind it is the one ahead, but for the slots that it writes. -/
theorem wp_region2 {id : Nat} {l : List Oper} {Q : Exit → Act → World → Prop} {a : Act} {w w0 : World} (ds bs : List Nat) (tbl : List (Nat × Ent)) (hds : l.filterMap (·.dst) = ds) (hm : P.follows .mixedOrders = true) (hok : ok bs l.toArray a.tmps.size = true) (hw : Below w0.heap.size w0 w) (hb : ∀ d, d ∈ bs → (V.get tbl d).p (a.eval (.tmp d)) w.drew) (hs : Steps P l.toArray Q tbl w0 l)
    (hd : ∀ (vs : Nat → Value) w', Below w0.heap.size w0 w' → (∀ (i : Nat) (o : Oper) (d : Nat), l[i]? = some o → o.dst = some d → (V.get tbl d).p (vs d) w') → Q .normal (puts a ds vs) w') : (Code.region id l.toArray true).wp P Q a w := by
  refine wp_region_any hm ?_
  refine wpAny_inv (bs := bs) (tbl := tbl) (w0 := w0) (a0 := a) hok (by simpa using hs) (fun a' w' h1 h2 h4 h5 h3 => ?_) _ _ _ _ ?_ ?_
  · have e : a' = puts a ds (fun d => a'.eval (.tmp d)) := by
      obtain ⟨p1, p2, p3⟩ := puts_get (fun d => a'.eval (.tmp d)) ds a
      refine act_ext (Array.ext_getElem? fun d => ?_) (by rw [h2, p1])
      rw [p3 d]
      by_cases hl : d < a.tmps.size
      · rw [eval_get (by rw [h4]; exact hl), eval_get hl]
        by_cases hd : d ∈ ds
        · rw [if_pos ⟨hd, hl⟩]
        · rw [if_neg (fun h => hd h.1), h5 d]
          simp only [base, List.all_eq_true]
          intro o ho
          have : d ∉ l.filterMap (·.dst) := by rw [hds]; exact hd
          simp only [List.mem_filterMap, not_exists, not_and] at this
          simpa using this o (by simpa using ho)
      · rw [if_neg (fun h => hl h.2), Array.getElem?_eq_none (by omega), Array.getElem?_eq_none (by omega)]
    rw [e]
    exact hd _ w' h1 fun i o d ho => h3 i o d (by simpa using ho)
  · exact ⟨by simp, hw.drew, rfl, rfl, hb, fun _ _ => rfl, fun i o d _ h => by simp [Array.getD] at h⟩
  · simp
end Go.Proofs.Ytmhfpipeoojacaa.V

/- A region that draws its order, by what each slot holds once it is written: one step an operation, whatever the order. -/
import Derived.Test.YtlbchdlokimpfaaU
namespace Go.Proofs.Ytlbchdlokimpfaa.V
set_option linter.unusedVariables false
open Go.RowKit

/-- What a slot holds: it stays so while nothing old turns. -/
structure Ent where
  p : Value → World → Prop
  mono : ∀ {v : Value} {w w' : World}, Below w.heap.size w w' → p v w → p v w'
/-- One value. -/
def Ent.is (x : Value) : Ent := ⟨fun v _ => v = x, fun _ h => h⟩
/-- Bytes that can be read. -/
def Ent.sl (k : Nat) (l : List Nat) : Ent := ⟨fun v w => ∃ a c, v = .slice a k c ∧ Sl w .u8 a k c (ints l), fun hb ⟨a, c, h1, h2⟩ => ⟨a, c, h1, h2.below hb⟩⟩
def Ent.no : Ent := ⟨fun _ _ => False, fun _ h => h⟩
def get : List (Nat × Ent) → Nat → Ent
  | [], _ => Ent.no
  | (k, p) :: r, d => bif Nat.beq d k then p else get r d

def base (ops : Array Oper) (d : Nat) : Bool := ops.toList.all fun p => p.dst != some d
def edge (ops : Array Oper) (o : Oper) (d : Nat) : Bool := o.after.toList.any fun e => Region.binds .any e && (ops[e.on]?).bind (·.dst) == some d
def nodup : List Nat → Bool
  | [] => true
  | d :: r => !r.contains d && nodup r
def okO (bs : List Nat) (ops : Array Oper) (n : Nat) (i : Nat) (o : Oper) : Bool :=
  (o.looksAt ops).all (fun d => (bs.contains d && base ops d) || edge ops o d) && o.after.toList.all (fun e => !Region.binds .any e || decide (e.on < i)) && o.dst.all (fun d => decide (d < n))
def okL (bs : List Nat) (ops : Array Oper) (n : Nat) : Nat → List Oper → Bool
  | _, [] => true
  | i, o :: r => okO bs ops n i o && okL bs ops n (i + 1) r
def ok (bs : List Nat) (ops : Array Oper) (n : Nat) : Bool := nodup (ops.toList.filterMap (·.dst)) && okL bs ops n 0 ops.toList && bs.all (base ops)

theorem okL_get {bs : List Nat} {ops : Array Oper} {n : Nat} : ∀ {l : List Oper} {k i : Nat} {o : Oper}, okL bs ops n k l = true → l[i]? = some o → okO bs ops n (k + i) o = true
  | [], _, _, _, _, h => by simp at h
  | x :: r, k, 0, o, h, ho => by
    simp at ho; subst ho
    simp [okL] at h; exact h.1
  | x :: r, k, i + 1, o, h, ho => by
    simp at ho
    simp [okL] at h
    have := okL_get h.2 ho
    rwa [Nat.add_assoc, Nat.add_comm 1 i] at this

theorem nodup_uniq : ∀ {l : List Oper} {i j : Nat} {o p : Oper} {d : Nat}, nodup (l.filterMap (·.dst)) = true → l[i]? = some o → l[j]? = some p → o.dst = some d → p.dst = some d → i = j
  | [], _, _, _, _, _, _, h, _, _, _ => by simp at h
  | x :: r, 0, 0, _, _, _, _, _, _, _, _ => rfl
  | x :: r, 0, j + 1, o, p, d, hn, ho, hp, hod, hpd => by
    simp at ho hp; subst ho
    rw [List.filterMap_cons, hod] at hn
    simp [nodup] at hn
    have : p ∈ r := List.mem_of_getElem? hp
    exact absurd hpd (hn.1 p this)
  | x :: r, i + 1, 0, o, p, d, hn, ho, hp, hod, hpd => by
    simp at ho hp; subst hp
    rw [List.filterMap_cons, hpd] at hn
    simp [nodup] at hn
    have : o ∈ r := List.mem_of_getElem? ho
    exact absurd hod (hn.1 o this)
  | x :: r, i + 1, j + 1, o, p, d, hn, ho, hp, hod, hpd => by
    simp at ho hp
    have hn' : nodup (r.filterMap (·.dst)) = true := by
      rw [List.filterMap_cons] at hn
      cases hx : x.dst with
      | none => rw [hx] at hn; exact hn
      | some y => rw [hx] at hn; simp [nodup] at hn; exact hn.2
    rw [nodup_uniq hn' ho hp hod hpd]

variable {P : Program}

/-- One operation: whatever slots it looks at hold what they should. -/
def Step (P : Program) (ops : Array Oper) (Q : Exit → Act → World → Prop) (tbl : List (Nat × Ent)) (w0 : World) (o : Oper) : Prop :=
  ∀ (a : Act) (w : World), Below w0.heap.size w0 w → (∀ d, (o.looksAt ops).contains d = true → (get tbl d).p (a.eval (.tmp d)) w) →
    (Region.wanted o (yielded ops a.tmps) = true ∧ o.wp P a w (fun a' w' => Below w.heap.size w w' ∧ ∃ v, a' = a.put o.dst v ∧ ∀ d, o.dst = some d → (get tbl d).p v w') Q) ∨
    (Region.wanted o (yielded ops a.tmps) = false ∧ ∀ d, o.dst = some d → (get tbl d).p undef w)
def Steps (P : Program) (ops : Array Oper) (Q : Exit → Act → World → Prop) (tbl : List (Nat × Ent)) (w0 : World) : List Oper → Prop
  | [] => True
  | o :: r => Step P ops Q tbl w0 o ∧ Steps P ops Q tbl w0 r
theorem Steps.get {ops : Array Oper} {Q : Exit → Act → World → Prop} {tbl : List (Nat × Ent)} {w0 : World} : ∀ {l : List Oper} {i : Nat} {o : Oper}, Steps P ops Q tbl w0 l → l[i]? = some o → Step P ops Q tbl w0 o
  | [], _, _, _, h => by simp at h
  | x :: r, 0, o, h, ho => by simp at ho; subst ho; exact h.1
  | x :: r, i + 1, o, h, ho => by simp at ho; exact Steps.get h.2 ho

structure Inv (ops : Array Oper) (bs : List Nat) (tbl : List (Nat × Ent)) (w0 : World) (a0 : Act) (listed : Array Bool) (a : Act) (w : World) : Prop where
  sz : listed.size = ops.size
  bel : Below w0.heap.size w0 w
  defers : a.defers = a0.defers
  tsize : a.tmps.size = a0.tmps.size
  bases : ∀ d, d ∈ bs → (V.get tbl d).p (a.eval (.tmp d)) w
  others : ∀ d, V.base ops d = true → a.eval (.tmp d) = a0.eval (.tmp d)
  known : ∀ i o d, ops[i]? = some o → listed.getD i false = true → o.dst = some d → (V.get tbl d).p (a.eval (.tmp d)) w

theorem eval_put_same {a : Act} {d : Nat} {v : Value} (h : d < a.tmps.size) : (a.put (some d) v).eval (.tmp d) = v := by
  simp [Act.eval, Act.put, Array.getD, h]

theorem Inv.step {ops : Array Oper} {bs : List Nat} {tbl : List (Nat × Ent)} {w0 w w' : World} {a0 a : Act} {listed : Array Bool} (hok : ok bs ops a0.tmps.size = true) (h : Inv ops bs tbl w0 a0 listed a w) {i : Nat} {o : Oper} (ho : ops[i]? = some o)
    (hb : Below w.heap.size w w') {v : Value} (hv : ∀ d, o.dst = some d → (V.get tbl d).p v w') : Inv ops bs tbl w0 a0 (listed.setIfInBounds i true) (a.put o.dst v) w' := by
  simp only [ok, Bool.and_eq_true] at hok
  obtain ⟨⟨hnd, hl⟩, hbase⟩ := hok
  have hoi : ops.toList[i]? = some o := by simpa using ho
  have hoo := okL_get hl hoi
  simp only [okO, Bool.and_eq_true] at hoo
  have hdl : ∀ d, o.dst = some d → d < a.tmps.size := fun d hd => by
    have := hoo.2
    rw [hd] at this
    rw [h.tsize]
    simpa using this
  have hsz := h.bel.size
  refine ⟨by simp [h.sz], h.bel.trans (hb.mono hsz), ?_, ?_, ?_, ?_, ?_⟩
  · rw [← h.defers]; cases o.dst <;> rfl
  · rw [← h.tsize]; cases o.dst <;> simp [Act.put]
  · intro d hd
    rw [Act.eval_put (fun x hx e => ?_)]
    · exact (V.get tbl d).mono hb (h.bases d hd)
    · injection e with e
      subst e
      have h1 := List.all_eq_true.1 hbase d hd
      have h2 := List.all_eq_true.1 h1 o (List.mem_of_getElem? hoi)
      simp [hx] at h2
  · intro d hd
    rw [Act.eval_put (fun x hx e => ?_)]
    · exact h.others d hd
    · injection e with e
      subst e
      have h2 := List.all_eq_true.1 hd o (List.mem_of_getElem? hoi)
      simp [hx] at h2
  · intro j p d hp hlj hpd
    by_cases hij : i = j
    · subst hij
      rw [ho] at hp
      obtain rfl := Option.some.inj hp
      rw [hpd, eval_put_same (hdl d hpd)]
      exact hv d hpd
    · have hlj' : listed.getD j false = true := by
        simpa [Array.getD_eq_getD_getElem?, Array.getElem?_setIfInBounds_ne hij] using hlj
      rw [Act.eval_put (fun x hx e => ?_)]
      · exact (V.get tbl d).mono hb (h.known j p d hp hlj' hpd)
      · injection e with e
        subst e
        exact hij (nodup_uniq hnd hoi (by simpa using hp) hx hpd)

theorem ready_get {ops : Array Oper} {listed : Array Bool} {i : Nat} (h : i ∈ Region.ready .any ops listed) : ∃ o, ops[i]? = some o ∧ i < ops.size ∧ listed.getD i true = false ∧ ∀ e ∈ o.after, Region.binds .any e = true → listed.getD e.on false = true := by
  simp only [Region.ready, List.mem_filter, List.mem_range, Bool.and_eq_true] at h
  obtain ⟨h1, h2, h3⟩ := h
  have ho : ops[i]? = some ops[i] := by simp [h1]
  refine ⟨ops[i], ho, h1, by simpa using h2, fun e he hbd => ?_⟩
  rw [ho] at h3
  simp at h3
  obtain ⟨k, hk, hek⟩ := Array.getElem_of_mem he
  have := h3 k hk
  rw [hek] at this
  simpa [hbd, Array.getD_eq_getD_getElem?] using this

/-- Where nothing may come up, all has. -/
theorem all_listed {bs : List Nat} {ops : Array Oper} {n : Nat} {listed : Array Bool} (hl : okL bs ops n 0 ops.toList = true) (hsz : listed.size = ops.size) (hr : Region.ready .any ops listed = []) : ∀ i, i < ops.size → listed.getD i false = true := by
  intro i
  induction i using Nat.strongRecOn with
  | _ i ih =>
    intro hi
    cases hg : listed.getD i false with
    | true => rfl
    | false =>
      exfalso
      have ho : ops[i]? = some ops[i] := by simp [hi]
      have hoo := okL_get hl (i := i) (o := ops[i]) (by simp [hi])
      simp only [okO, Bool.and_eq_true, Nat.zero_add] at hoo
      have hin : i ∈ Region.ready .any ops listed := by
        simp only [Region.ready, List.mem_filter, List.mem_range, Bool.and_eq_true]
        refine ⟨hi, ?_, ?_⟩
        · have : listed.getD i true = false := by
            have h1 : i < listed.size := by omega
            simp [Array.getD, h1] at hg ⊢
            exact hg
          simp [this]
        · rw [ho]
          simp only [Option.map_some, Option.getD_some]
          rw [Array.all_eq_true]
          intro k hk
          have he := List.all_eq_true.1 hoo.1.2 (ops[i].after[k]) (by simp)
          cases hb : Region.binds .any ops[i].after[k] with
          | false => rfl
          | true =>
            simp [hb] at he
            have := ih _ he (by omega)
            simpa using this
      rw [hr] at hin
      simp at hin

theorem wpAny_inv {ops : Array Oper} {bs : List Nat} {tbl : List (Nat × Ent)} {w0 : World} {a0 : Act} {Q : Exit → Act → World → Prop} (hok : ok bs ops a0.tmps.size = true) (hs : Steps P ops Q tbl w0 ops.toList)
    (hd : ∀ a w, Below w0.heap.size w0 w → a.defers = a0.defers → a.tmps.size = a0.tmps.size → (∀ d, V.base ops d = true → a.eval (.tmp d) = a0.eval (.tmp d)) → (∀ (i : Nat) (o : Oper) (d : Nat), ops[i]? = some o → o.dst = some d → (V.get tbl d).p (a.eval (.tmp d)) w) → Q .normal a w) :
    ∀ (fuel : Nat) (listed : Array Bool) (a : Act) (w : World), Inv ops bs tbl w0 a0 listed a w → listed.toList.count false ≤ fuel → wpAny P .any ops Q fuel listed a w := by
  have hok' := hok
  simp only [ok, Bool.and_eq_true] at hok'
  obtain ⟨⟨hnd, hl⟩, hbase⟩ := hok'
  have hdone : ∀ listed a w, Inv ops bs tbl w0 a0 listed a w → Region.ready .any ops listed = [] → Q .normal a w := fun listed a w hI hr =>
    hd a w hI.bel hI.defers hI.tsize hI.others fun i o d ho hod => hI.known i o d ho (all_listed hl hI.sz hr i (by
      rcases Nat.lt_or_ge i ops.size with h | h
      · exact h
      · simp [h] at ho)) hod
  intro fuel
  induction fuel with
  | zero =>
    intro listed a w hI hc
    have hr : Region.ready .any ops listed = [] := by
      apply List.filter_eq_nil_iff.2
      intro i hi
      have hi' : i < listed.size := by rw [hI.sz]; simpa using hi
      have h1 : listed[i] = true := by
        cases hx : listed[i] with
        | true => rfl
        | false =>
          have : false ∈ listed.toList := by rw [← hx]; simp
          have := List.count_pos_iff.2 this
          omega
      simp [Array.getD, hi', h1]
    exact ⟨hr, hdone listed a w hI hr⟩
  | succ fuel ih =>
    intro listed a w hI hc
    refine ⟨hdone listed a w hI, fun i hi => ?_⟩
    obtain ⟨o, ho, hi1, hi2, hi3⟩ := ready_get hi
    have hil : i < listed.size := by rw [hI.sz]; exact hi1
    have hcnt : (listed.setIfInBounds i true).toList.count false ≤ fuel := by
      have hf : listed[i] = false := by simpa [Array.getD, hil] using hi2
      have h1 : (listed.setIfInBounds i true).toList = listed.toList.set i true := by simp
      have h2 := List.count_set (a := true) (b := false) (l := listed.toList) (i := i) (h := by simpa using hil)
      rw [h1, h2]
      simp [hf]
      have : false ∈ listed.toList := by rw [← hf]; simp
      have := List.count_pos_iff.2 this
      simp at this hc
      omega
    have hoi : ops.toList[i]? = some o := by simpa using ho
    have hoo := okL_get hl hoi
    simp only [okO, Bool.and_eq_true] at hoo
    have hk : ∀ d, (o.looksAt ops).contains d = true → (V.get tbl d).p (a.eval (.tmp d)) w := by
      intro d hd
      have h1 := List.all_eq_true.1 hoo.1.1 d (by simpa using hd)
      simp only [Bool.or_eq_true, Bool.and_eq_true] at h1
      rcases h1 with ⟨h1, _⟩ | h1
      · exact hI.bases d (by simpa using h1)
      · simp only [edge, List.any_eq_true, Bool.and_eq_true, beq_iff_eq] at h1
        obtain ⟨e, he, hbd, hx⟩ := h1
        cases hp : ops[e.on]? with
        | none => rw [hp] at hx; simp at hx
        | some p =>
          rw [hp] at hx
          exact hI.known _ p d hp (hi3 e (by simpa using he) hbd) hx
    unfold wpOp
    rw [ho]
    rcases hs.get hoi a w hI.bel hk with ⟨hw, hwp⟩ | ⟨hw, hv⟩
    · simp only [hw, if_true]
      refine .inl (Oper.wp_mono (fun a' w' h => ?_) hwp)
      obtain ⟨hb, v, rfl, hv⟩ := h
      exact ih _ _ _ (hI.step hok ho hb hv) hcnt
    · simp only [hw]
      exact ih _ _ _ (hI.step hok ho (Below.refl _ _) hv) hcnt

/-- A region that draws its order. -/
theorem wp_region {id : Nat} {l : List Oper} {Q : Exit → Act → World → Prop} {a : Act} {w w0 : World} (bs : List Nat) (tbl : List (Nat × Ent)) (hm : P.follows .mixedOrders = true) (hok : ok bs l.toArray a.tmps.size = true) (hw : Below w0.heap.size w0 w) (hb : ∀ d, d ∈ bs → (V.get tbl d).p (a.eval (.tmp d)) w.drew) (hs : Steps P l.toArray Q tbl w0 l)
    (hd : ∀ a' w', Below w0.heap.size w0 w' → a'.defers = a.defers → (∀ (i : Nat) (o : Oper) (d : Nat), l[i]? = some o → o.dst = some d → (V.get tbl d).p (a'.eval (.tmp d)) w') → Q .normal a' w') : (Code.region id l.toArray true).wp P Q a w := by
  refine wp_region_any hm ?_
  refine wpAny_inv (bs := bs) (tbl := tbl) (w0 := w0) (a0 := a) hok (by simpa using hs) (fun a' w' h1 h2 _ _ h3 => hd a' w' h1 h2 fun i o d ho => h3 i o d (by simpa using ho)) _ _ _ _ ?_ ?_
  · exact ⟨by simp, hw.drew, rfl, rfl, hb, fun _ _ => rfl, fun i o d _ h => by simp [Array.getD] at h⟩
  · simp

/-- Slots written one behind the other. -/
def puts (a : Act) (ds : List Nat) (vs : Nat → Value) : Act := ds.foldl (fun a d => a.put (some d) (vs d)) a
theorem puts_get (vs : Nat → Value) : ∀ (ds : List Nat) (a : Act), (puts a ds vs).defers = a.defers ∧ (puts a ds vs).tmps.size = a.tmps.size ∧ ∀ d, (puts a ds vs).tmps[d]? = if d ∈ ds ∧ d < a.tmps.size then some (vs d) else a.tmps[d]?
  | [], a => ⟨rfl, rfl, fun d => by simp [puts]⟩
  | x :: r, a => by
    obtain ⟨h1, h2, h3⟩ := puts_get vs r (a.put (some x) (vs x))
    have e : puts a (x :: r) vs = puts (a.put (some x) (vs x)) r vs := rfl
    rw [e]
    refine ⟨h1, by rw [h2]; simp [Act.put], fun d => ?_⟩
    rw [h3 d]
    have hs : (a.put (some x) (vs x)).tmps.size = a.tmps.size := by simp [Act.put]
    rw [hs]
    by_cases hr : d ∈ r ∧ d < a.tmps.size
    · rw [if_pos hr, if_pos ⟨List.mem_cons_of_mem _ hr.1, hr.2⟩]
    · rw [if_neg hr]
      by_cases hx : d = x
      · subst hx
        by_cases hl : d < a.tmps.size
        · rw [if_pos ⟨List.mem_cons_self, hl⟩]
          simp [Act.put, hl]
        · rw [if_neg (fun h => hl h.2)]
          simp [Act.put, hl]
      · rw [if_neg (fun h => by
          rcases List.mem_cons.1 h.1 with h' | h'
          · exact hx h'
          · exact hr ⟨h', h.2⟩)]
        simp [Act.put, Array.getElem?_setIfInBounds_ne (fun e => hx e.symm)]
theorem eval_get {a : Act} {d : Nat} (h : d < a.tmps.size) : a.tmps[d]? = some (a.eval (.tmp d)) := by
  simp [Act.eval, Array.getD, h]
theorem act_ext {a b : Act} (h1 : a.tmps = b.tmps) (h2 : a.defers = b.defers) : a = b := by
  cases a; cases b; cases h1; cases h2; rfl

/-- A region that draws its order, where more follows: the frame behind it is the one ahead, but for the slots that it writes. -/
theorem wp_region2 {id : Nat} {l : List Oper} {Q : Exit → Act → World → Prop} {a : Act} {w w0 : World} (ds bs : List Nat) (tbl : List (Nat × Ent)) (hds : l.filterMap (·.dst) = ds) (hm : P.follows .mixedOrders = true) (hok : ok bs l.toArray a.tmps.size = true) (hw : Below w0.heap.size w0 w) (hb : ∀ d, d ∈ bs → (V.get tbl d).p (a.eval (.tmp d)) w.drew) (hs : Steps P l.toArray Q tbl w0 l)
    (hd : ∀ (vs : Nat → Value) w', Below w0.heap.size w0 w' → (∀ (i : Nat) (o : Oper) (d : Nat), l[i]? = some o → o.dst = some d → (V.get tbl d).p (vs d) w') → Q .normal (puts a ds vs) w') : (Code.region id l.toArray true).wp P Q a w := by
  refine wp_region_any hm ?_
  refine wpAny_inv (bs := bs) (tbl := tbl) (w0 := w0) (a0 := a) hok (by simpa using hs) (fun a' w' h1 h2 h4 h5 h3 => ?_) _ _ _ _ ?_ ?_
  · have e : a' = puts a ds (fun d => a'.eval (.tmp d)) := by
      obtain ⟨p1, p2, p3⟩ := puts_get (fun d => a'.eval (.tmp d)) ds a
      refine act_ext (Array.ext_getElem? fun d => ?_) (by rw [h2, p1])
      rw [p3 d]
      by_cases hl : d < a.tmps.size
      · rw [eval_get (by rw [h4]; exact hl), eval_get hl]
        by_cases hd : d ∈ ds
        · rw [if_pos ⟨hd, hl⟩]
        · rw [if_neg (fun h => hd h.1), h5 d]
          simp only [base, List.all_eq_true]
          intro o ho
          have : d ∉ l.filterMap (·.dst) := by rw [hds]; exact hd
          simp only [List.mem_filterMap, not_exists, not_and] at this
          simpa using this o (by simpa using ho)
      · rw [if_neg (fun h => hl h.2), Array.getElem?_eq_none (by omega), Array.getElem?_eq_none (by omega)]
    rw [e]
    exact hd _ w' h1 fun i o d ho => h3 i o d (by simpa using ho)
  · exact ⟨by simp, hw.drew, rfl, rfl, hb, fun _ _ => rfl, fun i o d _ h => by simp [Array.getD] at h⟩
  · simp
end Go.Proofs.Ytlbchdlokimpfaa.V

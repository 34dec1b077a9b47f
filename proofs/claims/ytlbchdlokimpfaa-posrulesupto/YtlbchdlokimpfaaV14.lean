/- A region that draws its order and writes memory of its own: rows that are appended to, a cell that is stored into. What such an operation spoils is given up, what it leaves is shown. -/
import Derived.Test.YtlbchdlokimpfaaV5
namespace Go.Proofs.Ytlbchdlokimpfaa.V
set_option linter.unusedVariables false
open Go.RowKit

/-- Does the i-th operation wait for the j-th? -/
def waits (ops : Array Oper) : Nat → Nat → Nat → Bool
  | 0, _, _ => false
  | n + 1, i, j => match ops[i]? with
    | none => false
    | some o => o.after.toList.any fun e => Region.binds .any e && (e.on == j || waits ops n e.on j)
def Shut (ops : Array Oper) (listed : Array Bool) : Prop := ∀ i o, ops[i]? = some o → listed.getD i false = true → ∀ e ∈ o.after.toList, Region.binds .any e = true → listed.getD e.on false = true
theorem Shut.waits {ops : Array Oper} {listed : Array Bool} (h : Shut ops listed) : ∀ (n i j : Nat), V.waits ops n i j = true → listed.getD i false = true → listed.getD j false = true
  | 0, i, j, hw, _ => by simp [V.waits] at hw
  | n + 1, i, j, hw, hl => by
    unfold V.waits at hw
    cases ho : ops[i]? with
    | none => rw [ho] at hw; simp at hw
    | some o =>
      rw [ho] at hw
      simp only [List.any_eq_true, Bool.and_eq_true, Bool.or_eq_true, beq_iff_eq] at hw
      obtain ⟨e, he, hb, h1⟩ := hw
      have h2 := h i o ho hl e he hb
      rcases h1 with h1 | h1
      · rw [← h1]; exact h2
      · exact Shut.waits h n e.on j h1 h2

/-- What an operation spoils. -/
def dead (D : List (Nat × List Nat)) (j : Nat) : List Nat := (D.find? fun p => p.1 == j).elim [] (·.2)
/-- No operation looks at what another one spoils, but one that comes ahead. -/
def okD (D : List (Nat × List Nat)) (ops : Array Oper) : Bool := (List.range ops.size).all fun j => (List.range ops.size).all fun i => i == j || waits ops ops.size j i || match ops[i]? with | none => true | some o => (o.looksAt ops).all fun d => !(dead D j).contains d
/-- What may be known when the j-th operation comes up. -/
def alive (D : List (Nat × List Nat)) (ops : Array Oper) (j : Nat) : List Nat := (List.range ops.size).filterMap fun i => match ops[i]? with | none => none | some o => if i == j || waits ops ops.size i j then none else match o.dst with | none => none | some d => if (dead D j).contains d then none else some d

variable {P : Program}

/-- An operation that writes memory of the region's own. -/
def Touch (P : Program) (ops : Array Oper) (Q : Exit → Act → World → Prop) (tbl : List (Nat × Ent)) (bs al : List Nat) (w0 : World) (X : Act → World → Prop) (jx j : Nat) (o : Oper) : Prop :=
  ∀ (a : Act) (w : World), Below w0.heap.size w0 w → (∀ d, (o.looksAt ops).contains d = true → (get tbl d).p (a.eval (.tmp d)) w) →
    o.guard = none ∧ o.wp P a w (fun a' w' => Below w0.heap.size w w' ∧ (∃ v, a' = a.put o.dst v ∧ ∀ d, o.dst = some d → (get tbl d).p v w') ∧ (∀ d, d ∈ bs ∨ d ∈ al → ∀ v, (get tbl d).p v w → (get tbl d).p v w') ∧ (j = jx → X a' w')) Q

structure InvD (ops : Array Oper) (bs : List Nat) (D : List (Nat × List Nat)) (tbl : List (Nat × Ent)) (X : Act → World → Prop) (jx : Nat) (w0 : World) (a0 : Act) (listed : Array Bool) (a : Act) (w : World) : Prop where
  sz : listed.size = ops.size
  bel : Below w0.heap.size w0 w
  defers : a.defers = a0.defers
  tsize : a.tmps.size = a0.tmps.size
  bases : ∀ d, d ∈ bs → (V.get tbl d).p (a.eval (.tmp d)) w
  others : ∀ d, V.base ops d = true → a.eval (.tmp d) = a0.eval (.tmp d)
  closed : Shut ops listed
  known : ∀ i o d, ops[i]? = some o → listed.getD i false = true → o.dst = some d → (∀ j, listed.getD j false = true → d ∉ dead D j) → (V.get tbl d).p (a.eval (.tmp d)) w
  extra : listed.getD jx false = true → X a w

theorem getD_set (listed : Array Bool) (i j : Nat) : (listed.setIfInBounds i true).getD j false = true ↔ listed.getD j false = true ∨ (i = j ∧ i < listed.size) := by
  by_cases hij : i = j
  · subst hij
    by_cases hi : i < listed.size
    · simp [Array.getD, hi]
    · simp [Array.getD, hi]
  · simp [Array.getD_eq_getD_getElem?, Array.getElem?_setIfInBounds_ne hij, hij]

theorem Shut.set {ops : Array Oper} {listed : Array Bool} (h : Shut ops listed) {i : Nat} {o : Oper} (ho : ops[i]? = some o) (hr : ∀ e ∈ o.after, Region.binds .any e = true → listed.getD e.on false = true) : Shut ops (listed.setIfInBounds i true) := by
  intro k p hp hk e he hb
  rw [getD_set] at hk ⊢
  rcases hk with hk | ⟨rfl, _⟩
  · exact .inl (h k p hp hk e he hb)
  · rw [ho] at hp
    obtain rfl := Option.some.inj hp
    exact .inl (hr e (by simpa using he) hb)

/-- One operation more, whatever it is. -/
theorem InvD.step {ops : Array Oper} {bs : List Nat} {D : List (Nat × List Nat)} {tbl : List (Nat × Ent)} {X : Act → World → Prop} {jx : Nat} {w0 w w' : World} {a0 a : Act} {listed : Array Bool} (hok : ok bs ops a0.tmps.size = true) (h : InvD ops bs D tbl X jx w0 a0 listed a w) {i : Nat} {o : Oper} (ho : ops[i]? = some o) (hil : i < listed.size)
    (hr : ∀ e ∈ o.after, Region.binds .any e = true → listed.getD e.on false = true)
    (hb : Below w0.heap.size w w') {v : Value} (hv : ∀ d, o.dst = some d → (V.get tbl d).p v w')
    (hbs : ∀ d, d ∈ bs → ∀ v, (V.get tbl d).p v w → (V.get tbl d).p v w')
    (hkn : ∀ k p d, ops[k]? = some p → listed.getD k false = true → p.dst = some d → d ∉ dead D i → ∀ v, (V.get tbl d).p v w → (V.get tbl d).p v w')
    (hx : (listed.setIfInBounds i true).getD jx false = true → X (a.put o.dst v) w') : InvD ops bs D tbl X jx w0 a0 (listed.setIfInBounds i true) (a.put o.dst v) w' := by
  simp only [ok, Bool.and_eq_true] at hok
  obtain ⟨⟨hnd, hl⟩, hbase⟩ := hok
  have hoi : ops.toList[i]? = some o := by simpa using ho
  have hoo := okL_get hl hoi
  simp only [okO, Bool.and_eq_true] at hoo
  have hdl : ∀ d, o.dst = some d → d < a.tmps.size := fun d hd => by
    have := hoo.2
    rw [hd] at this
    rw [h.tsize]
    simpa using this
  refine ⟨by simp [h.sz], h.bel.trans hb, ?_, ?_, ?_, ?_, h.closed.set ho hr, ?_, hx⟩
  · rw [← h.defers]; cases o.dst <;> rfl
  · rw [← h.tsize]; cases o.dst <;> simp [Act.put]
  · intro d hd
    rw [Act.eval_put (fun x hx e => ?_)]
    · exact hbs d hd _ (h.bases d hd)
    · injection e with e
      subst e
      have h1 := List.all_eq_true.1 hbase d hd
      have h2 := List.all_eq_true.1 h1 o (List.mem_of_getElem? hoi)
      simp [hx] at h2
  · intro d hd
    rw [Act.eval_put (fun x hx e => ?_)]
    · exact h.others d hd
    · injection e with e
      subst e
      have h2 := List.all_eq_true.1 hd o (List.mem_of_getElem? hoi)
      simp [hx] at h2
  · intro j p d hp hlj hpd hdead
    by_cases hij : i = j
    · subst hij
      rw [ho] at hp
      obtain rfl := Option.some.inj hp
      rw [hpd, eval_put_same (hdl d hpd)]
      exact hv d hpd
    · have hlj' : listed.getD j false = true := by
        rcases (getD_set listed i j).1 hlj with h1 | ⟨h1, _⟩
        · exact h1
        · exact absurd h1 hij
      have hd1 : d ∉ dead D i := hdead i ((getD_set listed i i).2 (.inr ⟨rfl, hil⟩))
      rw [Act.eval_put (fun x hx e => ?_)]
      · exact hkn j p d hp hlj' hpd hd1 _ (h.known j p d hp hlj' hpd fun k hk => hdead k ((getD_set listed i k).2 (.inl hk)))
      · injection e with e
        subst e
        exact hij (nodup_uniq hnd hoi (by simpa using hp) hx hpd)

/-- Which operations write: those; all others leave what lies there. -/
def StepsD (P : Program) (ops : Array Oper) (Q : Exit → Act → World → Prop) (tbl : List (Nat × Ent)) (bs : List Nat) (D : List (Nat × List Nat)) (w0 : World) (X : Act → World → Prop) (jx : Nat) : Nat → List Oper → Prop
  | _, [] => True
  | j, o :: r => ((dead D j = [] ∧ j ≠ jx ∧ Step P ops Q tbl w0 o) ∨ ((j = jx ∨ waits ops ops.size jx j = true) ∧ Touch P ops Q tbl bs (alive D ops j) w0 X jx j o)) ∧ StepsD P ops Q tbl bs D w0 X jx (j + 1) r
theorem StepsD.get {ops : Array Oper} {Q : Exit → Act → World → Prop} {tbl : List (Nat × Ent)} {bs : List Nat} {D : List (Nat × List Nat)} {w0 : World} {X : Act → World → Prop} {jx : Nat} : ∀ {l : List Oper} {k i : Nat} {o : Oper}, StepsD P ops Q tbl bs D w0 X jx k l → l[i]? = some o → ((dead D (k + i) = [] ∧ k + i ≠ jx ∧ Step P ops Q tbl w0 o) ∨ ((k + i = jx ∨ waits ops ops.size jx (k + i) = true) ∧ Touch P ops Q tbl bs (alive D ops (k + i)) w0 X jx (k + i) o))
  | [], _, _, _, _, h => by simp at h
  | x :: r, k, 0, o, h, ho => by simp at ho; subst ho; exact h.1
  | x :: r, k, i + 1, o, h, ho => by
    simp at ho
    have := StepsD.get h.2 ho
    rwa [Nat.add_assoc, Nat.add_comm 1 i] at this

/-- Whatever has come up before an operation is alive there, or spoilt. -/
theorem alive_get {D : List (Nat × List Nat)} {ops : Array Oper} {listed : Array Bool} (hc : Shut ops listed) {j : Nat} (hj : listed.getD j false = false) {k : Nat} {p : Oper} {d : Nat} (hp : ops[k]? = some p) (hk : listed.getD k false = true) (hd : p.dst = some d) (hn : d ∉ dead D j) : d ∈ alive D ops j := by
  have hks : k < ops.size := by
    rcases Nat.lt_or_ge k ops.size with h | h
    · exact h
    · simp [h] at hp
  refine List.mem_filterMap.2 ⟨k, List.mem_range.2 hks, ?_⟩
  rw [hp]
  have h1 : (k == j) = false := by
    rw [beq_eq_false_iff_ne]; intro e; rw [e, hj] at hk; exact absurd hk (by simp)
  have h2 : waits ops ops.size k j = false := by
    cases hw : waits ops ops.size k j with
    | false => rfl
    | true => have := hc.waits _ _ _ hw hk; rw [hj] at this; exact absurd this (by simp)
  simp [h1, h2, hd, hn]

theorem wpAny_invD {ops : Array Oper} {bs : List Nat} {D : List (Nat × List Nat)} {tbl : List (Nat × Ent)} {X : Act → World → Prop} {jx : Nat} {w0 : World} {a0 : Act} {Q : Exit → Act → World → Prop} (hok : ok bs ops a0.tmps.size = true) (hokD : okD D ops = true) (hs : StepsD P ops Q tbl bs D w0 X jx 0 ops.toList)
    (hX : ∀ (i : Nat) (o : Oper), ops[i]? = some o → waits ops ops.size jx i = false → i ≠ jx → ∀ a w w' v, X a w → Below w.heap.size w w' → X (a.put o.dst v) w')
    (hd : ∀ a w, Below w0.heap.size w0 w → a.defers = a0.defers → a.tmps.size = a0.tmps.size → (∀ d, V.base ops d = true → a.eval (.tmp d) = a0.eval (.tmp d)) → (∀ (i : Nat) (o : Oper) (d : Nat), ops[i]? = some o → o.dst = some d → (∀ j, j < ops.size → d ∉ dead D j) → (V.get tbl d).p (a.eval (.tmp d)) w) → (jx < ops.size → X a w) → Q .normal a w) :
    ∀ (fuel : Nat) (listed : Array Bool) (a : Act) (w : World), InvD ops bs D tbl X jx w0 a0 listed a w → listed.toList.count false ≤ fuel → wpAny P .any ops Q fuel listed a w := by
  have hok' := hok
  simp only [ok, Bool.and_eq_true] at hok'
  obtain ⟨⟨hnd, hl⟩, hbase⟩ := hok'
  have hsize : ∀ (listed : Array Bool) j, listed.size = ops.size → listed.getD j false = true → j < ops.size := fun listed j hsz h => by
    rcases Nat.lt_or_ge j ops.size with h1 | h1
    · exact h1
    · have h2 : ¬ j < listed.size := by omega
      simp [Array.getD, h2] at h
  have hdone : ∀ listed a w, InvD ops bs D tbl X jx w0 a0 listed a w → Region.ready .any ops listed = [] → Q .normal a w := fun listed a w hI hr => by
    have hall := all_listed hl hI.sz hr
    refine hd a w hI.bel hI.defers hI.tsize hI.others (fun i o d ho hod hnd => ?_) (fun hjx => hI.extra (hall jx hjx))
    refine hI.known i o d ho (hall i ?_) hod (fun j hj => hnd j (hsize listed j hI.sz hj))
    rcases Nat.lt_or_ge i ops.size with h | h
    · exact h
    · simp [h] at ho
  intro fuel
  induction fuel with
  | zero =>
    intro listed a w hI hc
    have hr : Region.ready .any ops listed = [] := by
      apply List.filter_eq_nil_iff.2
      intro i hi
      have hi' : i < listed.size := by rw [hI.sz]; simpa using hi
      have h1 : listed[i] = true := by
        cases hx : listed[i] with
        | true => rfl
        | false =>
          have : false ∈ listed.toList := by rw [← hx]; simp
          have := List.count_pos_iff.2 this
          omega
      simp [Array.getD, hi', h1]
    exact ⟨hr, hdone listed a w hI hr⟩
  | succ fuel ih =>
    intro listed a w hI hc
    refine ⟨hdone listed a w hI, fun i hi => ?_⟩
    obtain ⟨o, ho, hi1, hi2, hi3⟩ := ready_get hi
    have hil : i < listed.size := by rw [hI.sz]; exact hi1
    have hif : listed.getD i false = false := by
      have hf : listed[i] = false := by simpa [Array.getD, hil] using hi2
      simp [Array.getD, hil, hf]
    have hcnt : (listed.setIfInBounds i true).toList.count false ≤ fuel := by
      have hf : listed[i] = false := by simpa [Array.getD, hil] using hi2
      have h1 : (listed.setIfInBounds i true).toList = listed.toList.set i true := by simp
      have h2 := List.count_set (a := true) (b := false) (l := listed.toList) (i := i) (h := by simpa using hil)
      rw [h1, h2]
      simp [hf]
      have : false ∈ listed.toList := by rw [← hf]; simp
      have := List.count_pos_iff.2 this
      simp at this hc
      omega
    have hoi : ops.toList[i]? = some o := by simpa using ho
    have hoo := okL_get hl hoi
    simp only [okO, Bool.and_eq_true] at hoo
    have hnotdead : ∀ d, (o.looksAt ops).contains d = true → ∀ j, listed.getD j false = true → d ∉ dead D j := by
      intro d hd j hj hdd
      have hjs := hsize listed j hI.sz hj
      have h1 := List.all_eq_true.1 hokD j (List.mem_range.2 hjs)
      have h2 := List.all_eq_true.1 h1 i (List.mem_range.2 hi1)
      have hne : (i == j) = false := by
        rw [beq_eq_false_iff_ne]; intro e; rw [← e, hif] at hj; exact absurd hj (by simp)
      have hwt : waits ops ops.size j i = false := by
        cases hw : waits ops ops.size j i with
        | false => rfl
        | true => have := hI.closed.waits _ _ _ hw hj; rw [hif] at this; exact absurd this (by simp)
      rw [hne, hwt, ho] at h2
      simp only [Bool.false_or] at h2
      have h3 := List.all_eq_true.1 h2 d (by simpa using hd)
      simp at h3
      exact h3 hdd
    have hk : ∀ d, (o.looksAt ops).contains d = true → (V.get tbl d).p (a.eval (.tmp d)) w := by
      intro d hd
      have h1 := List.all_eq_true.1 hoo.1.1 d (by simpa using hd)
      simp only [Bool.or_eq_true, Bool.and_eq_true] at h1
      rcases h1 with ⟨h1, _⟩ | h1
      · exact hI.bases d (by simpa using h1)
      · simp only [edge, List.any_eq_true, Bool.and_eq_true, beq_iff_eq] at h1
        obtain ⟨e, he, hbd, hx⟩ := h1
        cases hp : ops[e.on]? with
        | none => rw [hp] at hx; simp at hx
        | some p =>
          rw [hp] at hx
          exact hI.known _ p d hp (hi3 e (by simpa using he) hbd) hx (hnotdead d hd)
    unfold wpOp
    rw [ho]
    have hstep := hs.get hoi
    rw [Nat.zero_add] at hstep
    have hxput : ∀ v w', i ≠ jx → Below w.heap.size w w' → (listed.setIfInBounds i true).getD jx false = true → X (a.put o.dst v) w' := by
      intro v w' hne hb hx
      have hjl : listed.getD jx false = true := by
        rcases (getD_set listed i jx).1 hx with h1 | ⟨h1, _⟩
        · exact h1
        · exact absurd h1 hne
      have hwt : waits ops ops.size jx i = false := by
        cases hw : waits ops ops.size jx i with
        | false => rfl
        | true => have := hI.closed.waits _ _ _ hw hjl; rw [hif] at this; exact absurd this (by simp)
      exact hX i o ho hwt hne a w w' v (hI.extra hjl) hb
    rcases hstep with ⟨hdz, hne, hst⟩ | ⟨hjj, hto⟩
    · rcases hst a w hI.bel hk with ⟨hw, hwp⟩ | ⟨hw, hv⟩
      · simp only [hw, if_true]
        refine .inl (Oper.wp_mono (fun a' w' h => ?_) hwp)
        obtain ⟨hb, v, rfl, hv⟩ := h
        exact ih _ _ _ (hI.step hok ho hil hi3 (hb.mono hI.bel.size) hv (fun d _ v hp => (V.get tbl d).mono hb hp) (fun _ _ d _ _ _ _ v hp => (V.get tbl d).mono hb hp) (hxput v w' hne hb)) hcnt
      · simp only [hw]
        exact ih _ _ _ (hI.step hok ho hil hi3 (Below.refl _ _) hv (fun _ _ _ hp => hp) (fun _ _ _ _ _ _ _ _ hp => hp) (hxput undef w hne (Below.refl _ _))) hcnt
    · obtain ⟨hg, hwp⟩ := hto a w hI.bel hk
      have hw : Region.wanted o (yielded ops a.tmps) = true := by simp [Region.wanted, hg]
      simp only [hw, if_true]
      refine .inl (Oper.wp_mono (fun a' w' h => ?_) hwp)
      obtain ⟨hb, ⟨v, rfl, hv⟩, hfr, hxx⟩ := h
      refine ih _ _ _ (hI.step hok ho hil hi3 hb hv (fun d hd v hp => hfr d (.inl hd) v hp) (fun k p d hp hkl hpd hnd v hpv => hfr d (.inr (alive_get hI.closed hif hp hkl hpd hnd)) v hpv) (fun hx => ?_)) hcnt
      rcases hjj with hjj | hjj
      · exact hxx hjj
      · rcases (getD_set listed i jx).1 hx with h1 | ⟨h1, _⟩
        · have := hI.closed.waits _ _ _ hjj h1; rw [hif] at this; exact absurd this (by simp)
        · exact hxx h1

/-- A region that draws its order and writes memory of its own; more follows. -/
theorem wp_region_dead {id : Nat} {l : List Oper} {Q : Exit → Act → World → Prop} {a : Act} {w w0 : World} (ds bs : List Nat) (D : List (Nat × List Nat)) (tbl : List (Nat × Ent)) (X : Act → World → Prop) (jx : Nat) (hds : l.filterMap (·.dst) = ds) (hm : P.follows .mixedOrders = true) (hok : ok bs l.toArray a.tmps.size = true) (hokD : okD D l.toArray = true) (hw : Below w0.heap.size w0 w) (hb : ∀ d, d ∈ bs → (V.get tbl d).p (a.eval (.tmp d)) w.drew) (hs : StepsD P l.toArray Q tbl bs D w0 X jx 0 l)
    (hX : ∀ (i : Nat) (o : Oper), l[i]? = some o → waits l.toArray l.length jx i = false → i ≠ jx → ∀ a w w' v, X a w → Below w.heap.size w w' → X (a.put o.dst v) w')
    (hd : ∀ (vs : Nat → Value) w', Below w0.heap.size w0 w' → (∀ (i : Nat) (o : Oper) (d : Nat), l[i]? = some o → o.dst = some d → (∀ j, j < l.length → d ∉ dead D j) → (V.get tbl d).p (vs d) w') → (jx < l.length → X (puts a ds vs) w') → Q .normal (puts a ds vs) w') : (Code.region id l.toArray true).wp P Q a w := by
  refine wp_region_any hm ?_
  refine wpAny_invD (bs := bs) (D := D) (tbl := tbl) (X := X) (jx := jx) (w0 := w0) (a0 := a) hok hokD (by simpa using hs) (fun i o ho hwt => hX i o (by simpa using ho) (by simpa using hwt)) (fun a' w' h1 h2 h4 h5 h3 h6 => ?_) _ _ _ _ ?_ ?_
  · have e : a' = puts a ds (fun d => a'.eval (.tmp d)) := by
      obtain ⟨p1, p2, p3⟩ := puts_get (fun d => a'.eval (.tmp d)) ds a
      refine act_ext (Array.ext_getElem? fun d => ?_) (by rw [h2, p1])
      rw [p3 d]
      by_cases hl : d < a.tmps.size
      · rw [eval_get (by rw [h4]; exact hl), eval_get hl]
        by_cases hd : d ∈ ds
        · rw [if_pos ⟨hd, hl⟩]
        · rw [if_neg (fun h => hd h.1), h5 d]
          simp only [base, List.all_eq_true]
          intro o ho
          have : d ∉ l.filterMap (·.dst) := by rw [hds]; exact hd
          simp only [List.mem_filterMap, not_exists, not_and] at this
          simpa using this o (by simpa using ho)
      · rw [if_neg (fun h => hl h.2), Array.getElem?_eq_none (by omega), Array.getElem?_eq_none (by omega)]
    have h6' : jx < l.length → X (puts a ds fun d => a'.eval (.tmp d)) w' := fun h => by rw [← e]; exact h6 (by simpa using h)
    rw [e]
    exact hd _ w' h1 (fun i o d ho hod hnd => h3 i o d (by simpa using ho) hod (fun j hj => hnd j (by simpa using hj))) h6'
  · exact ⟨by simp, hw.drew, rfl, rfl, hb, fun _ _ => rfl, fun i o _ h => by simp [Array.getD] at h, fun i o d _ h => by simp [Array.getD] at h, fun h => by simp [Array.getD] at h⟩
  · simp
theorem mem_alive {D : List (Nat × List Nat)} {ops : Array Oper} {j d : Nat} (L : List Nat) (h : d ∈ alive D ops j) (e : (alive D ops j == L) = true) : d ∈ L := by
  rw [beq_iff_eq] at e; rwa [e] at h
end Go.Proofs.Ytlbchdlokimpfaa.V

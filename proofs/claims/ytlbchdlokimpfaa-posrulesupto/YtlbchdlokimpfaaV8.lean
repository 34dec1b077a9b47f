/- A region that draws its order and ends with one operation that waits for all the others (a store). -/
import Derived.Test.YtlbchdlokimpfaaV5
namespace Go.Proofs.Ytlbchdlokimpfaa.V
set_option linter.unusedVariables false
open Go.RowKit
variable {P : Program}

/-- The last operation waits for each other one. -/
def lastWaits (pre : List Oper) (s : Oper) : Bool := s.dst == none && (List.range pre.length).all fun i => s.after.toList.any fun e => Region.binds .any e && e.on == i

theorem wpAny_all {ops : Array Oper} {Q : Exit → Act → World → Prop} {listed : Array Bool} {a : Act} {w : World} (h : ∀ i, i < ops.size → listed.getD i false = true) (hq : Q .normal a w) : ∀ fuel, wpAny P .any ops Q fuel listed a w := by
  have hr : Region.ready .any ops listed = [] := by
    apply List.filter_eq_nil_iff.2
    intro i hi
    have hi' : i < ops.size := by simpa using hi
    have h1 := h i hi'
    have h2 : listed.getD i true = true := by
      simp only [Array.getD] at h1 ⊢
      split at h1 <;> simp_all
    simp [h2]
  intro fuel
  cases fuel with
  | zero => exact ⟨hr, hq⟩
  | succ fuel =>
    refine ⟨fun _ => hq, fun i hi => ?_⟩
    rw [hr] at hi
    simp at hi

theorem wpAny_last {pre : List Oper} {s : Oper} {ops : Array Oper} (hops : ops = (pre ++ [s]).toArray) {bs : List Nat} {tbl : List (Nat × Ent)} {w0 : World} {a0 : Act} {Q : Exit → Act → World → Prop} (hok : ok bs ops a0.tmps.size = true) (hlast : lastWaits pre s = true) (hs : Steps P ops Q tbl w0 pre)
    (hd : ∀ a w, Below w0.heap.size w0 w → a.defers = a0.defers → a.tmps.size = a0.tmps.size → (∀ d, V.base ops d = true → a.eval (.tmp d) = a0.eval (.tmp d)) → (∀ (i : Nat) (o : Oper) (d : Nat), ops[i]? = some o → o.dst = some d → (V.get tbl d).p (a.eval (.tmp d)) w) → Region.wanted s (yielded ops a.tmps) = true ∧ s.wp P a w (fun a' w' => Q .normal a' w') Q) :
    ∀ (fuel : Nat) (listed : Array Bool) (a : Act) (w : World), Inv ops bs tbl w0 a0 listed a w → listed.getD pre.length false = false → listed.toList.count false ≤ fuel → wpAny P .any ops Q fuel listed a w := by
  have hok' := hok
  simp only [ok, Bool.and_eq_true] at hok'
  obtain ⟨⟨hnd, hl⟩, hbase⟩ := hok'
  have hsz : ops.size = pre.length + 1 := by rw [hops]; simp
  have hsl : ops[pre.length]? = some s := by rw [hops]; simp
  simp only [lastWaits, Bool.and_eq_true, beq_iff_eq] at hlast
  obtain ⟨hsd, hlast⟩ := hlast
  intro fuel
  induction fuel with
  | zero =>
    intro listed a w hI hn hc
    exfalso
    have hlt : pre.length < listed.size := by rw [hI.sz, hsz]; omega
    have h1 : listed[pre.length] = false := by simpa [Array.getD, hlt] using hn
    have : false ∈ listed.toList := by rw [← h1]; simp
    have := List.count_pos_iff.2 this
    omega
  | succ fuel ih =>
    intro listed a w hI hn hc
    have hlt : pre.length < listed.size := by rw [hI.sz, hsz]; omega
    refine ⟨fun hr => ?_, fun i hi => ?_⟩
    · exfalso
      have := all_listed hl hI.sz hr pre.length (by rw [hsz]; omega)
      rw [this] at hn
      exact absurd hn (by simp)
    · obtain ⟨o, ho, hi1, hi2, hi3⟩ := ready_get hi
      have hil : i < listed.size := by rw [hI.sz]; exact hi1
      by_cases hip : i = pre.length
      · -- the last one: all others are listed
        subst hip
        rw [hsl] at ho
        obtain rfl := Option.some.inj ho
        have hall : ∀ j, j < pre.length → listed.getD j false = true := by
          intro j hj
          have h1 := List.all_eq_true.1 hlast j (by simpa using hj)
          obtain ⟨e, he, h2⟩ := List.any_eq_true.1 h1
          simp only [Bool.and_eq_true, beq_iff_eq] at h2
          have h3 := hi3 e (by simpa using he) h2.1
          rw [h2.2] at h3
          exact h3
        have hfacts := hd a w hI.bel hI.defers hI.tsize hI.others (fun j p d hp hpd => by
          by_cases hj : j < pre.length
          · exact hI.known j p d hp (hall j hj) hpd
          · have hj2 : j = pre.length := by
              rcases Nat.lt_or_ge j ops.size with h | h
              · omega
              · simp [h] at hp
            subst hj2
            rw [hsl] at hp
            obtain rfl := Option.some.inj hp
            rw [hsd] at hpd
            cases hpd)
        unfold wpOp
        rw [hsl]
        simp only [hfacts.1, if_true]
        refine .inl (Oper.wp_mono (fun a' w' h => ?_) hfacts.2)
        refine wpAny_all (fun j hj => ?_) h fuel
        by_cases hjp : j = pre.length
        · subst hjp; simp [Array.getD, hlt]
        · have h1 := hall j (by omega)
          simpa [Array.getD_eq_getD_getElem?, Array.getElem?_setIfInBounds_ne (fun e => hjp e.symm)] using h1
      · have hcnt : (listed.setIfInBounds i true).toList.count false ≤ fuel := by
          have hf : listed[i] = false := by simpa [Array.getD, hil] using hi2
          have h1 : (listed.setIfInBounds i true).toList = listed.toList.set i true := by simp
          have h2 := List.count_set (a := true) (b := false) (l := listed.toList) (i := i) (h := by simpa using hil)
          rw [h1, h2]
          simp [hf]
          have : false ∈ listed.toList := by rw [← hf]; simp
          have := List.count_pos_iff.2 this
          simp at this hc
          omega
        have hoi : ops.toList[i]? = some o := by simpa using ho
        have hpi : pre[i]? = some o := by
          rw [hops] at ho
          simp only [List.getElem?_toArray] at ho
          rwa [List.getElem?_append_left (by omega)] at ho
        have hoo := okL_get hl hoi
        simp only [okO, Bool.and_eq_true] at hoo
        have hk : ∀ d, (o.looksAt ops).contains d = true → (V.get tbl d).p (a.eval (.tmp d)) w := by
          intro d hd
          have h1 := List.all_eq_true.1 hoo.1.1 d (by simpa using hd)
          simp only [Bool.or_eq_true, Bool.and_eq_true] at h1
          rcases h1 with ⟨h1, _⟩ | h1
          · exact hI.bases d (by simpa using h1)
          · simp only [edge, List.any_eq_true, Bool.and_eq_true, beq_iff_eq] at h1
            obtain ⟨e, he, hbd, hx⟩ := h1
            cases hp : ops[e.on]? with
            | none => rw [hp] at hx; simp at hx
            | some p =>
              rw [hp] at hx
              exact hI.known _ p d hp (hi3 e (by simpa using he) hbd) hx
        have hn' : (listed.setIfInBounds i true).getD pre.length false = false := by
          simpa [Array.getD_eq_getD_getElem?, Array.getElem?_setIfInBounds_ne hip] using hn
        unfold wpOp
        rw [ho]
        rcases hs.get hpi a w hI.bel hk with ⟨hw, hwp⟩ | ⟨hw, hv⟩
        · simp only [hw, if_true]
          refine .inl (Oper.wp_mono (fun a' w' h => ?_) hwp)
          obtain ⟨hb, v, rfl, hv⟩ := h
          exact ih _ _ _ (hI.step hok ho hb hv) hn' hcnt
        · simp only [hw]
          exact ih _ _ _ (hI.step hok ho (Below.refl _ _) hv) hn' hcnt

/-- A region that draws its order, and stores in the end: the frame behind it is the one ahead, but for the slots that it writes. -/
theorem wp_region_st {id : Nat} {pre : List Oper} {s : Oper} {Q : Exit → Act → World → Prop} {a : Act} {w w0 : World} (ds bs : List Nat) (tbl : List (Nat × Ent)) (hds : pre.filterMap (·.dst) = ds) (hm : P.follows .mixedOrders = true) (hok : ok bs (pre ++ [s]).toArray a.tmps.size = true) (hlast : lastWaits pre s = true) (hg : s.guard = none) (hw : Below w0.heap.size w0 w) (hb : ∀ d, d ∈ bs → (V.get tbl d).p (a.eval (.tmp d)) w.drew) (hs : Steps P (pre ++ [s]).toArray Q tbl w0 pre)
    (hd : ∀ (vs : Nat → Value) w', Below w0.heap.size w0 w' → (∀ (i : Nat) (o : Oper) (d : Nat), pre[i]? = some o → o.dst = some d → (V.get tbl d).p (vs d) w') → s.wp P (puts a ds vs) w' (fun a' w'' => Q .normal a' w'') Q) : (Code.region id (pre ++ [s]).toArray true).wp P Q a w := by
  have hsd : s.dst = none := by
    simp only [lastWaits, Bool.and_eq_true, beq_iff_eq] at hlast
    exact hlast.1
  refine wp_region_any hm ?_
  refine wpAny_last (pre := pre) (s := s) rfl (bs := bs) (tbl := tbl) (w0 := w0) (a0 := a) hok hlast hs (fun a' w' h1 h2 h4 h5 h3 => ⟨by simp [Region.wanted, hg], ?_⟩) _ _ _ _ ?_ ?_ ?_
  · have e : a' = puts a ds (fun d => a'.eval (.tmp d)) := by
      obtain ⟨p1, p2, p3⟩ := puts_get (fun d => a'.eval (.tmp d)) ds a
      refine act_ext (Array.ext_getElem? fun d => ?_) (by rw [h2, p1])
      rw [p3 d]
      by_cases hl : d < a.tmps.size
      · rw [eval_get (by rw [h4]; exact hl), eval_get hl]
        by_cases hd : d ∈ ds
        · rw [if_pos ⟨hd, hl⟩]
        · rw [if_neg (fun h => hd h.1), h5 d]
          simp only [base, List.all_eq_true]
          intro o ho
          have : d ∉ pre.filterMap (·.dst) := by rw [hds]; exact hd
          simp only [List.mem_filterMap, not_exists, not_and] at this
          simp only [List.mem_append, List.mem_singleton] at ho
          rcases ho with ho | rfl
          · simpa using this o ho
          · simp [hsd]
      · rw [if_neg (fun h => hl h.2), Array.getElem?_eq_none (by omega), Array.getElem?_eq_none (by omega)]
    have := hd (fun d => a'.eval (.tmp d)) w' h1 fun i o d ho => h3 i o d (by
      have hi := (List.getElem?_eq_some_iff.1 ho).1
      simp only [List.getElem?_toArray]
      rw [List.getElem?_append_left hi]; exact ho)
    rw [← e] at this
    exact this
  · exact ⟨by simp, hw.drew, rfl, rfl, hb, fun _ _ => rfl, fun i o d _ h => by simp [Array.getD] at h⟩
  · simp [Array.getD]
  · simp
theorem wp_region_st2 {id : Nat} {l : List Oper} {s : Oper} {Q : Exit → Act → World → Prop} {a : Act} {w w0 : World} (ds bs : List Nat) (tbl : List (Nat × Ent)) (hsl : l.getLast? = some s) (hds : l.dropLast.filterMap (·.dst) = ds) (hm : P.follows .mixedOrders = true) (hok : ok bs l.toArray a.tmps.size = true) (hlast : lastWaits l.dropLast s = true) (hg : s.guard = none) (hw : Below w0.heap.size w0 w) (hb : ∀ d, d ∈ bs → (V.get tbl d).p (a.eval (.tmp d)) w.drew) (hs : Steps P l.toArray Q tbl w0 l.dropLast)
    (hd : ∀ (vs : Nat → Value) w', Below w0.heap.size w0 w' → (∀ (i : Nat) (o : Oper) (d : Nat), l.dropLast[i]? = some o → o.dst = some d → (V.get tbl d).p (vs d) w') → s.wp P (puts a ds vs) w' (fun a' w'' => Q .normal a' w'') Q) : (Code.region id l.toArray true).wp P Q a w := by
  have hl : l = l.dropLast ++ [s] := by
    have hne : l ≠ [] := by rintro rfl; simp at hsl
    rw [List.getLast?_eq_some_getLast hne] at hsl
    rw [← Option.some.inj hsl, List.dropLast_concat_getLast]
  have key := wp_region_st (P := P) (id := id) (pre := l.dropLast) (s := s) (Q := Q) (a := a) (w := w) (w0 := w0) ds bs tbl hds hm (by rw [← hl]; exact hok) hlast hg hw hb (by rw [← hl]; exact hs) hd
  rwa [← hl] at key
/-- A byte of a row, stored. -/
theorem wp_store_u8 {o : Oper} {a : Act} {w : World} {K : Act → World → Prop} {Q : Exit → Act → World → Prop} (x y : Operand) (ho : o.op = .store 5 x y) (g i : Nat) (n m : Int) (hx : a.eval x = .pointer (some ⟨g, i, none⟩)) (hy : a.eval y = .int .u8 n) (hc : w.cell? ⟨g, i, none⟩ = some (.int .u8 m)) (hf : w.frozen? ⟨g, i, none⟩ = false) (hd : o.dst = none)
    (h : K a (w.setCell ⟨g, i, none⟩ (.int .u8 n))) : o.wp Try.prog a w K Q := by
  unfold Oper.wp execOp
  simp only [ho, hx, hy]
  simp [go_sem, hc, hf, hd, Act.put]
  exact h
theorem puts_eval {a : Act} {ds : List Nat} {vs : Nat → Value} {d : Nat} (h : d ∈ ds) (hl : d < a.tmps.size) : (puts a ds vs).eval (.tmp d) = vs d := by
  obtain ⟨_, p2, p3⟩ := puts_get vs ds a
  have := p3 d
  rw [if_pos ⟨h, hl⟩] at this
  simp [Act.eval, this]
/-- A region that draws its order, and stores a byte in the end. -/
theorem wp_region_byte {id : Nat} {l : List Oper} {s : Oper} {Q : Exit → Act → World → Prop} {a : Act} {w w0 : World} (ds bs : List Nat) (tbl : List (Nat × Ent)) (p q g i : Nat) (n m : Int) (hsl : l.getLast? = some s) (hds : l.dropLast.filterMap (·.dst) = ds) (hm : Try.prog.follows .mixedOrders = true) (hok : ok bs l.toArray a.tmps.size = true) (hlast : lastWaits l.dropLast s = true) (hg : s.guard = none) (ho : s.op = .store 5 (.tmp p) (.tmp q))
    (hpq : (ds.contains p && ds.contains q && decide (p < a.tmps.size) && decide (q < a.tmps.size)) = true) (hp : get tbl p = Ent.is (.pointer (some ⟨g, i, none⟩))) (hq : get tbl q = Ent.is (.int .u8 n)) (hgs : g < w0.heap.size) (hc : w0.cell? ⟨g, i, none⟩ = some (.int .u8 m)) (hf : w0.frozen? ⟨g, i, none⟩ = false)
    (hw : Below w0.heap.size w0 w) (hb : ∀ d, d ∈ bs → (V.get tbl d).p (a.eval (.tmp d)) w.drew) (hs : Steps Try.prog l.toArray Q tbl w0 l.dropLast)
    (hd : ∀ (vs : Nat → Value) w', Below w0.heap.size w0 w' → (∀ (i : Nat) (o : Oper) (d : Nat), l.dropLast[i]? = some o → o.dst = some d → (V.get tbl d).p (vs d) w') → Q .normal (puts a ds vs) (w'.setCell ⟨g, i, none⟩ (.int .u8 n))) : (Code.region id l.toArray true).wp Try.prog Q a w := by
  refine wp_region_st2 ds bs tbl hsl hds hm hok hlast hg hw hb hs fun vs w' hbw hk => ?_
  simp only [Bool.and_eq_true, decide_eq_true_eq, List.contains_eq_mem] at hpq
  obtain ⟨⟨⟨m1, m2⟩, m3⟩, m4⟩ := hpq
  have look : ∀ d, d ∈ ds → (V.get tbl d).p (vs d) w' := by
    intro d hd
    rw [← hds] at hd
    obtain ⟨o, ho1, ho2⟩ := List.mem_filterMap.1 hd
    obtain ⟨j, hj⟩ := List.getElem?_of_mem ho1
    exact hk j o d hj ho2
  have e1 := look p m1
  have e2 := look q m2
  rw [hp] at e1
  rw [hq] at e2
  have hsd : s.dst = none := by
    simp only [lastWaits, Bool.and_eq_true, beq_iff_eq] at hlast
    exact hlast.1
  refine wp_store_u8 (.tmp p) (.tmp q) ho g i n m ?_ ?_ ?_ ?_ hsd (hd vs w' hbw hk)
  · rw [puts_eval m1 m3]; exact e1
  · rw [puts_eval m2 m4]; exact e2
  · rw [hbw.cell (p := ⟨g, i, none⟩) hgs]; exact hc
  · have := hbw.block g hgs
    unfold World.frozen? at hf ⊢
    rw [this]; exact hf
end Go.Proofs.Ytlbchdlokimpfaa.V

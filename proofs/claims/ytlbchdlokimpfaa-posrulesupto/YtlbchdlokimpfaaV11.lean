/- A region that draws its order and ends with operations each of which waits for all ahead of it: those come one behind the other. -/
import Derived.Test.YtlbchdlokimpfaaV8
namespace Go.Proofs.Ytlbchdlokimpfaa.V
set_option linter.unusedVariables false
open Go.RowKit
variable {P : Program}

/-- Which operations one waits for, as bits. -/
def maskOf (acc : List Nat) (o : Oper) : Nat := o.after.toList.foldl (fun m e => bif Region.binds .any e then m ||| (acc.getD e.on 0 ||| 2 ^ e.on) else m) 0
def maskAt (l : List Oper) (acc : List Nat) (n : Nat) : Nat := match l[n]? with
  | some o => maskOf acc o
  | none => 0
def masks (l : List Oper) : Nat → List Nat
  | 0 => []
  | n + 1 => (fun acc => acc ++ [maskAt l acc n]) (masks l n)
theorem masks_succ (l : List Oper) (n : Nat) : masks l (n + 1) = masks l n ++ [maskAt l (masks l n) n] := rfl
theorem getD_snoc_lt {a : List Nat} {x i : Nat} (h : i < a.length) : (a ++ [x]).getD i 0 = a.getD i 0 := by simp [List.getD, List.getElem?_append_left h]
theorem getD_snoc_eq {a : List Nat} {x i : Nat} (h : a.length = i) : (a ++ [x]).getD i 0 = x := by subst h; simp [List.getD]
def waitsM (M : List Nat) (k n : Nat) : Bool := (List.range n).all fun m => decide (m < k) || (List.range m).all fun j => (M.getD m 0).testBit j
/-- Each operation from the k-th on waits for all ahead of it. -/
def tailWaits (l : List Oper) (k : Nat) : Bool := waitsM (masks l l.length) k l.length

theorem masks_length (l : List Oper) : ∀ n, (masks l n).length = n
  | 0 => rfl
  | n + 1 => by simp [masks, masks_length l n]
theorem fold_bit (acc : List Nat) (j : Nat) : ∀ (es : List Edge) (m0 : Nat), (es.foldl (fun m e => bif Region.binds .any e then m ||| (acc.getD e.on 0 ||| 2 ^ e.on) else m) m0).testBit j = true → m0.testBit j = true ∨ ∃ e ∈ es, Region.binds .any e = true ∧ ((acc.getD e.on 0).testBit j = true ∨ j = e.on)
  | [], m0, h => .inl h
  | e :: r, m0, h => by
    simp only [List.foldl_cons] at h
    rcases fold_bit acc j r _ h with h1 | ⟨x, hx, h2⟩
    · cases hb : Region.binds .any e with
      | false => rw [hb] at h1; exact .inl h1
      | true =>
        rw [hb] at h1
        simp only [cond_true, Nat.testBit_or, Bool.or_eq_true, Nat.testBit_two_pow, decide_eq_true_eq] at h1
        rcases h1 with h1 | h1 | h1
        · exact .inl h1
        · exact .inr ⟨e, by simp, hb, .inl h1⟩
        · exact .inr ⟨e, by simp, hb, .inr h1.symm⟩
    · exact .inr ⟨x, by simp [hx], h2⟩
def Sat (ops : Array Oper) (listed : Array Bool) (i : Nat) : Prop := ∀ o, ops[i]? = some o → ∀ e ∈ o.after, Region.binds .any e = true → listed.getD e.on false = true
def Closed (ops : Array Oper) (listed : Array Bool) : Prop := ∀ i, listed.getD i false = true → Sat ops listed i
theorem masks_sat {l : List Oper} {listed : Array Bool} (hc : Closed l.toArray listed) : ∀ n i, i < n → ∀ j, Sat l.toArray listed i → ((masks l n).getD i 0).testBit j = true → listed.getD j false = true
  | 0, i, hi, _, _, _ => by omega
  | n + 1, i, hi, j, hs, hj => by
    have hlen := masks_length l n
    rw [masks_succ] at hj
    by_cases hin : i < n
    · rw [getD_snoc_lt (by omega)] at hj
      exact masks_sat hc n i hin j hs hj
    · obtain rfl : i = n := by omega
      rw [getD_snoc_eq hlen] at hj
      unfold maskAt at hj
      cases ho : l[i]? with
      | none => rw [ho] at hj; simp at hj
      | some o =>
        rw [ho] at hj
        have hoa : l.toArray[i]? = some o := by simpa using ho
        rcases fold_bit (masks l i) j o.after.toList 0 hj with h1 | ⟨e, he, hb, h1⟩
        · simp at h1
        · have hle := hs o hoa e (by simpa using he) hb
          rcases h1 with h1 | rfl
          · by_cases hei : e.on < i
            · exact masks_sat hc i e.on hei j (hc e.on hle) h1
            · simp [List.getD, List.getElem?_eq_none (show (masks l i).length ≤ e.on by omega)] at h1
          · exact hle

theorem tail_all {l : List Oper} {k m : Nat} {listed : Array Bool} (ht : tailWaits l k = true) (hc : Closed l.toArray listed) (hm : m < l.length) (hk : k ≤ m) (hs : Sat l.toArray listed m) : ∀ j, j < m → listed.getD j false = true := by
  intro j hj
  simp only [tailWaits, waitsM, List.all_eq_true, List.mem_range, Bool.or_eq_true, decide_eq_true_eq] at ht
  rcases ht m hm with h | h
  · omega
  · exact masks_sat hc l.length m hm j hs (h j hj)

theorem getD_set_same {a : Array Bool} {i : Nat} (h : i < a.size) : (a.setIfInBounds i true).getD i false = true := by simp [Array.getD, h]
theorem getD_set_ne {a : Array Bool} {i j : Nat} (h : i ≠ j) : (a.setIfInBounds i true).getD j false = a.getD j false := by
  simp [Array.getD_eq_getD_getElem?, Array.getElem?_setIfInBounds_ne h]
theorem Closed.step {ops : Array Oper} {listed : Array Bool} {i : Nat} (h : Closed ops listed) (hs : Sat ops listed i) : Closed ops (listed.setIfInBounds i true) := by
  have mono : ∀ k, listed.getD k false = true → (listed.setIfInBounds i true).getD k false = true := by
    intro k hk
    by_cases hik : i = k
    · subst hik
      have : i < listed.size := by
        by_cases hlt : i < listed.size
        · exact hlt
        · simp [Array.getD, hlt] at hk
      exact getD_set_same this
    · rw [getD_set_ne hik]; exact hk
  intro k hk o ho e he hb
  by_cases hik : i = k
  · subst hik; exact mono _ (hs o ho e he hb)
  · rw [getD_set_ne hik] at hk
    exact mono _ (h k hk o ho e he hb)
theorem count_set {listed : Array Bool} {i fuel : Nat} (hil : i < listed.size) (hi2 : listed.getD i true = false) (hc : listed.toList.count false ≤ fuel + 1) : (listed.setIfInBounds i true).toList.count false ≤ fuel := by
  have hf : listed[i] = false := by simpa [Array.getD, hil] using hi2
  have h1 : (listed.setIfInBounds i true).toList = listed.toList.set i true := by simp
  have h2 := List.count_set (a := true) (b := false) (l := listed.toList) (i := i) (h := by simpa using hil)
  rw [h1, h2]
  simp [hf]
  have : false ∈ listed.toList := by rw [← hf]; simp
  have := List.count_pos_iff.2 this
  simp at this hc
  omega

def ordL : Nat → List Oper → Bool
  | _, [] => true
  | i, o :: r => o.after.toList.all (fun e => !Region.binds .any e || decide (e.on < i)) && ordL (i + 1) r
theorem ordL_get : ∀ {l : List Oper} {k i : Nat} {o : Oper}, ordL k l = true → l[i]? = some o → ∀ e ∈ o.after, Region.binds .any e = true → e.on < k + i
  | [], _, _, _, _, h => by simp at h
  | x :: r, k, 0, o, h, ho => by
    simp at ho; subst ho
    simp only [ordL, Bool.and_eq_true, List.all_eq_true] at h
    intro e he hb
    have := h.1 e (by simpa using he)
    simp [hb] at this
    omega
  | x :: r, k, i + 1, o, h, ho => by
    simp at ho
    simp only [ordL, Bool.and_eq_true] at h
    intro e he hb
    have := ordL_get h.2 ho e he hb
    omega
theorem all_listed' {l : List Oper} {listed : Array Bool} (hl : ordL 0 l = true) (hsz : listed.size = l.length) (hr : Region.ready .any l.toArray listed = []) : ∀ i, i < l.length → listed.getD i false = true := by
  intro i
  induction i using Nat.strongRecOn with
  | _ i ih =>
    intro hi
    cases hg : listed.getD i false with
    | true => rfl
    | false =>
      exfalso
      have ho : l.toArray[i]? = some l[i] := by simp [hi]
      have hord := ordL_get hl (i := i) (o := l[i]) (by simp [hi])
      have hin : i ∈ Region.ready .any l.toArray listed := by
        simp only [Region.ready, List.mem_filter, List.mem_range, Bool.and_eq_true]
        refine ⟨by simpa using hi, ?_, ?_⟩
        · have : listed.getD i true = false := by
            have h1 : i < listed.size := by omega
            simp [Array.getD, h1] at hg ⊢
            exact hg
          simp [this]
        · rw [ho]
          simp only [Option.map_some, Option.getD_some]
          rw [Array.all_eq_true]
          intro k hk
          cases hb : Region.binds .any l[i].after[k] with
          | false => rfl
          | true =>
            have he := hord l[i].after[k] (by simp) hb
            have := ih l[i].after[k].on (by omega) (by omega)
            simpa using this
      rw [hr] at hin
      simp at hin

/-- The tail: one behind the other. -/
theorem wpAny_tail {l : List Oper} {k : Nat} {Q : Exit → Act → World → Prop} (hl : ordL 0 l = true) (ht : tailWaits l k = true) :
    ∀ (fuel : Nat) (m : Nat) (listed : Array Bool) (a : Act) (w : World), listed.size = l.length → k ≤ m → m ≤ l.length → Closed l.toArray listed → (∀ j, j < l.length → (listed.getD j false = true ↔ j < m)) → listed.toList.count false ≤ fuel → wpList P l.toArray Q (l.drop m) a w → wpAny P .any l.toArray Q fuel listed a w := by
  intro fuel
  induction fuel with
  | zero =>
    intro m listed a w hsz hk hm hc hls hcnt hw
    have hall : ∀ i, i < l.toArray.size → listed.getD i false = true := by
      intro i hi
      have hi' : i < listed.size := by rw [hsz]; simpa using hi
      cases hx : listed[i] with
      | true => simp [Array.getD, hi', hx]
      | false =>
        have : false ∈ listed.toList := by rw [← hx]; simp
        have := List.count_pos_iff.2 this
        omega
    have hml : m = l.length := by
      rcases Nat.lt_or_ge m l.length with h | h
      · have := (hls m h).1 (hall m (by simpa using h))
        omega
      · omega
    subst hml
    rw [List.drop_length] at hw
    exact wpAny_all hall hw 0
  | succ fuel ih =>
    intro m listed a w hsz hk hm hc hls hcnt hw
    rcases Nat.lt_or_ge m l.length with hml | hml
    · refine ⟨fun hr => ?_, fun i hi => ?_⟩
      · exfalso
        have := all_listed' hl hsz hr m hml
        have := (hls m hml).1 this
        omega
      · obtain ⟨o, ho, hi1, hi2, hi3⟩ := ready_get hi
        have hil : i < l.length := by simpa using hi1
        have hnl : listed.getD i false = false := by
          have hi' : i < listed.size := by omega
          simp [Array.getD, hi'] at hi2 ⊢
          exact hi2
        have hmi : m ≤ i := by
          rcases Nat.lt_or_ge i m with h | h
          · have := (hls i hil).2 h
            rw [this] at hnl; cases hnl
          · exact h
        have hsat : Sat l.toArray listed i := fun o' ho' e he hb => by
          rw [ho] at ho'
          obtain rfl := Option.some.inj ho'
          exact hi3 e he hb
        obtain rfl : i = m := by
          rcases Nat.lt_or_ge m i with h | h
          · have h1 := tail_all ht hc hil (by omega) hsat m h
            have h2 := (hls m hml).1 h1
            omega
          · omega
        have hol : l[i]? = some o := by simpa using ho
        have hdrop : l.drop i = o :: l.drop (i + 1) := by
          rw [List.drop_eq_getElem_cons hil]
          congr 1
          exact (List.getElem?_eq_some_iff.1 hol).2
        rw [hdrop] at hw
        have hnext : ∀ a' w', wpList P l.toArray Q (l.drop (i + 1)) a' w' → wpAny P .any l.toArray Q fuel (listed.setIfInBounds i true) a' w' := by
          intro a' w' h
          refine ih (i + 1) _ a' w' (by simpa using hsz) (by omega) (by omega) (hc.step hsat) (fun j hj => ?_) (count_set (by omega) hi2 hcnt) h
          by_cases hij : i = j
          · subst hij
            rw [getD_set_same (by omega)]
            exact ⟨fun _ => by omega, fun _ => rfl⟩
          · rw [getD_set_ne hij, hls j hj]
            omega
        unfold wpOp
        rw [ho]
        simp only [wpList] at hw
        by_cases hwn : Region.wanted o (yielded l.toArray a.tmps) = true
        · simp only [hwn, if_true] at hw ⊢
          rcases hw with hw | hw
          · exact .inl (Oper.wp_mono hnext hw)
          · exact .inr hw
        · simp only [hwn] at hw ⊢
          exact hnext _ _ hw
    · obtain rfl : m = l.length := by omega
      rw [List.drop_length] at hw
      exact wpAny_all (fun i hi => (hls i (by simpa using hi)).2 (by simpa using hi)) hw _

def baseK (l : List Oper) (k d : Nat) : Bool := (l.take k).all fun p => p.dst != some d
def okF (bs : List Nat) (l : List Oper) (k n : Nat) (o : Oper) : Bool := (o.looksAt l.toArray).all (fun d => (bs.contains d && baseK l k d) || edge l.toArray o d) && o.dst.all (fun d => decide (d < n))
/-- The front's slots are written once; it looks at what lay there, or at what it waits for. -/
def okK (bs : List Nat) (l : List Oper) (k n : Nat) : Bool := nodup ((l.take k).filterMap (·.dst)) && (l.take k).all (okF bs l k n) && bs.all (baseK l k) && ordL 0 l

structure InvK (l : List Oper) (k : Nat) (bs : List Nat) (tbl : List (Nat × Ent)) (w0 : World) (a0 : Act) (listed : Array Bool) (a : Act) (w : World) : Prop where
  sz : listed.size = l.length
  bel : Below w0.heap.size w0 w
  defers : a.defers = a0.defers
  tsize : a.tmps.size = a0.tmps.size
  bases : ∀ d, d ∈ bs → (V.get tbl d).p (a.eval (.tmp d)) w
  others : ∀ d, baseK l k d = true → a.eval (.tmp d) = a0.eval (.tmp d)
  known : ∀ i o d, (l.take k)[i]? = some o → listed.getD i false = true → o.dst = some d → (V.get tbl d).p (a.eval (.tmp d)) w

theorem InvK.step {l : List Oper} {k : Nat} {bs : List Nat} {tbl : List (Nat × Ent)} {w0 w w' : World} {a0 a : Act} {listed : Array Bool} (hok : okK bs l k a0.tmps.size = true) (h : InvK l k bs tbl w0 a0 listed a w) {i : Nat} {o : Oper} (ho : (l.take k)[i]? = some o)
    (hb : Below w.heap.size w w') {v : Value} (hv : ∀ d, o.dst = some d → (V.get tbl d).p v w') : InvK l k bs tbl w0 a0 (listed.setIfInBounds i true) (a.put o.dst v) w' := by
  simp only [okK, Bool.and_eq_true] at hok
  obtain ⟨⟨⟨hnd, hf⟩, hbase⟩, hord⟩ := hok
  have hom := List.mem_of_getElem? ho
  have hoo := List.all_eq_true.1 hf o hom
  simp only [okF, Bool.and_eq_true] at hoo
  have hdl : ∀ d, o.dst = some d → d < a.tmps.size := fun d hd => by
    have := hoo.2
    rw [hd] at this
    rw [h.tsize]
    simpa using this
  have hnb : ∀ d, baseK l k d = true → o.dst ≠ some d := fun d hd e => by
    have h2 := List.all_eq_true.1 hd o hom
    simp [e] at h2
  have hsz := h.bel.size
  refine ⟨by simp [h.sz], h.bel.trans (hb.mono hsz), ?_, ?_, ?_, ?_, ?_⟩
  · rw [← h.defers]; cases o.dst <;> rfl
  · rw [← h.tsize]; cases o.dst <;> simp [Act.put]
  · intro d hd
    rw [Act.eval_put (fun x hx e => ?_)]
    · exact (V.get tbl d).mono hb (h.bases d hd)
    · injection e with e
      subst e
      exact hnb _ (List.all_eq_true.1 hbase _ hd) hx
  · intro d hd
    rw [Act.eval_put (fun x hx e => ?_)]
    · exact h.others d hd
    · injection e with e
      subst e
      exact hnb _ hd hx
  · intro j p d hp hlj hpd
    by_cases hij : i = j
    · subst hij
      rw [ho] at hp
      obtain rfl := Option.some.inj hp
      rw [hpd, eval_put_same (hdl d hpd)]
      exact hv d hpd
    · rw [getD_set_ne hij] at hlj
      rw [Act.eval_put (fun x hx e => ?_)]
      · exact (V.get tbl d).mono hb (h.known j p d hp hlj hpd)
      · injection e with e
        subst e
        exact hij (nodup_uniq hnd ho hp hx hpd)

theorem wpAny_front {l : List Oper} {bs : List Nat} {tbl : List (Nat × Ent)} {w0 : World} {a0 : Act} {Q : Exit → Act → World → Prop} (k : Nat) (hkl : k < l.length) (hok : okK bs l k a0.tmps.size = true) (ht : tailWaits l k = true) (hs : Steps P l.toArray Q tbl w0 (l.take k))
    (hd : ∀ a w, Below w0.heap.size w0 w → a.defers = a0.defers → a.tmps.size = a0.tmps.size → (∀ d, baseK l k d = true → a.eval (.tmp d) = a0.eval (.tmp d)) → (∀ (i : Nat) (o : Oper) (d : Nat), (l.take k)[i]? = some o → o.dst = some d → (V.get tbl d).p (a.eval (.tmp d)) w) → wpList P l.toArray Q (l.drop k) a w) :
    ∀ (fuel : Nat) (listed : Array Bool) (a : Act) (w : World), InvK l k bs tbl w0 a0 listed a w → Closed l.toArray listed → (∀ j, k ≤ j → listed.getD j false = false) → listed.toList.count false ≤ fuel → wpAny P .any l.toArray Q fuel listed a w := by
  have hok' := hok
  simp only [okK, Bool.and_eq_true] at hok'
  obtain ⟨⟨⟨hnd, hf⟩, hbase⟩, hord⟩ := hok'
  intro fuel
  induction fuel with
  | zero =>
    intro listed a w hI hc hn hcnt
    exfalso
    have hlt : k < listed.size := by rw [hI.sz]; exact hkl
    have h1 : listed[k] = false := by simpa [Array.getD, hlt] using hn k (Nat.le_refl _)
    have : false ∈ listed.toList := by rw [← h1]; simp
    have := List.count_pos_iff.2 this
    omega
  | succ fuel ih =>
    intro listed a w hI hc hn hcnt
    have hsz := hI.sz
    -- are all of the front listed?
    by_cases hall : ∀ j, j < k → listed.getD j false = true
    · refine wpAny_tail hord ht (fuel + 1) k listed a w hsz (Nat.le_refl _) (by omega) hc (fun j hj => ?_) hcnt ?_
      · constructor
        · intro h
          rcases Nat.lt_or_ge j k with h1 | h1
          · exact h1
          · rw [hn j h1] at h; cases h
        · exact hall j
      · exact hd a w hI.bel hI.defers hI.tsize hI.others (fun i o d hio hod => by
          have hik : i < k := by have := (List.getElem?_eq_some_iff.1 hio).1; simp at this; omega
          exact hI.known i o d hio (hall i hik) hod)
    · refine ⟨fun hr => ?_, fun i hi => ?_⟩
      · exfalso
        apply hall
        intro j hj
        exact all_listed' hord hsz hr j (by omega)
      · obtain ⟨o, ho, hi1, hi2, hi3⟩ := ready_get hi
        have hil : i < l.length := by simpa using hi1
        have hsat : Sat l.toArray listed i := fun o' ho' e he hb => by
          rw [ho] at ho'
          obtain rfl := Option.some.inj ho'
          exact hi3 e he hb
        have hik : i < k := by
          rcases Nat.lt_or_ge i k with h | h
          · exact h
          · exfalso
            apply hall
            intro j hj
            exact tail_all ht hc hil h hsat j (by omega)
        have hti : (l.take k)[i]? = some o := by rw [List.getElem?_take_of_lt hik]; simpa using ho
        have hoo := List.all_eq_true.1 hf o (List.mem_of_getElem? hti)
        simp only [okF, Bool.and_eq_true] at hoo
        have hord_i := ordL_get hord (i := i) (o := o) (by simpa using ho)
        have hk : ∀ d, (o.looksAt l.toArray).contains d = true → (V.get tbl d).p (a.eval (.tmp d)) w := by
          intro d hd
          have h1 := List.all_eq_true.1 hoo.1 d (by simpa using hd)
          simp only [Bool.or_eq_true, Bool.and_eq_true] at h1
          rcases h1 with ⟨h1, _⟩ | h1
          · exact hI.bases d (by simpa using h1)
          · simp only [edge, List.any_eq_true, Bool.and_eq_true, beq_iff_eq] at h1
            obtain ⟨e, he, hbd, hx⟩ := h1
            have hei := hord_i e (by simpa using he) hbd
            cases hp : l.toArray[e.on]? with
            | none => rw [hp] at hx; simp at hx
            | some p =>
              rw [hp] at hx
              have hpt : (l.take k)[e.on]? = some p := by rw [List.getElem?_take_of_lt (by omega)]; simpa using hp
              exact hI.known _ p d hpt (hi3 e (by simpa using he) hbd) hx
        have hn' : ∀ j, k ≤ j → (listed.setIfInBounds i true).getD j false = false := fun j hj => by
          rw [getD_set_ne (by omega)]; exact hn j hj
        have hcnt' := count_set (by omega) hi2 hcnt
        unfold wpOp
        rw [ho]
        rcases hs.get hti a w hI.bel hk with ⟨hw, hwp⟩ | ⟨hw, hv⟩
        · simp only [hw, if_true]
          refine .inl (Oper.wp_mono (fun a' w' h => ?_) hwp)
          obtain ⟨hb, v, rfl, hv⟩ := h
          exact ih _ _ _ (hI.step hok hti hb hv) (hc.step hsat) hn' hcnt'
        · simp only [hw]
          exact ih _ _ _ (hI.step hok hti (Below.refl _ _) hv) (hc.step hsat) hn' hcnt'

/-- A region that draws its order; from the k-th operation on each waits for all ahead: those come one behind the other, as in a plain region. -/
theorem any_region_tail {l : List Oper} {Q : Exit → Act → World → Prop} {a : Act} {w w0 : World} (k : Nat) (ds bs : List Nat) (tbl : List (Nat × Ent)) (hkl : k < l.length) (hds : (l.take k).filterMap (·.dst) = ds) (hok : okK bs l k a.tmps.size = true) (ht : tailWaits l k = true) (hw : Below w0.heap.size w0 w) (hb : ∀ d, d ∈ bs → (V.get tbl d).p (a.eval (.tmp d)) w.drew) (hs : Steps P l.toArray Q tbl w0 (l.take k))
    (hd : ∀ (vs : Nat → Value) w', Below w0.heap.size w0 w' → (∀ (i : Nat) (o : Oper) (d : Nat), (l.take k)[i]? = some o → o.dst = some d → (V.get tbl d).p (vs d) w') → wpList P l.toArray Q (l.drop k) (puts a ds vs) w') : wpAny P .any l.toArray Q l.toArray.size (Array.replicate l.toArray.size false) a w.drew := by
  refine wpAny_front (bs := bs) (tbl := tbl) (w0 := w0) (a0 := a) k hkl hok ht hs (fun a' w' h1 h2 h4 h5 h3 => ?_) _ _ _ _ ?_ ?_ ?_ ?_
  · have e : a' = puts a ds (fun d => a'.eval (.tmp d)) := by
      obtain ⟨p1, p2, p3⟩ := puts_get (fun d => a'.eval (.tmp d)) ds a
      refine act_ext (Array.ext_getElem? fun d => ?_) (by rw [h2, p1])
      rw [p3 d]
      by_cases hl : d < a.tmps.size
      · rw [eval_get (by rw [h4]; exact hl), eval_get hl]
        by_cases hd : d ∈ ds
        · rw [if_pos ⟨hd, hl⟩]
        · rw [if_neg (fun h => hd h.1), h5 d]
          simp only [baseK, List.all_eq_true]
          intro o ho
          have : d ∉ (l.take k).filterMap (·.dst) := by rw [hds]; exact hd
          simp only [List.mem_filterMap, not_exists, not_and] at this
          simpa using this o ho
      · rw [if_neg (fun h => hl h.2), Array.getElem?_eq_none (by omega), Array.getElem?_eq_none (by omega)]
    have := hd (fun d => a'.eval (.tmp d)) w' h1 h3
    rw [← e] at this
    exact this
  · exact ⟨by simp, hw.drew, rfl, rfl, hb, fun _ _ => rfl, fun i o d _ h => by simp [Array.getD] at h⟩
  · intro i h
    simp [Array.getD] at h
  · intro j _
    simp [Array.getD]
  · simp
theorem wp_region_tail {id : Nat} {l : List Oper} {Q : Exit → Act → World → Prop} {a : Act} {w w0 : World} (k : Nat) (ds bs : List Nat) (tbl : List (Nat × Ent)) (hkl : k < l.length) (hds : (l.take k).filterMap (·.dst) = ds) (hm : P.follows .mixedOrders = true) (hok : okK bs l k a.tmps.size = true) (ht : tailWaits l k = true) (hw : Below w0.heap.size w0 w) (hb : ∀ d, d ∈ bs → (V.get tbl d).p (a.eval (.tmp d)) w.drew) (hs : Steps P l.toArray Q tbl w0 (l.take k))
    (hd : ∀ (vs : Nat → Value) w', Below w0.heap.size w0 w' → (∀ (i : Nat) (o : Oper) (d : Nat), (l.take k)[i]? = some o → o.dst = some d → (V.get tbl d).p (vs d) w') → wpList P l.toArray Q (l.drop k) (puts a ds vs) w') : (Code.region id l.toArray true).wp P Q a w :=
  wp_region_any hm (any_region_tail k ds bs tbl hkl hds hok ht hw hb hs hd)
end Go.Proofs.Ytlbchdlokimpfaa.V

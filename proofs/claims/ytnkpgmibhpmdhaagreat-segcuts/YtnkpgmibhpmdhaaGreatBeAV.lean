/- Contracts and plain facts, one behind the other: V14 TE C4 M C6 F3 F5 L4 L5 -/
import Derived.Test.YtnkpgmibhpmdhaaGreatBeAU
namespace Go.Proofs.YtnkpgmibhpmdhaaGreat.V
set_option linter.unusedVariables false
open Go.RowKit
def waits (ops:Array Oper):Nat→Nat→Nat→Bool
 | 0,_,_=>false
 | n+1,i,j=>match ops[i]? with
  | none=>false
  | some o=>o.after.toList.any fun e=>Region.binds .any e&&(e.on==j||waits ops n e.on j)
def Shut (ops:Array Oper) (listed:Array Bool):Prop:=∀ i o,ops[i]?=some o→listed.getD i false=true→∀ e∈o.after.toList,Region.binds .any e=true→listed.getD e.on false=true
theorem Shut.waits {ops:Array Oper} {listed:Array Bool} (h:Shut ops listed):∀ (n i j:Nat),V.waits ops n i j=true→listed.getD i false=true→listed.getD j false=true
 | 0,i,j,hw,_=>by simp[V.waits] at hw
 | n+1,i,j,hw,hl=>by
  unfold V.waits at hw
  cases ho:ops[i]? with
  | none=>rw[ho] at hw;simp at hw
  | some o =>
   rw[ho] at hw
   simp only[List.any_eq_true,Bool.and_eq_true,Bool.or_eq_true,beq_iff_eq] at hw
   obtain⟨e,he,hb,h1⟩:=hw
   have h2:=h i o ho hl e he hb
   rcases h1 with h1|h1
   ·rw[← h1];exact h2
   ·exact Shut.waits h n e.on j h1 h2
def dead (D:List (Nat × List Nat)) (j:Nat):List Nat:=(D.find? fun p=>p.1==j).elim [] (·.2)
def okD (D:List (Nat × List Nat)) (ops:Array Oper):Bool:=(List.range ops.size).all fun j=>(List.range ops.size).all fun i=>i==j||waits ops ops.size j i||match ops[i]? with|none=>true|some o=>(o.looksAt ops).all fun d=>!(dead D j).contains d
def alive (D:List (Nat × List Nat)) (ops:Array Oper) (j:Nat):List Nat:=(List.range ops.size).filterMap fun i=>match ops[i]? with|none=>none|some o=>if i==j||waits ops ops.size i j then none else match o.dst with|none=>none|some d=>if (dead D j).contains d then none else some d
variable {P : Program}
def Touch (P:Program) (ops:Array Oper) (Q:Exit→Act→World→Prop) (tbl:List (Nat × Ent)) (bs al:List Nat) (w0:World) (X:Act→World→Prop) (jx j:Nat) (o:Oper):Prop :=
 ∀ (a:Act) (w:World),Below w0.heap.size w0 w→(∀ d,(o.looksAt ops).contains d=true→(get tbl d).p (a.eval (.tmp d)) w) →
  o.guard=none∧o.wp P a w (fun a' w'=>Below w0.heap.size w w'∧(∃ v,a'=a.put o.dst v∧∀ d,o.dst=some d→(get tbl d).p v w')∧(∀ d,d∈bs∨d∈al→∀ v,(get tbl d).p v w→(get tbl d).p v w')∧(j=jx→X a' w')) Q
structure InvD (ops:Array Oper) (bs:List Nat) (D:List (Nat × List Nat)) (tbl:List (Nat × Ent)) (X:Act→World→Prop) (jx:Nat) (w0:World) (a0:Act) (listed:Array Bool) (a:Act) (w:World):Prop where
 sz:listed.size=ops.size
 bel:Below w0.heap.size w0 w
 defers:a.defers=a0.defers
 tsize:a.tmps.size=a0.tmps.size
 bases:∀ d,d∈bs→(V.get tbl d).p (a.eval (.tmp d)) w
 others:∀ d,V.base ops d=true→a.eval (.tmp d)=a0.eval (.tmp d)
 closed:Shut ops listed
 known:∀ i o d,ops[i]?=some o→listed.getD i false=true→o.dst=some d→(∀ j,listed.getD j false=true→d ∉ dead D j)→(V.get tbl d).p (a.eval (.tmp d)) w
 extra:listed.getD jx false=true→X a w
theorem getD_set (listed:Array Bool) (i j:Nat):(listed.setIfInBounds i true).getD j false=true↔listed.getD j false=true∨(i=j∧i<listed.size):=by
 by_cases hij:i=j
 ·subst hij
  by_cases hi:i<listed.size
  ·simp[Array.getD,hi]
  ·simp[Array.getD,hi]
 ·simp[Array.getD_eq_getD_getElem?,Array.getElem?_setIfInBounds_ne hij,hij]
theorem Shut.set {ops:Array Oper} {listed:Array Bool} (h:Shut ops listed) {i:Nat} {o:Oper} (ho:ops[i]?=some o) (hr:∀ e∈o.after,Region.binds .any e=true→listed.getD e.on false=true):Shut ops (listed.setIfInBounds i true):=by
 intro k p hp hk e he hb
 rw[getD_set] at hk ⊢
 rcases hk with hk|⟨rfl,_⟩
 ·exact .inl (h k p hp hk e he hb)
 ·rw[ho] at hp
  obtain rfl:=Option.some.inj hp
  exact .inl (hr e (by simpa using he) hb)
theorem InvD.step {ops:Array Oper} {bs:List Nat} {D:List (Nat × List Nat)} {tbl:List (Nat × Ent)} {X:Act→World→Prop} {jx:Nat} {w0 w w':World} {a0 a:Act} {listed:Array Bool} (hok:ok bs ops a0.tmps.size=true) (h:InvD ops bs D tbl X jx w0 a0 listed a w) {i:Nat} {o:Oper} (ho:ops[i]?=some o) (hil:i<listed.size)
  (hr:∀ e∈o.after,Region.binds .any e=true→listed.getD e.on false=true)
  (hb:Below w0.heap.size w w') {v:Value} (hv:∀ d,o.dst=some d→(V.get tbl d).p v w')
  (hbs:∀ d,d∈bs→∀ v,(V.get tbl d).p v w→(V.get tbl d).p v w')
  (hkn:∀ k p d,ops[k]?=some p→listed.getD k false=true→p.dst=some d→d ∉ dead D i→∀ v,(V.get tbl d).p v w→(V.get tbl d).p v w')
  (hx:(listed.setIfInBounds i true).getD jx false=true→X (a.put o.dst v) w'):InvD ops bs D tbl X jx w0 a0 (listed.setIfInBounds i true) (a.put o.dst v) w':=by
 simp only[ok,Bool.and_eq_true] at hok
 obtain⟨⟨hnd,hl⟩,hbase⟩:=hok
 have hoi:ops.toList[i]?=some o:=by simpa using ho
 have hoo:=okL_get hl hoi
 simp only[okO,Bool.and_eq_true] at hoo
 have hdl:∀ d,o.dst=some d→d<a.tmps.size:=fun d hd=>by
  have:=hoo.2
  rw[hd] at this
  rw[h.tsize]
  simpa using this
 refine⟨by simp[h.sz],h.bel.trans hb,?_,?_,?_,?_,h.closed.set ho hr,?_,hx⟩
 ·rw[← h.defers];cases o.dst<;>rfl
 ·rw[← h.tsize];cases o.dst<;>simp[Act.put]
 ·intro d hd
  rw[Act.eval_put (fun x hx e=>?_)]
  ·exact hbs d hd _ (h.bases d hd)
  ·injection e with e
   subst e
   have h1:=List.all_eq_true.1 hbase d hd
   have h2:=List.all_eq_true.1 h1 o (List.mem_of_getElem? hoi)
   simp[hx] at h2
 ·intro d hd
  rw[Act.eval_put (fun x hx e=>?_)]
  ·exact h.others d hd
  ·injection e with e
   subst e
   have h2:=List.all_eq_true.1 hd o (List.mem_of_getElem? hoi)
   simp[hx] at h2
 ·intro j p d hp hlj hpd hdead
  by_cases hij:i=j
  ·subst hij
   rw[ho] at hp
   obtain rfl:=Option.some.inj hp
   rw[hpd,eval_put_same (hdl d hpd)]
   exact hv d hpd
  ·have hlj':listed.getD j false=true:=by
    rcases (getD_set listed i j).1 hlj with h1|⟨h1,_⟩
    ·exact h1
    ·exact absurd h1 hij
   have hd1:d ∉ dead D i:=hdead i ((getD_set listed i i).2 (.inr ⟨rfl,hil⟩))
   rw[Act.eval_put (fun x hx e=>?_)]
   ·exact hkn j p d hp hlj' hpd hd1 _ (h.known j p d hp hlj' hpd fun k hk=>hdead k ((getD_set listed i k).2 (.inl hk)))
   ·injection e with e
    subst e
    exact hij (nodup_uniq hnd hoi (by simpa using hp) hx hpd)
def StepsD (P:Program) (ops:Array Oper) (Q:Exit→Act→World→Prop) (tbl:List (Nat × Ent)) (bs:List Nat) (D:List (Nat × List Nat)) (w0:World) (X:Act→World→Prop) (jx:Nat):Nat→List Oper→Prop
 | _,[]=>True
 | j,o :: r=>((dead D j=[]∧j≠jx∧Step P ops Q tbl w0 o)∨((j=jx∨waits ops ops.size jx j=true)∧Touch P ops Q tbl bs (alive D ops j) w0 X jx j o))∧StepsD P ops Q tbl bs D w0 X jx (j+1) r
theorem StepsD.get {ops:Array Oper} {Q:Exit→Act→World→Prop} {tbl:List (Nat × Ent)} {bs:List Nat} {D:List (Nat × List Nat)} {w0:World} {X:Act→World→Prop} {jx:Nat}:∀ {l:List Oper} {k i:Nat} {o:Oper},StepsD P ops Q tbl bs D w0 X jx k l→l[i]?=some o→((dead D (k+i)=[]∧k+i≠jx∧Step P ops Q tbl w0 o)∨((k+i=jx∨waits ops ops.size jx (k+i)=true)∧Touch P ops Q tbl bs (alive D ops (k+i)) w0 X jx (k+i) o))
 | [],_,_,_,_,h=>by simp at h
 | x :: r,k,0,o,h,ho=>by simp at ho;subst ho;exact h.1
 | x :: r,k,i+1,o,h,ho=>by
  simp at ho
  have:=StepsD.get h.2 ho
  rwa [Nat.add_assoc,Nat.add_comm 1 i] at this
theorem alive_get {D:List (Nat × List Nat)} {ops:Array Oper} {listed:Array Bool} (hc:Shut ops listed) {j:Nat} (hj:listed.getD j false=false) {k:Nat} {p:Oper} {d:Nat} (hp:ops[k]?=some p) (hk:listed.getD k false=true) (hd:p.dst=some d) (hn:d ∉ dead D j):d∈alive D ops j:=by
 have hks:k<ops.size:=by
  rcases Nat.lt_or_ge k ops.size with h|h
  ·exact h
  ·simp[h] at hp
 refine List.mem_filterMap.2 ⟨k,List.mem_range.2 hks,?_⟩
 rw[hp]
 have h1:(k==j)=false:=by
  rw[beq_eq_false_iff_ne];intro e;rw[e,hj] at hk;exact absurd hk (by simp)
 have h2:waits ops ops.size k j=false:=by
  cases hw:waits ops ops.size k j with
  | false=>rfl
  | true=>have:=hc.waits _ _ _ hw hk;rw[hj] at this;exact absurd this (by simp)
 simp[h1,h2,hd,hn]
theorem wpAny_invD {ops:Array Oper} {bs:List Nat} {D:List (Nat × List Nat)} {tbl:List (Nat × Ent)} {X:Act→World→Prop} {jx:Nat} {w0:World} {a0:Act} {Q:Exit→Act→World→Prop} (hok:ok bs ops a0.tmps.size=true) (hokD:okD D ops=true) (hs:StepsD P ops Q tbl bs D w0 X jx 0 ops.toList)
  (hX:∀ (i:Nat) (o:Oper),ops[i]?=some o→waits ops ops.size jx i=false→i≠jx→∀ a w w' v,X a w→Below w.heap.size w w'→X (a.put o.dst v) w')
  (hd:∀ a w,Below w0.heap.size w0 w→a.defers=a0.defers→a.tmps.size=a0.tmps.size→(∀ d,V.base ops d=true→a.eval (.tmp d)=a0.eval (.tmp d))→(∀ (i:Nat) (o:Oper) (d:Nat),ops[i]?=some o→o.dst=some d→(∀ j,j<ops.size→d ∉ dead D j)→(V.get tbl d).p (a.eval (.tmp d)) w)→(jx<ops.size→X a w)→Q .normal a w) :
  ∀ (fuel:Nat) (listed:Array Bool) (a:Act) (w:World),InvD ops bs D tbl X jx w0 a0 listed a w→listed.toList.count false≤fuel→wpAny P .any ops Q fuel listed a w:=by
 have hok':=hok
 simp only[ok,Bool.and_eq_true] at hok'
 obtain⟨⟨hnd,hl⟩,hbase⟩:=hok'
 have hsize:∀ (listed:Array Bool) j,listed.size=ops.size→listed.getD j false=true→j<ops.size:=fun listed j hsz h=>by
  rcases Nat.lt_or_ge j ops.size with h1|h1
  ·exact h1
  ·have h2:¬ j<listed.size:=by omega
   simp[Array.getD,h2] at h
 have hdone:∀ listed a w,InvD ops bs D tbl X jx w0 a0 listed a w→Region.ready .any ops listed=[]→Q .normal a w:=fun listed a w hI hr=>by
  have hall:=all_listed hl hI.sz hr
  refine hd a w hI.bel hI.defers hI.tsize hI.others (fun i o d ho hod hnd=>?_) (fun hjx=>hI.extra (hall jx hjx))
  refine hI.known i o d ho (hall i ?_) hod (fun j hj=>hnd j (hsize listed j hI.sz hj))
  rcases Nat.lt_or_ge i ops.size with h|h
  ·exact h
  ·simp[h] at ho
 intro fuel
 induction fuel with
 | zero =>
  intro listed a w hI hc
  have hr:Region.ready .any ops listed=[]:=by
   apply List.filter_eq_nil_iff.2
   intro i hi
   have hi':i<listed.size:=by rw[hI.sz];simpa using hi
   have h1:listed[i]=true:=by
    cases hx:listed[i] with
    | true=>rfl
    | false =>
     have:false∈listed.toList:=by rw[← hx];simp
     have:=List.count_pos_iff.2 this
     omega
   simp[Array.getD,hi',h1]
  exact⟨hr,hdone listed a w hI hr⟩
 | succ fuel ih =>
  intro listed a w hI hc
  refine⟨hdone listed a w hI,fun i hi=>?_⟩
  obtain⟨o,ho,hi1,hi2,hi3⟩:=ready_get hi
  have hil:i<listed.size:=by rw[hI.sz];exact hi1
  have hif:listed.getD i false=false:=by
   have hf:listed[i]=false:=by simpa [Array.getD,hil] using hi2
   simp[Array.getD,hil,hf]
  have hcnt:(listed.setIfInBounds i true).toList.count false≤fuel:=by
   have hf:listed[i]=false:=by simpa [Array.getD,hil] using hi2
   have h1:(listed.setIfInBounds i true).toList=listed.toList.set i true:=by simp
   have h2:=List.count_set (a:=true) (b:=false) (l:=listed.toList) (i:=i) (h:=by simpa using hil)
   rw[h1,h2]
   simp[hf]
   have:false∈listed.toList:=by rw[← hf];simp
   have:=List.count_pos_iff.2 this
   simp at this hc
   omega
  have hoi:ops.toList[i]?=some o:=by simpa using ho
  have hoo:=okL_get hl hoi
  simp only[okO,Bool.and_eq_true] at hoo
  have hnotdead:∀ d,(o.looksAt ops).contains d=true→∀ j,listed.getD j false=true→d ∉ dead D j:=by
   intro d hd j hj hdd
   have hjs:=hsize listed j hI.sz hj
   have h1:=List.all_eq_true.1 hokD j (List.mem_range.2 hjs)
   have h2:=List.all_eq_true.1 h1 i (List.mem_range.2 hi1)
   have hne:(i==j)=false:=by
    rw[beq_eq_false_iff_ne];intro e;rw[← e,hif] at hj;exact absurd hj (by simp)
   have hwt:waits ops ops.size j i=false:=by
    cases hw:waits ops ops.size j i with
    | false=>rfl
    | true=>have:=hI.closed.waits _ _ _ hw hj;rw[hif] at this;exact absurd this (by simp)
   rw[hne,hwt,ho] at h2
   simp only[Bool.false_or] at h2
   have h3:=List.all_eq_true.1 h2 d (by simpa using hd)
   simp at h3
   exact h3 hdd
  have hk:∀ d,(o.looksAt ops).contains d=true→(V.get tbl d).p (a.eval (.tmp d)) w:=by
   intro d hd
   have h1:=List.all_eq_true.1 hoo.1.1 d (by simpa using hd)
   simp only[Bool.or_eq_true,Bool.and_eq_true] at h1
   rcases h1 with ⟨h1,_⟩|h1
   ·exact hI.bases d (by simpa using h1)
   ·simp only[edge,List.any_eq_true,Bool.and_eq_true,beq_iff_eq] at h1
    obtain⟨e,he,hbd,hx⟩:=h1
    cases hp:ops[e.on]? with
    | none=>rw[hp] at hx;simp at hx
    | some p =>
     rw[hp] at hx
     exact hI.known _ p d hp (hi3 e (by simpa using he) hbd) hx (hnotdead d hd)
  unfold wpOp
  rw[ho]
  have hstep:=hs.get hoi
  rw[Nat.zero_add] at hstep
  have hxput:∀ v w',i≠jx→Below w.heap.size w w'→(listed.setIfInBounds i true).getD jx false=true→X (a.put o.dst v) w':=by
   intro v w' hne hb hx
   have hjl:listed.getD jx false=true:=by
    rcases (getD_set listed i jx).1 hx with h1|⟨h1,_⟩
    ·exact h1
    ·exact absurd h1 hne
   have hwt:waits ops ops.size jx i=false:=by
    cases hw:waits ops ops.size jx i with
    | false=>rfl
    | true=>have:=hI.closed.waits _ _ _ hw hjl;rw[hif] at this;exact absurd this (by simp)
   exact hX i o ho hwt hne a w w' v (hI.extra hjl) hb
  rcases hstep with ⟨hdz,hne,hst⟩|⟨hjj,hto⟩
  ·rcases hst a w hI.bel hk with ⟨hw,hwp⟩|⟨hw,hv⟩
   ·simp only[hw,if_true]
    refine .inl (Oper.wp_mono (fun a' w' h=>?_) hwp)
    obtain⟨hb,v,rfl,hv⟩:=h
    exact ih _ _ _ (hI.step hok ho hil hi3 (hb.mono hI.bel.size) hv (fun d _ v hp=>(V.get tbl d).mono hb hp) (fun _ _ d _ _ _ _ v hp=>(V.get tbl d).mono hb hp) (hxput v w' hne hb)) hcnt
   ·simp only[hw]
    exact ih _ _ _ (hI.step hok ho hil hi3 (Below.refl _ _) hv (fun _ _ _ hp=>hp) (fun _ _ _ _ _ _ _ _ hp=>hp) (hxput undef w hne (Below.refl _ _))) hcnt
  ·obtain⟨hg,hwp⟩:=hto a w hI.bel hk
   have hw:Region.wanted o (yielded ops a.tmps)=true:=by simp[Region.wanted,hg]
   simp only[hw,if_true]
   refine .inl (Oper.wp_mono (fun a' w' h=>?_) hwp)
   obtain⟨hb,⟨v,rfl,hv⟩,hfr,hxx⟩:=h
   refine ih _ _ _ (hI.step hok ho hil hi3 hb hv (fun d hd v hp=>hfr d (.inl hd) v hp) (fun k p d hp hkl hpd hnd v hpv=>hfr d (.inr (alive_get hI.closed hif hp hkl hpd hnd)) v hpv) (fun hx=>?_)) hcnt
   rcases hjj with hjj|hjj
   ·exact hxx hjj
   ·rcases (getD_set listed i jx).1 hx with h1|⟨h1,_⟩
    ·have:=hI.closed.waits _ _ _ hjj h1;rw[hif] at this;exact absurd this (by simp)
    ·exact hxx h1
theorem wp_region_dead {id:Nat} {l:List Oper} {Q:Exit→Act→World→Prop} {a:Act} {w w0:World} (ds bs:List Nat) (D:List (Nat × List Nat)) (tbl:List (Nat × Ent)) (X:Act→World→Prop) (jx:Nat) (hds:l.filterMap (·.dst)=ds) (hm:P.follows .mixedOrders=true) (hok:ok bs l.toArray a.tmps.size=true) (hokD:okD D l.toArray=true) (hw:Below w0.heap.size w0 w) (hb:∀ d,d∈bs→(V.get tbl d).p (a.eval (.tmp d)) w.drew) (hs:StepsD P l.toArray Q tbl bs D w0 X jx 0 l)
  (hX:∀ (i:Nat) (o:Oper),l[i]?=some o→waits l.toArray l.length jx i=false→i≠jx→∀ a w w' v,X a w→Below w.heap.size w w'→X (a.put o.dst v) w')
  (hd:∀ (vs:Nat→Value) w',Below w0.heap.size w0 w'→(∀ (i:Nat) (o:Oper) (d:Nat),l[i]?=some o→o.dst=some d→(∀ j,j<l.length→d ∉ dead D j)→(V.get tbl d).p (vs d) w')→(jx<l.length→X (puts a ds vs) w')→Q .normal (puts a ds vs) w'):(Code.region id l.toArray true).wp P Q a w:=by
 refine wp_region_any hm ?_
 refine wpAny_invD (bs:=bs) (D:=D) (tbl:=tbl) (X:=X) (jx:=jx) (w0:=w0) (a0:=a) hok hokD (by simpa using hs) (fun i o ho hwt=>hX i o (by simpa using ho) (by simpa using hwt)) (fun a' w' h1 h2 h4 h5 h3 h6=>?_) _ _ _ _ ?_ ?_
 ·have e:a'=puts a ds (fun d=>a'.eval (.tmp d)):=by
   obtain⟨p1,p2,p3⟩:=puts_get (fun d=>a'.eval (.tmp d)) ds a
   refine act_ext (Array.ext_getElem? fun d=>?_) (by rw[h2,p1])
   rw[p3 d]
   by_cases hl:d<a.tmps.size
   ·rw[eval_get (by rw[h4];exact hl),eval_get hl]
    by_cases hd:d∈ds
    ·rw[if_pos ⟨hd,hl⟩]
    ·rw[if_neg (fun h=>hd h.1),h5 d]
     simp only[base,List.all_eq_true]
     intro o ho
     have:d ∉ l.filterMap (·.dst):=by rw[hds];exact hd
     simp only[List.mem_filterMap,not_exists,not_and] at this
     simpa using this o (by simpa using ho)
   ·rw[if_neg (fun h=>hl h.2),Array.getElem?_eq_none (by omega),Array.getElem?_eq_none (by omega)]
  have h6':jx<l.length→X (puts a ds fun d=>a'.eval (.tmp d)) w':=fun h=>by rw[← e];exact h6 (by simpa using h)
  rw[e]
  exact hd _ w' h1 (fun i o d ho hod hnd=>h3 i o d (by simpa using ho) hod (fun j hj=>hnd j (by simpa using hj))) h6'
 ·exact⟨by simp,hw.drew,rfl,rfl,hb,fun _ _=>rfl,fun i o _ h=>by simp[Array.getD] at h,fun i o d _ h=>by simp[Array.getD] at h,fun h=>by simp[Array.getD] at h⟩
 ·simp
theorem mem_alive {D:List (Nat × List Nat)} {ops:Array Oper} {j d:Nat} (L:List Nat) (h:d∈alive D ops j) (e:(alive D ops j==L)=true):d∈L:=by
 rw[beq_iff_eq] at e;rwa [e] at h
end Go.Proofs.YtnkpgmibhpmdhaaGreat.V
namespace Go.Proofs.YtnkpgmibhpmdhaaGreat
set_option linter.unusedVariables false
open Go.RowKit
def Z.bare (x:Z.V):Z.V:=if x.k==0 then Z.z0 else x
theorem joinV_split:∀ l:List Z.V,joinV (nus l) (oth l)=l.map Z.bare
 | []=>rfl
 | x :: l=>by
  have ih:=joinV_split l
  cases hk:(x.k==0) with
  | true =>
   have h1:nus (x :: l)=true :: nus l:=by simp[nus,hk]
   have h2:oth (x :: l)=oth l:=by simp[oth,hk]
   rw[h1,h2,joinV,ih]
   simp[Z.bare,hk]
  | false =>
   have h1:nus (x :: l)=false :: nus l:=by simp[nus,hk]
   have h2:oth (x :: l)=x :: oth l:=by simp[oth,hk]
   rw[h1,h2]
   show (x :: oth l).getD 0 Z.z0 :: joinV (nus l) ((x :: oth l).drop 1)=_
   rw[show (x :: oth l).drop 1=oth l from rfl,ih]
   simp[Z.bare,hk]
namespace V
variable {ops : Array Oper} {Q : Exit → Act → World → Prop} {tbl : List (Nat × Ent)} {w0 : World} {o : Oper}
end V
end Go.Proofs.YtnkpgmibhpmdhaaGreat
namespace Go.Proofs.YtnkpgmibhpmdhaaGreat
set_option linter.unusedVariables false
open Go.RowKit
theorem Wr.fresh (w : World) : Wr (w.alloc (.cells #[.slice none 0 0, .int .i64 0] 155)) w.heap.size (.slice none 0 0) [] :=
  ⟨heap_alloc_new w _, World.ownsRow_nil _ _ _ _⟩
theorem WS.below {w w' : World} {v' : Value} (o : Obj) (h : WS w.heap.size (w.alloc o) (.slice none 0 0) w' v') : Below w.heap.size w w' := by
  have h1 := ((Kept.refl (fun k => w.heap.size ≤ k) w).alloc o).trans' h.1 (by
    rintro x (rfl | hx)
    · exact .inl (Nat.le_refl _)
    · simp [Value.ownBlock] at hx)
  exact h1.below (Nat.le_refl _) (fun k hk => hk)
set_option maxHeartbeats 400000 in
theorem pack_arg (ao : Option Addr) (len cap : Nat) (k : Int) (w : World) (h : k < 0 ∨ 64 < k) :
    Calls Tryz.prog 76 #[.slice ao len cap, .int .i64 k] w fun e w' => e = .returned (.tuple #[.slice none 0 0, .int .i64 1]) ∧ w' = w := by
  go_enter Tryz.func76, Tryz.ntmps76
  go_wp2_with (go_at_call 117; refine (may_no _ _ h).mono ?_; rintro e w' ⟨rfl, rfl⟩)
  go_ret2
  exact ⟨rfl, rfl⟩
set_option maxHeartbeats 400000 in
theorem pack_some (b off len cap : Nat) (l : List Int) (k : Nat) (w : World) (hl : l.length = len) (hm : len * 64 + 64 < 1099511627776) (hb : b < w.heap.size) (hc : ∀ i, i < len → w.cell? ⟨b, off + i, none⟩ = some (.int .u64 (l.getD i 0))) (hin : In64 l) (hk : k ≤ 64) :
    Calls Tryz.prog 76 #[.slice (some ⟨b, off, none⟩) len cap, .int .i64 k] w fun e w' =>
      (Fit l k ∧ ∃ v', e = .returned (.tuple #[v', .int .i64 0]) ∧ w'.ownsRow w.heap.size 5 1 v' (A.bytesOf (bitsAll l k)).length (B8 (A.bytesOf (bitsAll l k))) ∧ Below w.heap.size w w') ∨
      (¬ Fit l k ∧ e = .returned (.tuple #[.slice none 0 0, .int .i64 1]) ∧ Below w.heap.size w w') := by
  have HI := hide hin
  clear hin
  go_enter Tryz.func76, Tryz.ntmps76
  go_wp2_with (go_at_call 117; refine (may_yes _ _ (by omega) (by omega)).mono ?_; rintro e w' ⟨rfl, rfl⟩)
  go_loopw [17] (fun i wr => ∃ j : Nat, j ≤ len ∧ i = .int .i64 j ∧ Fit (l.take j) k ∧ ∃ v1, Wr wr w'.heap.size v1 (bitsAll (l.take j) k) ∧ WS w'.heap.size (w'.alloc (.cells #[.slice none 0 0, .int .i64 0] 155)) (.slice none 0 0) wr v1) (fun i _ => len - (intOf i).toNat)
  case atStart => exact ⟨0, Nat.zero_le _, rfl, by intro x hx; simp at hx, _, Wr.fresh w', WS.refl _ _ _⟩
  case round =>
    obtain ⟨j, hj, rfl, hfit, v1, hw1, hs1⟩ := hrel
    have hbel := WS.below _ hs1
    have hbl := bitsAll_le l k j hk
    by_cases hlt : j < len
    · have hck : wr.cell? ⟨b, off + j, none⟩ = some (.int .u64 (l.getD j 0)) := by rw [hbel.cell (p := ⟨b, off + j, none⟩) hb]; exact hc j hlt
      obtain ⟨h0, h1⟩ := HI.out.getD j
      have HT := hide (take_snocD l j (by omega))
      have HF : Hid (l.getD j 0 < (2 : Int) ^ k → Fit (l.take (j + 1)) k) := fun hx => hfit.snoc (by omega) hx
      have HM : Hid (l.getD j 0 ∈ l) := by have : l.getD j 0 = l[j] := by simp [List.getD, show j < l.length by omega]
                                           show l.getD j 0 ∈ l
                                           rw [this]; exact List.getElem_mem _
      have HS := hide hs1
      have HB := hide hbel
      obtain ⟨x, hxe⟩ : ∃ x, l.getD j 0 = x := ⟨_, rfl⟩
      rw [hxe] at hck h0 h1 HT HF HM
      clear hc hfit hs1 hbel hxe
      by_cases hx : x < (2 : Int) ^ k
      · have HX := hide hx
        clear hx
        go_wp2_with fail
        refine (put_yes _ v1 _ x k wr hw1 (by omega) h0 HX.out h1 hk).mono ?_
        rintro e w2 ⟨rfl, v2, hw2, hs2⟩
        go_wp2
        go_roundw
        case rel => exact ⟨j + 1, by omega, by go_num, HF.out HX.out, v2, by rw [HT.out, bitsAll_snoc]; exact hw2, HS.out.trans hs2⟩
        case measure => simp [intOf]; omega
      · have HX := hide (Int.not_lt.1 hx)
        clear hx
        go_wp2_with fail
        refine (put_no _ x k wr h0 h1 (.inr (.inr (by rw [Int.toNat_natCast]; exact HX.out)))).mono ?_
        rintro e w2 ⟨rfl, rfl⟩
        go_wp2
        go_ret2
        exact .inr ⟨fun hf => Int.not_lt.2 HX.out (hf x HM.out), rfl, HB.out⟩
    · have hjl : j = len := by omega
      subst hjl
      rw [List.take_of_length_le (by omega)] at hw1 hfit
      rw [List.take_of_length_le (by omega)] at hbl
      have HF := hide hfit
      have HB := hide hbel
      clear hfit hbel hs1 hc
      go_wp2_with fail
      refine (bytes_any _ v1 _ wr hw1 (by omega)).mono ?_
      rintro e w2 ⟨v2, rfl, ho2, hb2⟩
      go_wp2
      go_ret2
      have hs := HB.out.size
      exact .inl ⟨HF.out, v2, rfl, owns_base ho2 fun g hg => by have := (owns_lt ho2 hg).1; omega, HB.out.trans (hb2.mono hs)⟩
set_option maxHeartbeats 400000 in
theorem pack_none (ao : Option Addr) (cap : Nat) (k : Nat) (w : World) (hk : k ≤ 64) :
    Calls Tryz.prog 76 #[.slice ao 0 cap, .int .i64 k] w fun e w' =>
      ∃ v', e = .returned (.tuple #[v', .int .i64 0]) ∧ w'.ownsRow w.heap.size 5 1 v' 0 [] ∧ Below w.heap.size w w' := by
  go_enter Tryz.func76, Tryz.ntmps76
  go_wp2_with (go_at_call 117; refine (may_yes _ _ (by omega) (by omega)).mono ?_; rintro e w' ⟨rfl, rfl⟩)
  go_loopw [17] (fun i wr => i = .int .i64 0 ∧ wr = w'.alloc (.cells #[.slice none 0 0, .int .i64 0] 155)) (fun _ _ => 0)
  case atStart => exact ⟨rfl, rfl⟩
  case round =>
    obtain ⟨rfl, rfl⟩ := hrel
    go_wp2_with fail
    refine (bytes_any _ _ _ _ (Wr.fresh w') (by simp)).mono ?_
    rintro e w2 ⟨v2, rfl, ho2, hb2⟩
    go_wp2
    go_ret2
    exact ⟨v2, rfl, owns_base ho2 fun g hg => by have := (owns_lt ho2 hg).1; simp at this; omega, ((Below.refl _ _).alloc (Nat.le_refl _) _).trans (hb2.mono (by simp))⟩
theorem pack_any (ao : Option Addr) (len cap : Nat) (l : List Int) (k : Nat) (w : World) (h : Sl w .u64 ao len cap l) (hm : len * 64 + 64 < 1099511627776) (hin : In64 l) (hk : k ≤ 64) :
    Calls Tryz.prog 76 #[.slice ao len cap, .int .i64 k] w fun e w' =>
      (Fit l k ∧ ∃ v', e = .returned (.tuple #[v', .int .i64 0]) ∧ w'.ownsRow w.heap.size 5 1 v' (A.bytesOf (bitsAll l k)).length (B8 (A.bytesOf (bitsAll l k))) ∧ Below w.heap.size w w') ∨
      (¬ Fit l k ∧ e = .returned (.tuple #[.slice none 0 0, .int .i64 1]) ∧ Below w.heap.size w w') := by
  obtain ⟨h1, h2, h3, h4, h5⟩ := h
  by_cases h0 : len = 0
  · subst h0
    obtain rfl : l = [] := List.eq_nil_of_length_eq_zero h1
    refine (pack_none ao cap k w hk).mono ?_
    rintro e w' ⟨v', he, ho, hb⟩
    exact .inl ⟨(by intro x hx; simp at hx), v', he, by simpa [bitsAll, A.bytesOf, B8] using ho, hb⟩
  · rcases h5 with h5 | ⟨b, off, rfl, hlt, h5⟩
    · omega
    · exact pack_some b off len cap l k w h1 hm hlt h5 hin hk
theorem Tryz.infoU64:(Tryz.prog.info? 49).map (fun i=>(i.zero,i.size,i.bytes))=some (some (.int .u64 0),1,8):=by kernel_rfl
theorem width_w (ao:Option Addr) (len cap:Nat) (l:List Int) (w:World) (h:Sl w .u64 ao len cap l) (hm:len≤140737488355328) (hin:In64 l) :
  Calls Tryz.prog 159 #[.slice ao len cap] w fun e w'=>e=.returned (.int .i64 ((wid l:Nat):Int))∧w'=w:=width_any ao len cap l w h hm hin
end Go.Proofs.YtnkpgmibhpmdhaaGreat
namespace Go.Proofs.YtnkpgmibhpmdhaaGreat
set_option linter.unusedVariables false
set_option maxRecDepth 10000
open Go.RowKit
set_option maxHeartbeats 400000 in
theorem just_any (ao:Option Addr) (len cap:Nat) (l:List Nat) (n:Nat) (w:World) (h:Sl w .u8 ao len cap (ints l)) (hm:len≤140737488355328) (hn:n≤1099511627776) :
  Calls Tryz.prog 170 #[.slice ao len cap,.int .i64 n] w fun e w'=>e=.returned (.int .i64 ((jb l n:Nat):Int))∧w'=w:=by
 have hlen:l.length=len:=by rw[← h.1,ints_length]
 by_cases h1:len<(n+7) / 8
 ·have hj:jb l n=3:=by unfold jb;rw[hlen,if_pos h1]
  rw[hj]
  go_enter Tryz.func170,Tryz.ntmps170
  go_wp2
  go_ret
  exact⟨rfl,rfl⟩
 ·by_cases h2:(n+7) / 8<len
  ·have hj:jb l n=4:=by unfold jb;rw[hlen,if_neg h1,if_pos h2]
   rw[hj]
   go_enter Tryz.func170,Tryz.ntmps170
   go_wp2
   go_ret
   exact⟨rfl,rfl⟩
  ·by_cases h3:n%8=0
   ·have hj:jb l n=0:=by unfold jb;rw[hlen,if_neg h1,if_neg h2,if_neg (by simp[h3])]
    rw[hj]
    have hb:((n:Int)%8 != 0)=false:=by simp;omega
    go_enter Tryz.func170,Tryz.ntmps170
    go_wp2
    go_ret
    exact⟨rfl,rfl⟩
   ·have hb:((n:Int)%8 != 0)=true:=by simp;omega
    obtain⟨b,off,hao,hblt,hc⟩:∃ b off,ao=some ⟨b,off,none⟩∧b<w.heap.size∧∀ i,i<len→w.cell? ⟨b,off+i,none⟩=some (.int .u8 ((ints l).getD i 0)):=by
     rcases h.2.2.2.2 with h|h
     ·omega
     ·exact h
    have hck:=hc ((n+7) / 8 - 1) (by omega)
    rw[ints_getD] at hck
    have hj:jb l n=if l.getD ((n+7) / 8 - 1) 0 / 2^(n%8)≠0 then 4 else 0:=by unfold jb;rw[hlen,if_neg h1,if_neg h2];simp[h3]
    generalize l.getD ((n+7) / 8 - 1) 0=y at hck hj
    subst hao
    clear hc h
    by_cases h4:y / 2^(n%8)=0
    ·have h5:((y:Int) / 2^(n%8) != 0)=false:=by
      rw[← pow_int,← Int.natCast_ediv,h4];rfl
     rw[hj,if_neg (by simp[h4])]
     clear hj h4
     go_enter Tryz.func170,Tryz.ntmps170
     go_wp2
     go_ret
     exact⟨rfl,rfl⟩
    ·have h5:((y:Int) / 2^(n%8) != 0)=true:=by
      rw[← pow_int,← Int.natCast_ediv,bne_iff_ne];omega
     rw[hj,if_pos h4]
     clear hj h4
     go_enter Tryz.func170,Tryz.ntmps170
     go_wp2
     go_ret
     exact⟨rfl,rfl⟩
set_option maxHeartbeats 400000 in
theorem unpack_arg (ao:Option Addr) (len cap:Nat) (n k:Int) (w:World) (h:k<0∨64<k∨n<0∨1048576<n) :
  Calls Tryz.prog 122 #[.slice ao len cap,.int .i64 n,.int .i64 k] w fun e w'=>e=.returned (.tuple #[.slice none 0 0,.int .i64 1])∧w'=w:=by
 by_cases hk:k<0∨64<k
 ·clear h
  go_enter Tryz.func122,Tryz.ntmps122
  go_wp2_with (go_at_call 117;refine (may_no _ _ hk).mono ?_;rintro e w' ⟨rfl,rfl⟩)
  go_ret2
  exact⟨rfl,rfl⟩
 ·have hk0:0≤k:=by omega
  have hk1:k≤64:=by omega
  rcases (show n<0∨(0≤n∧1048576<n) by omega) with hn|⟨hn0,hn⟩
  all_goals
   clear h hk
   go_enter Tryz.func122,Tryz.ntmps122
   go_wp2_with (go_at_call 117;refine (may_yes _ _ (by omega) (by omega)).mono ?_;rintro e w' ⟨rfl,rfl⟩)
   go_ret2
   exact⟨rfl,rfl⟩
set_option maxHeartbeats 400000 in
theorem unpack_no (ao:Option Addr) (len cap:Nat) (l:List Nat) (n k:Nat) (w:World) (h:Sl w .u8 ao len cap (ints l)) (hm:len≤140737488355328) (hn:n≤1048576) (hk:k≤64) (hj:jb l (n*k)≠0) :
  Calls Tryz.prog 122 #[.slice ao len cap,.int .i64 n,.int .i64 k] w fun e w'=>e=.returned (.tuple #[.slice none 0 0,.int .i64 ((jb l (n*k):Nat):Int)])∧w'=w:=by
 have hnk:n*k≤1048576*64:=Nat.mul_le_mul hn hk
 have hb:(((jb l (n*k):Nat):Int) != 0)=true:=by rw[bne_iff_ne];omega
 have H:=hide h
 have hi:(n:Int)*(k:Int)=((n*k:Nat):Int):=(Int.natCast_mul n k).symm
 clear h hj
 generalize hN:n*k=N at *
 clear hN
 go_enter Tryz.func122,Tryz.ntmps122
 go_wp2_with (go_at_call 117;refine (may_yes _ _ (by omega) (by omega)).mono ?_;rintro e w' ⟨rfl,rfl⟩)
 refine (just_any _ _ _ l N _ H.out hm (by omega)).mono ?_
 rintro e w1 ⟨rfl,rfl⟩
 go_wp2
 go_ret2
 exact⟨rfl,rfl⟩
def some0 (l:List Nat) (n k j:Nat):List Value:=(nums l j k).map (Value.int .u64)++List.replicate (n - j) (.int .u64 0)
theorem some0_zero (l:List Nat) (n k:Nat):some0 l n k 0=List.replicate n (.int .u64 0):=by simp[some0,nums]
theorem some0_all (l:List Nat) (n k:Nat):some0 l n k n=(nums l n k).map (Value.int .u64):=by simp[some0]
theorem some0_set (l:List Nat) (n k j:Nat) (h:j<n):(some0 l n k j).set j (.int .u64 ((getV l (j*k) k:Nat):Int))=some0 l n k (j+1):=by
 unfold some0
 rw[List.set_append_right _ _ (by simp[nums_length]),nums_succ]
 simp only[List.length_map,nums_length,Nat.sub_self,List.map_append,List.append_assoc]
 rw[show n - j=(n - (j+1))+1 by omega,List.replicate_succ,List.set_cons_zero]
 rfl
theorem some0_at (l:List Nat) (n k j:Nat) (h:j<n):(some0 l n k j)[j]?=some (.int .u64 0):=by
 unfold some0
 rw[List.getElem?_append_right (by simp[nums_length])]
 simp only[List.length_map,nums_length,Nat.sub_self]
 rw[show n - j=(n - j - 1)+1 by omega,List.replicate_succ]
 rfl
set_option maxRecDepth 10000 in
set_option maxHeartbeats 1000000 in
theorem unpack_yes (ao:Option Addr) (len cap:Nat) (l:List Nat) (n k:Nat) (w:World) (h:Sl w .u8 ao len cap (ints l)) (h256:∀ x∈l,x<256) (hm:len≤140737488355328) (hn:n≤1048576) (hk:k≤64) (hj:jb l (n*k)=0) :
  Calls Tryz.prog 122 #[.slice ao len cap,.int .i64 n,.int .i64 k] w fun e w'=>∃ v',e=.returned (.tuple #[v',.int .i64 0])∧w'.ownsRow w.heap.size 49 1 v' n ((nums l n k).map (Value.int .u64))∧Below w.heap.size w w':=by
 have hnk:n*k≤67108864:=Nat.mul_le_mul hn hk
 have hlen:l.length=len:=by rw[← h.1,ints_length]
 have hfit:n*k≤8*l.length:=by have:=(jb_zero hj).1;omega
 have HFIT:Hid (∀ j,j<n→j*k+k≤8*l.length):=by
  intro j hj
  have:(j+1)*k≤n*k:=Nat.mul_le_mul_right k hj
  rw[Nat.add_mul] at this
  omega
 have H:=hide h
 have H2:=hide h256
 have hd:decide ((n:Int)<0)=false:=by simp
 have hi:(n:Int)*(k:Int)=((n*k:Nat):Int):=(Int.natCast_mul n k).symm
 obtain⟨i0,hi0,hz0,hz1,hz2⟩:=info_parts Tryz.infoU64
 have HI:=hide hi
 clear h h256 hfit
 generalize hN:n*k=N at hnk hj hi
 clear hN
 go_enter Tryz.func122,Tryz.ntmps122
 go_wp2_with (go_at_call 117;refine (may_yes _ _ (by omega) (by omega)).mono ?_;rintro e w' ⟨rfl,rfl⟩)
 refine (just_any _ _ _ l N _ H.out hm (by omega)).mono ?_
 rintro e w1 ⟨rfl,rfl⟩
 rw[hj]
 clear hj hi
 go_wp2_with fail
 refine (from_any _ _ _ l _ H.out hm).mono ?_
 rintro e w2 ⟨p,v,rfl,hr,hp,hv,hb⟩
 have hs:=hb.size
 go_wp2_with (at_make;refine wpList_make_full _ rfl _ _ 123 rfl w2.heap.size 49 i0 (.int .u64 0) 1 Tryz.underlying123 hi0 hz0 hz1 _ _ _ _ n rfl rfl rfl rfl (by rw[hz2];omega) (by unfold maxLen;omega) (Nat.le_refl _) ?_)
 intro w3 ho hg
 have hr3:Rd w3 p v l 0:=hr.kept ((Kept.refl (fun _=>False) _).grown hg (by simp)) (by simp) (by simp)
 have hb3:Below w1.heap.size w1 w3:=hb.grown hg hs (by simp)
 have hpg:=hr.lt
 have HVG:Hid (∀ g,v.ownBlock=some g→g≠w2.heap.size):=fun g hg=>by have:=(owns_lt hr.2.1 hg).2;omega
 have ho3:w3.ownsRow w1.heap.size 49 1 (.slice (some ⟨w2.heap.size,0,none⟩) n n) n (some0 l n k 0):=by
  rw[some0_zero]
  have h:=owns_base (base':=w1.heap.size) ho (fun g hg=>by have:=(owns_lt ho hg).1;omega)
  rw[toList_madeCells_one] at h
  exact h
 clear hr hb ho hg hv
 go_wp2_with fail
 go_loopw [37] (fun i wr=>∃ j:Nat,j≤n∧i=.int .i64 j∧Rd wr p v l (j*k)∧wr.ownsRow w1.heap.size 49 1 (.slice (some ⟨w2.heap.size,0,none⟩) n n) n (some0 l n k j)∧Below w1.heap.size w1 wr) (fun i _=>n - (intOf i).toNat)
 case atStart=>exact⟨0,Nat.zero_le _,rfl,by simpa using hr3,ho3,hb3⟩
 case round =>
  obtain⟨j,hj,rfl,hrr,hor,hbr⟩:=hrel
  by_cases hlt:j<n
  ·go_wp2_with fail
   refine (get_yes p v l (j*k) k wr hrr (by omega) H2.out hk (HFIT.out j hlt)).mono ?_
   rintro e w4 ⟨rfl,hr4,hk4⟩
   have ho4:=owns_of_block hor (fun g hg=>hk4.block g (owns_lt hor hg).2 (by simp[Value.ownBlock] at hg;omega))
   have hb4:Below w1.heap.size w1 w4:=hbr.trans (hk4.below (by have:=hbr.size;omega) (by intro x hx;omega))
   have hc4:=ho4.cellAt j (by omega)
   rw[some0_at l n k j hlt] at hc4
   have hf4:=ho4.frozenAt j
   have HO:=hide (ho4.stored j (.int .u64 ((getV l (j*k) k:Nat):Int))).1
   have HB:=hide hb4
   have HR:=hide hr4
   clear ho4 hb4 hr4 hk4 hrr hor hbr
   go_wp2
   go_roundw
   case rel =>
    refine⟨j+1,by omega,by go_num,?_,?_,?_⟩
    ·rw[Nat.add_mul,Nat.one_mul]
     obtain⟨h1,h2,h3⟩:=HR.out
     refine⟨?_,ownsRow_setCell_other h2 (fun e=>HVG.out _ e rfl) _,h3⟩
     rw[Below.heap_setCell _ _ _ _ (by show p≠w2.heap.size;omega)];exact h1
    ·rw[← some0_set l n k j hlt];exact HO.out
    ·exact HB.out.setCell (by show w1.heap.size≤w2.heap.size;omega) _
   case measure=>simp[intOf];omega
  ·have hjn:j=n:=by omega
   subst hjn
   go_wp2
   go_ret2
   rw[some0_all] at hor
   exact⟨_,rfl,hor,hbr⟩
def bt (l:List Int) (k j q:Nat):List Bool:=bitsAll (l.take j) k++A.bitsOf (l.getD j 0).toNat q
theorem tail_zero (l:List Nat) (n:Nat) (hl:l.length=(n+7) / 8) (h256:∀ x∈l,x<256) (h:∀ i,n≤i→i<8*l.length→(A.bitsB l).getD i false=false):jb l n=0:=by
 unfold jb
 rw[if_neg (by omega),if_neg (by omega),if_neg]
 rintro⟨h8,hy⟩
 have hlast:(n+7) / 8 - 1<l.length:=by omega
 have hy256:l.getD ((n+7) / 8 - 1) 0<256:=by
  have:l.getD ((n+7) / 8 - 1) 0=l[(n+7) / 8 - 1]:=by simp[List.getD,hlast]
  rw[this];exact h256 _ (List.getElem_mem _)
 generalize hY:l.getD ((n+7) / 8 - 1) 0=y at hy hy256
 have hge:2^(n%8)≤y:=by
  rcases Nat.lt_or_ge y (2^(n%8)) with h'|h'
  ·exact absurd (Nat.div_eq_of_lt h') hy
  ·exact h'
 have hy0:y≠0:=by have:=Nat.two_pow_pos (n%8);omega
 have hlog:y.log2<8:=(Nat.log2_lt hy0).2 (by omega)
 have hlg:n%8≤y.log2:=(Nat.le_log2 hy0).2 hge
 have hb:=h (n - n%8+y.log2) (by omega) (by omega)
 rw[A.bitsB_getD l _ (by omega)] at hb
 have e1:(n - n%8+y.log2) / 8=(n+7) / 8 - 1:=by omega
 have e2:(n - n%8+y.log2)%8=y.log2:=by omega
 rw[e1,e2,hY] at hb
 have hs:=Nat.log2_self_le hy0
 have ht:y<2^(y.log2+1):=Nat.lt_log2_self
 have hd:y / 2^y.log2=1:=by
  rw[Nat.pow_succ] at ht
  have hp:=Nat.two_pow_pos y.log2
  have h1:1≤y / 2^y.log2:=(Nat.le_div_iff_mul_le hp).2 (by omega)
  have h2:y / 2^y.log2<2:=(Nat.div_lt_iff_lt_mul hp).2 (by omega)
  omega
 rw[hd] at hb
 simp at hb
theorem pack_i (ao:Option Addr) (len cap:Nat) (l:List Int) (k:Int) (w:World) (h:Sl w .u64 ao len cap l) (hm:len*64+64<1099511627776) (hin:In64 l) (hk0:0≤k) (hk:k≤64) :
  Calls Tryz.prog 76 #[.slice ao len cap,.int .i64 k] w fun e w' =>
   (Fit l k.toNat∧∃ v',e=.returned (.tuple #[v',.int .i64 0])∧w'.ownsRow w.heap.size 5 1 v' (A.bytesOf (bitsAll l k.toNat)).length (B8 (A.bytesOf (bitsAll l k.toNat)))∧Below w.heap.size w w') ∨
   (¬ Fit l k.toNat∧e=.returned (.tuple #[.slice none 0 0,.int .i64 1])∧Below w.heap.size w w'):=by
 obtain⟨j,rfl⟩:=Int.eq_ofNat_of_zero_le hk0
 rw[Int.toNat_natCast]
 exact pack_any ao len cap l j w h hm hin (by omega)
theorem unpack_bad (ao:Option Addr) (len cap:Nat) (l:List Nat) (n k:Int) (w:World) (h:Sl w .u8 ao len cap (ints l)) (hm:len≤140737488355328) (hn0:0≤n) (hn:n≤1048576) (hk0:0≤k) (hk:k≤64) (c:Int) (hj:((jb l (n.toNat*k.toNat):Nat):Int)=c) (hc:c≠0) :
  Calls Tryz.prog 122 #[.slice ao len cap,.int .i64 n,.int .i64 k] w fun e w'=>e=.returned (.tuple #[.slice none 0 0,.int .i64 c])∧w'=w:=by
 obtain⟨i,rfl⟩:=Int.eq_ofNat_of_zero_le hn0
 obtain⟨j,rfl⟩:=Int.eq_ofNat_of_zero_le hk0
 rw[Int.toNat_natCast,Int.toNat_natCast] at hj
 rw[← hj]
 exact unpack_no ao len cap l i j w h hm (by omega) (by omega) (by omega)
theorem unpack_good (ao:Option Addr) (len cap:Nat) (l:List Nat) (n k:Int) (w:World) (h:Sl w .u8 ao len cap (ints l)) (h256:∀ x∈l,x<256) (hm:len≤140737488355328) (hn0:0≤n) (hn:n≤1048576) (hk0:0≤k) (hk:k≤64) (hj:jb l (n.toNat*k.toNat)=0) :
  Calls Tryz.prog 122 #[.slice ao len cap,.int .i64 n,.int .i64 k] w fun e w'=>∃ v',e=.returned (.tuple #[v',.int .i64 0])∧w'.ownsRow w.heap.size 49 1 v' n.toNat ((nums l n.toNat k.toNat).map (Value.int .u64))∧Below w.heap.size w w':=by
 obtain⟨i,rfl⟩:=Int.eq_ofNat_of_zero_le hn0
 obtain⟨j,rfl⟩:=Int.eq_ofNat_of_zero_le hk0
 rw[Int.toNat_natCast,Int.toNat_natCast] at hj
 rw[Int.toNat_natCast,Int.toNat_natCast]
 exact unpack_yes ao len cap l i j w h h256 hm (by omega) (by omega) hj
end Go.Proofs.YtnkpgmibhpmdhaaGreat

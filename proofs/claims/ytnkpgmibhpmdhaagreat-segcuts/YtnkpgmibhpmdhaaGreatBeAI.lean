/- Contracts and plain facts, one behind the other: V11 TB T0 T2 -/
import Derived.RangeFuncNested
import Derived.RangeFuncBound
import Derived.RangeFuncCalls
import Derived.RangeFuncLeaves
import Derived.OrdersIn
import Derived.Shelf.Abstract
import Derived.OwnWalkIn
import Derived.TacticsInMore
import Derived.LoopNIn
import Derived.LoopIn
import Derived.Test.YtnkpgmibhpmdhaaGreatBeAH
namespace Go.Proofs.YtnkpgmibhpmdhaaGreat.V
set_option linter.unusedVariables false
open Go.RowKit
variable {P : Program}
def maskOf (acc:List Nat) (o:Oper):Nat:=o.after.toList.foldl (fun m e=>bif Region.binds .any e then m ||| (acc.getD e.on 0 ||| 2^e.on) else m) 0
def maskAt (l:List Oper) (acc:List Nat) (n:Nat):Nat:=match l[n]? with
 | some o=>maskOf acc o
 | none=>0
def masks (l:List Oper):Nat→List Nat
 | 0=>[]
 | n+1=>(fun acc=>acc++[maskAt l acc n]) (masks l n)
theorem masks_succ (l:List Oper) (n:Nat):masks l (n+1)=masks l n++[maskAt l (masks l n) n]:=rfl
theorem getD_snoc_lt {a:List Nat} {x i:Nat} (h:i<a.length):(a++[x]).getD i 0=a.getD i 0:=by simp[List.getD,List.getElem?_append_left h]
theorem getD_snoc_eq {a:List Nat} {x i:Nat} (h:a.length=i):(a++[x]).getD i 0=x:=by subst h;simp[List.getD]
def waitsM (M:List Nat) (k n:Nat):Bool:=(List.range n).all fun m=>decide (m<k)||(List.range m).all fun j=>(M.getD m 0).testBit j
def tailWaits (l:List Oper) (k:Nat):Bool:=waitsM (masks l l.length) k l.length
theorem masks_length (l:List Oper):∀ n,(masks l n).length=n
 | 0=>rfl
 | n+1=>by simp[masks,masks_length l n]
theorem fold_bit (acc:List Nat) (j:Nat):∀ (es:List Edge) (m0:Nat),(es.foldl (fun m e=>bif Region.binds .any e then m ||| (acc.getD e.on 0 ||| 2^e.on) else m) m0).testBit j=true→m0.testBit j=true∨∃ e∈es,Region.binds .any e=true∧((acc.getD e.on 0).testBit j=true∨j=e.on)
 | [],m0,h=>.inl h
 | e :: r,m0,h=>by
  simp only[List.foldl_cons] at h
  rcases fold_bit acc j r _ h with h1|⟨x,hx,h2⟩
  ·cases hb:Region.binds .any e with
   | false=>rw[hb] at h1;exact .inl h1
   | true =>
    rw[hb] at h1
    simp only[cond_true,Nat.testBit_or,Bool.or_eq_true,Nat.testBit_two_pow,decide_eq_true_eq] at h1
    rcases h1 with h1|h1|h1
    ·exact .inl h1
    ·exact .inr ⟨e,by simp,hb,.inl h1⟩
    ·exact .inr ⟨e,by simp,hb,.inr h1.symm⟩
  ·exact .inr ⟨x,by simp[hx],h2⟩
def Sat (ops:Array Oper) (listed:Array Bool) (i:Nat):Prop:=∀ o,ops[i]?=some o→∀ e∈o.after,Region.binds .any e=true→listed.getD e.on false=true
def Closed (ops:Array Oper) (listed:Array Bool):Prop:=∀ i,listed.getD i false=true→Sat ops listed i
theorem masks_sat {l:List Oper} {listed:Array Bool} (hc:Closed l.toArray listed):∀ n i,i<n→∀ j,Sat l.toArray listed i→((masks l n).getD i 0).testBit j=true→listed.getD j false=true
 | 0,i,hi,_,_,_=>by omega
 | n+1,i,hi,j,hs,hj=>by
  have hlen:=masks_length l n
  rw[masks_succ] at hj
  by_cases hin:i<n
  ·rw[getD_snoc_lt (by omega)] at hj
   exact masks_sat hc n i hin j hs hj
  ·obtain rfl:i=n:=by omega
   rw[getD_snoc_eq hlen] at hj
   unfold maskAt at hj
   cases ho:l[i]? with
   | none=>rw[ho] at hj;simp at hj
   | some o =>
    rw[ho] at hj
    have hoa:l.toArray[i]?=some o:=by simpa using ho
    rcases fold_bit (masks l i) j o.after.toList 0 hj with h1|⟨e,he,hb,h1⟩
    ·simp at h1
    ·have hle:=hs o hoa e (by simpa using he) hb
     rcases h1 with h1|rfl
     ·by_cases hei:e.on<i
      ·exact masks_sat hc i e.on hei j (hc e.on hle) h1
      ·simp[List.getD,List.getElem?_eq_none (show (masks l i).length≤e.on by omega)] at h1
     ·exact hle
theorem tail_all {l:List Oper} {k m:Nat} {listed:Array Bool} (ht:tailWaits l k=true) (hc:Closed l.toArray listed) (hm:m<l.length) (hk:k≤m) (hs:Sat l.toArray listed m):∀ j,j<m→listed.getD j false=true:=by
 intro j hj
 simp only[tailWaits,waitsM,List.all_eq_true,List.mem_range,Bool.or_eq_true,decide_eq_true_eq] at ht
 rcases ht m hm with h|h
 ·omega
 ·exact masks_sat hc l.length m hm j hs (h j hj)
theorem getD_set_same {a:Array Bool} {i:Nat} (h:i<a.size):(a.setIfInBounds i true).getD i false=true:=by simp[Array.getD,h]
theorem getD_set_ne {a:Array Bool} {i j:Nat} (h:i≠j):(a.setIfInBounds i true).getD j false=a.getD j false:=by
 simp[Array.getD_eq_getD_getElem?,Array.getElem?_setIfInBounds_ne h]
theorem Closed.step {ops:Array Oper} {listed:Array Bool} {i:Nat} (h:Closed ops listed) (hs:Sat ops listed i):Closed ops (listed.setIfInBounds i true):=by
 have mono:∀ k,listed.getD k false=true→(listed.setIfInBounds i true).getD k false=true:=by
  intro k hk
  by_cases hik:i=k
  ·subst hik
   have:i<listed.size:=by
    by_cases hlt:i<listed.size
    ·exact hlt
    ·simp[Array.getD,hlt] at hk
   exact getD_set_same this
  ·rw[getD_set_ne hik];exact hk
 intro k hk o ho e he hb
 by_cases hik:i=k
 ·subst hik;exact mono _ (hs o ho e he hb)
 ·rw[getD_set_ne hik] at hk
  exact mono _ (h k hk o ho e he hb)
theorem count_set {listed:Array Bool} {i fuel:Nat} (hil:i<listed.size) (hi2:listed.getD i true=false) (hc:listed.toList.count false≤fuel+1):(listed.setIfInBounds i true).toList.count false≤fuel:=by
 have hf:listed[i]=false:=by simpa [Array.getD,hil] using hi2
 have h1:(listed.setIfInBounds i true).toList=listed.toList.set i true:=by simp
 have h2:=List.count_set (a:=true) (b:=false) (l:=listed.toList) (i:=i) (h:=by simpa using hil)
 rw[h1,h2]
 simp[hf]
 have:false∈listed.toList:=by rw[← hf];simp
 have:=List.count_pos_iff.2 this
 simp at this hc
 omega
def ordL:Nat→List Oper→Bool
 | _,[]=>true
 | i,o :: r=>o.after.toList.all (fun e=>!Region.binds .any e||decide (e.on<i))&&ordL (i+1) r
theorem ordL_get:∀ {l:List Oper} {k i:Nat} {o:Oper},ordL k l=true→l[i]?=some o→∀ e∈o.after,Region.binds .any e=true→e.on<k+i
 | [],_,_,_,_,h=>by simp at h
 | x :: r,k,0,o,h,ho=>by
  simp at ho;subst ho
  simp only[ordL,Bool.and_eq_true,List.all_eq_true] at h
  intro e he hb
  have:=h.1 e (by simpa using he)
  simp[hb] at this
  omega
 | x :: r,k,i+1,o,h,ho=>by
  simp at ho
  simp only[ordL,Bool.and_eq_true] at h
  intro e he hb
  have:=ordL_get h.2 ho e he hb
  omega
theorem all_listed' {l:List Oper} {listed:Array Bool} (hl:ordL 0 l=true) (hsz:listed.size=l.length) (hr:Region.ready .any l.toArray listed=[]):∀ i,i<l.length→listed.getD i false=true:=by
 intro i
 induction i using Nat.strongRecOn with
 | _ i ih =>
  intro hi
  cases hg:listed.getD i false with
  | true=>rfl
  | false =>
   exfalso
   have ho:l.toArray[i]?=some l[i]:=by simp[hi]
   have hord:=ordL_get hl (i:=i) (o:=l[i]) (by simp[hi])
   have hin:i∈Region.ready .any l.toArray listed:=by
    simp only[Region.ready,List.mem_filter,List.mem_range,Bool.and_eq_true]
    refine⟨by simpa using hi,?_,?_⟩
    ·have:listed.getD i true=false:=by
      have h1:i<listed.size:=by omega
      simp[Array.getD,h1] at hg ⊢
      exact hg
     simp[this]
    ·rw[ho]
     simp only[Option.map_some,Option.getD_some]
     rw[Array.all_eq_true]
     intro k hk
     cases hb:Region.binds .any l[i].after[k] with
     | false=>rfl
     | true =>
      have he:=hord l[i].after[k] (by simp) hb
      have:=ih l[i].after[k].on (by omega) (by omega)
      simpa using this
   rw[hr] at hin
   simp at hin
theorem wpAny_tail {l:List Oper} {k:Nat} {Q:Exit→Act→World→Prop} (hl:ordL 0 l=true) (ht:tailWaits l k=true) :
  ∀ (fuel:Nat) (m:Nat) (listed:Array Bool) (a:Act) (w:World),listed.size=l.length→k≤m→m≤l.length→Closed l.toArray listed→(∀ j,j<l.length→(listed.getD j false=true↔j<m))→listed.toList.count false≤fuel→wpList P l.toArray Q (l.drop m) a w→wpAny P .any l.toArray Q fuel listed a w:=by
 intro fuel
 induction fuel with
 | zero =>
  intro m listed a w hsz hk hm hc hls hcnt hw
  have hall:∀ i,i<l.toArray.size→listed.getD i false=true:=by
   intro i hi
   have hi':i<listed.size:=by rw[hsz];simpa using hi
   cases hx:listed[i] with
   | true=>simp[Array.getD,hi',hx]
   | false =>
    have:false∈listed.toList:=by rw[← hx];simp
    have:=List.count_pos_iff.2 this
    omega
  have hml:m=l.length:=by
   rcases Nat.lt_or_ge m l.length with h|h
   ·have:=(hls m h).1 (hall m (by simpa using h))
    omega
   ·omega
  subst hml
  rw[List.drop_length] at hw
  exact wpAny_all hall hw 0
 | succ fuel ih =>
  intro m listed a w hsz hk hm hc hls hcnt hw
  rcases Nat.lt_or_ge m l.length with hml|hml
  ·refine⟨fun hr=>?_,fun i hi=>?_⟩
   ·exfalso
    have:=all_listed' hl hsz hr m hml
    have:=(hls m hml).1 this
    omega
   ·obtain⟨o,ho,hi1,hi2,hi3⟩:=ready_get hi
    have hil:i<l.length:=by simpa using hi1
    have hnl:listed.getD i false=false:=by
     have hi':i<listed.size:=by omega
     simp[Array.getD,hi'] at hi2 ⊢
     exact hi2
    have hmi:m≤i:=by
     rcases Nat.lt_or_ge i m with h|h
     ·have:=(hls i hil).2 h
      rw[this] at hnl;cases hnl
     ·exact h
    have hsat:Sat l.toArray listed i:=fun o' ho' e he hb=>by
     rw[ho] at ho'
     obtain rfl:=Option.some.inj ho'
     exact hi3 e he hb
    obtain rfl:i=m:=by
     rcases Nat.lt_or_ge m i with h|h
     ·have h1:=tail_all ht hc hil (by omega) hsat m h
      have h2:=(hls m hml).1 h1
      omega
     ·omega
    have hol:l[i]?=some o:=by simpa using ho
    have hdrop:l.drop i=o :: l.drop (i+1):=by
     rw[List.drop_eq_getElem_cons hil]
     congr 1
     exact (List.getElem?_eq_some_iff.1 hol).2
    rw[hdrop] at hw
    have hnext:∀ a' w',wpList P l.toArray Q (l.drop (i+1)) a' w'→wpAny P .any l.toArray Q fuel (listed.setIfInBounds i true) a' w':=by
     intro a' w' h
     refine ih (i+1) _ a' w' (by simpa using hsz) (by omega) (by omega) (hc.step hsat) (fun j hj=>?_) (count_set (by omega) hi2 hcnt) h
     by_cases hij:i=j
     ·subst hij
      rw[getD_set_same (by omega)]
      exact⟨fun _=>by omega,fun _=>rfl⟩
     ·rw[getD_set_ne hij,hls j hj]
      omega
    unfold wpOp
    rw[ho]
    simp only[wpList] at hw
    by_cases hwn:Region.wanted o (yielded l.toArray a.tmps)=true
    ·simp only[hwn,if_true] at hw ⊢
     rcases hw with hw|hw
     ·exact .inl (Oper.wp_mono hnext hw)
     ·exact .inr hw
    ·simp only[hwn] at hw ⊢
     exact hnext _ _ hw
  ·obtain rfl:m=l.length:=by omega
   rw[List.drop_length] at hw
   exact wpAny_all (fun i hi=>(hls i (by simpa using hi)).2 (by simpa using hi)) hw _
def baseK (l:List Oper) (k d:Nat):Bool:=(l.take k).all fun p=>p.dst != some d
def okF (bs:List Nat) (l:List Oper) (k n:Nat) (o:Oper):Bool:=(o.looksAt l.toArray).all (fun d=>(bs.contains d&&baseK l k d)||edge l.toArray o d)&&o.dst.all (fun d=>decide (d<n))
def okK (bs:List Nat) (l:List Oper) (k n:Nat):Bool:=nodup ((l.take k).filterMap (·.dst))&&(l.take k).all (okF bs l k n)&&bs.all (baseK l k)&&ordL 0 l
structure InvK (l:List Oper) (k:Nat) (bs:List Nat) (tbl:List (Nat × Ent)) (w0:World) (a0:Act) (listed:Array Bool) (a:Act) (w:World):Prop where
 sz:listed.size=l.length
 bel:Below w0.heap.size w0 w
 defers:a.defers=a0.defers
 tsize:a.tmps.size=a0.tmps.size
 bases:∀ d,d∈bs→(V.get tbl d).p (a.eval (.tmp d)) w
 others:∀ d,baseK l k d=true→a.eval (.tmp d)=a0.eval (.tmp d)
 known:∀ i o d,(l.take k)[i]?=some o→listed.getD i false=true→o.dst=some d→(V.get tbl d).p (a.eval (.tmp d)) w
theorem InvK.step {l:List Oper} {k:Nat} {bs:List Nat} {tbl:List (Nat × Ent)} {w0 w w':World} {a0 a:Act} {listed:Array Bool} (hok:okK bs l k a0.tmps.size=true) (h:InvK l k bs tbl w0 a0 listed a w) {i:Nat} {o:Oper} (ho:(l.take k)[i]?=some o)
  (hb:Below w.heap.size w w') {v:Value} (hv:∀ d,o.dst=some d→(V.get tbl d).p v w'):InvK l k bs tbl w0 a0 (listed.setIfInBounds i true) (a.put o.dst v) w':=by
 simp only[okK,Bool.and_eq_true] at hok
 obtain⟨⟨⟨hnd,hf⟩,hbase⟩,hord⟩:=hok
 have hom:=List.mem_of_getElem? ho
 have hoo:=List.all_eq_true.1 hf o hom
 simp only[okF,Bool.and_eq_true] at hoo
 have hdl:∀ d,o.dst=some d→d<a.tmps.size:=fun d hd=>by
  have:=hoo.2
  rw[hd] at this
  rw[h.tsize]
  simpa using this
 have hnb:∀ d,baseK l k d=true→o.dst≠some d:=fun d hd e=>by
  have h2:=List.all_eq_true.1 hd o hom
  simp[e] at h2
 have hsz:=h.bel.size
 refine⟨by simp[h.sz],h.bel.trans (hb.mono hsz),?_,?_,?_,?_,?_⟩
 ·rw[← h.defers];cases o.dst<;>rfl
 ·rw[← h.tsize];cases o.dst<;>simp[Act.put]
 ·intro d hd
  rw[Act.eval_put (fun x hx e=>?_)]
  ·exact (V.get tbl d).mono hb (h.bases d hd)
  ·injection e with e
   subst e
   exact hnb _ (List.all_eq_true.1 hbase _ hd) hx
 ·intro d hd
  rw[Act.eval_put (fun x hx e=>?_)]
  ·exact h.others d hd
  ·injection e with e
   subst e
   exact hnb _ hd hx
 ·intro j p d hp hlj hpd
  by_cases hij:i=j
  ·subst hij
   rw[ho] at hp
   obtain rfl:=Option.some.inj hp
   rw[hpd,eval_put_same (hdl d hpd)]
   exact hv d hpd
  ·rw[getD_set_ne hij] at hlj
   rw[Act.eval_put (fun x hx e=>?_)]
   ·exact (V.get tbl d).mono hb (h.known j p d hp hlj hpd)
   ·injection e with e
    subst e
    exact hij (nodup_uniq hnd ho hp hx hpd)
theorem wpAny_front {l:List Oper} {bs:List Nat} {tbl:List (Nat × Ent)} {w0:World} {a0:Act} {Q:Exit→Act→World→Prop} (k:Nat) (hkl:k<l.length) (hok:okK bs l k a0.tmps.size=true) (ht:tailWaits l k=true) (hs:Steps P l.toArray Q tbl w0 (l.take k))
  (hd:∀ a w,Below w0.heap.size w0 w→a.defers=a0.defers→a.tmps.size=a0.tmps.size→(∀ d,baseK l k d=true→a.eval (.tmp d)=a0.eval (.tmp d))→(∀ (i:Nat) (o:Oper) (d:Nat),(l.take k)[i]?=some o→o.dst=some d→(V.get tbl d).p (a.eval (.tmp d)) w)→wpList P l.toArray Q (l.drop k) a w) :
  ∀ (fuel:Nat) (listed:Array Bool) (a:Act) (w:World),InvK l k bs tbl w0 a0 listed a w→Closed l.toArray listed→(∀ j,k≤j→listed.getD j false=false)→listed.toList.count false≤fuel→wpAny P .any l.toArray Q fuel listed a w:=by
 have hok':=hok
 simp only[okK,Bool.and_eq_true] at hok'
 obtain⟨⟨⟨hnd,hf⟩,hbase⟩,hord⟩:=hok'
 intro fuel
 induction fuel with
 | zero =>
  intro listed a w hI hc hn hcnt
  exfalso
  have hlt:k<listed.size:=by rw[hI.sz];exact hkl
  have h1:listed[k]=false:=by simpa [Array.getD,hlt] using hn k (Nat.le_refl _)
  have:false∈listed.toList:=by rw[← h1];simp
  have:=List.count_pos_iff.2 this
  omega
 | succ fuel ih =>
  intro listed a w hI hc hn hcnt
  have hsz:=hI.sz
  -- are all of the front listed?
  by_cases hall:∀ j,j<k→listed.getD j false=true
  ·refine wpAny_tail hord ht (fuel+1) k listed a w hsz (Nat.le_refl _) (by omega) hc (fun j hj=>?_) hcnt ?_
   ·constructor
    ·intro h
     rcases Nat.lt_or_ge j k with h1|h1
     ·exact h1
     ·rw[hn j h1] at h;cases h
    ·exact hall j
   ·exact hd a w hI.bel hI.defers hI.tsize hI.others (fun i o d hio hod=>by
     have hik:i<k:=by have:=(List.getElem?_eq_some_iff.1 hio).1;simp at this;omega
     exact hI.known i o d hio (hall i hik) hod)
  ·refine⟨fun hr=>?_,fun i hi=>?_⟩
   ·exfalso
    apply hall
    intro j hj
    exact all_listed' hord hsz hr j (by omega)
   ·obtain⟨o,ho,hi1,hi2,hi3⟩:=ready_get hi
    have hil:i<l.length:=by simpa using hi1
    have hsat:Sat l.toArray listed i:=fun o' ho' e he hb=>by
     rw[ho] at ho'
     obtain rfl:=Option.some.inj ho'
     exact hi3 e he hb
    have hik:i<k:=by
     rcases Nat.lt_or_ge i k with h|h
     ·exact h
     ·exfalso
      apply hall
      intro j hj
      exact tail_all ht hc hil h hsat j (by omega)
    have hti:(l.take k)[i]?=some o:=by rw[List.getElem?_take_of_lt hik];simpa using ho
    have hoo:=List.all_eq_true.1 hf o (List.mem_of_getElem? hti)
    simp only[okF,Bool.and_eq_true] at hoo
    have hord_i:=ordL_get hord (i:=i) (o:=o) (by simpa using ho)
    have hk:∀ d,(o.looksAt l.toArray).contains d=true→(V.get tbl d).p (a.eval (.tmp d)) w:=by
     intro d hd
     have h1:=List.all_eq_true.1 hoo.1 d (by simpa using hd)
     simp only[Bool.or_eq_true,Bool.and_eq_true] at h1
     rcases h1 with ⟨h1,_⟩|h1
     ·exact hI.bases d (by simpa using h1)
     ·simp only[edge,List.any_eq_true,Bool.and_eq_true,beq_iff_eq] at h1
      obtain⟨e,he,hbd,hx⟩:=h1
      have hei:=hord_i e (by simpa using he) hbd
      cases hp:l.toArray[e.on]? with
      | none=>rw[hp] at hx;simp at hx
      | some p =>
       rw[hp] at hx
       have hpt:(l.take k)[e.on]?=some p:=by rw[List.getElem?_take_of_lt (by omega)];simpa using hp
       exact hI.known _ p d hpt (hi3 e (by simpa using he) hbd) hx
    have hn':∀ j,k≤j→(listed.setIfInBounds i true).getD j false=false:=fun j hj=>by
     rw[getD_set_ne (by omega)];exact hn j hj
    have hcnt':=count_set (by omega) hi2 hcnt
    unfold wpOp
    rw[ho]
    rcases hs.get hti a w hI.bel hk with ⟨hw,hwp⟩|⟨hw,hv⟩
    ·simp only[hw,if_true]
     refine .inl (Oper.wp_mono (fun a' w' h=>?_) hwp)
     obtain⟨hb,v,rfl,hv⟩:=h
     exact ih _ _ _ (hI.step hok hti hb hv) (hc.step hsat) hn' hcnt'
    ·simp only[hw]
     exact ih _ _ _ (hI.step hok hti (Below.refl _ _) hv) (hc.step hsat) hn' hcnt'
theorem any_region_tail {l:List Oper} {Q:Exit→Act→World→Prop} {a:Act} {w w0:World} (k:Nat) (ds bs:List Nat) (tbl:List (Nat × Ent)) (hkl:k<l.length) (hds:(l.take k).filterMap (·.dst)=ds) (hok:okK bs l k a.tmps.size=true) (ht:tailWaits l k=true) (hw:Below w0.heap.size w0 w) (hb:∀ d,d∈bs→(V.get tbl d).p (a.eval (.tmp d)) w.drew) (hs:Steps P l.toArray Q tbl w0 (l.take k))
  (hd:∀ (vs:Nat→Value) w',Below w0.heap.size w0 w'→(∀ (i:Nat) (o:Oper) (d:Nat),(l.take k)[i]?=some o→o.dst=some d→(V.get tbl d).p (vs d) w')→wpList P l.toArray Q (l.drop k) (puts a ds vs) w'):wpAny P .any l.toArray Q l.toArray.size (Array.replicate l.toArray.size false) a w.drew:=by
 refine wpAny_front (bs:=bs) (tbl:=tbl) (w0:=w0) (a0:=a) k hkl hok ht hs (fun a' w' h1 h2 h4 h5 h3=>?_) _ _ _ _ ?_ ?_ ?_ ?_
 ·have e:a'=puts a ds (fun d=>a'.eval (.tmp d)):=by
   obtain⟨p1,p2,p3⟩:=puts_get (fun d=>a'.eval (.tmp d)) ds a
   refine act_ext (Array.ext_getElem? fun d=>?_) (by rw[h2,p1])
   rw[p3 d]
   by_cases hl:d<a.tmps.size
   ·rw[eval_get (by rw[h4];exact hl),eval_get hl]
    by_cases hd:d∈ds
    ·rw[if_pos ⟨hd,hl⟩]
    ·rw[if_neg (fun h=>hd h.1),h5 d]
     simp only[baseK,List.all_eq_true]
     intro o ho
     have:d ∉ (l.take k).filterMap (·.dst):=by rw[hds];exact hd
     simp only[List.mem_filterMap,not_exists,not_and] at this
     simpa using this o ho
   ·rw[if_neg (fun h=>hl h.2),Array.getElem?_eq_none (by omega),Array.getElem?_eq_none (by omega)]
  have:=hd (fun d=>a'.eval (.tmp d)) w' h1 h3
  rw[← e] at this
  exact this
 ·exact⟨by simp,hw.drew,rfl,rfl,hb,fun _ _=>rfl,fun i o d _ h=>by simp[Array.getD] at h⟩
 ·intro i h
  simp[Array.getD] at h
 ·intro j _
  simp[Array.getD]
 ·simp
theorem wp_region_tail {id:Nat} {l:List Oper} {Q:Exit→Act→World→Prop} {a:Act} {w w0:World} (k:Nat) (ds bs:List Nat) (tbl:List (Nat × Ent)) (hkl:k<l.length) (hds:(l.take k).filterMap (·.dst)=ds) (hm:P.follows .mixedOrders=true) (hok:okK bs l k a.tmps.size=true) (ht:tailWaits l k=true) (hw:Below w0.heap.size w0 w) (hb:∀ d,d∈bs→(V.get tbl d).p (a.eval (.tmp d)) w.drew) (hs:Steps P l.toArray Q tbl w0 (l.take k))
  (hd:∀ (vs:Nat→Value) w',Below w0.heap.size w0 w'→(∀ (i:Nat) (o:Oper) (d:Nat),(l.take k)[i]?=some o→o.dst=some d→(V.get tbl d).p (vs d) w')→wpList P l.toArray Q (l.drop k) (puts a ds vs) w'):(Code.region id l.toArray true).wp P Q a w :=
 wp_region_any hm (any_region_tail k ds bs tbl hkl hds hok ht hw hb hs hd)
end Go.Proofs.YtnkpgmibhpmdhaaGreat.V
namespace Go.Proofs.YtnkpgmibhpmdhaaGreat
set_option linter.unusedVariables false
open Go.RowKit
theorem calls_marks {P:Program} {f:FuncId} {fn:Func} {c:Code} {args:Array Value} {w:World} {R:Ending→World→Prop}
  (hf:P.funcs[f]?=some fn) (hb:fn.body=some c)
  (h:c.wp P (bodyPostM Fence.wide 9 P fn R) { tmps:=args++Array.replicate (fn.ntmps - args.size) undef,defers:=[] } w):Calls P f args w R :=
 (callsIn_wide (n:=9)).1 (callsIn_of_wp_marks hf hb trivial (wpIn_wide.2 h) rfl)
theorem rows_in {P:Program} {l n:Nat} {row:String} {args:Array Value} {w:World} {R:Value→World→Prop} (h:Rows P row args w R):RowsIn (Fence.wide.inRound l) n P row args w R :=
 fun c cs _=>let ⟨v,w',r,s⟩:=h c cs;⟨v,w',r,stepsIn_wide.2 s⟩
theorem oper_in {P:Program} {l n:Nat} {o:Oper} {a:Act} {w:World} {K:Act→World→Prop} {Q:Exit→Act→World→Prop} (hnd:∀ c,o.op≠.defer c) (h:o.wp P a w K Q):o.wpIn (Fence.wide.inRound l) n P a w K Q:=by
 refine⟨fun _ _=>trivial,?_⟩
 rw[Fence.inRound_round,Oper.semAt_eq _ _ _ hnd]
 unfold Oper.wp at h
 generalize (execOp a.eval o).run P w=r at *
 cases r with
 | ok x w' =>
  cases x<;>simp only[Oper.upon,Oper.uponIn] at h ⊢ <;>
   first
    | exact h
    | exact⟨by simp[Fence.wide],(callsIn_wide.2 h).inRound l⟩
    | exact⟨by simp[Fence.wide],rows_in h⟩
 | halt x w'=>cases x<;>simp only[Oper.upon,Oper.uponIn] at h ⊢<;>exact h
def noDefer (o:Oper):Bool:=match o.op with
 | .defer _=>false
 | _=>true
theorem noDefer_op {o:Oper} (h:noDefer o=true):∀ c,o.op≠.defer c:=by
 intro c hc
 unfold noDefer at h
 rw[hc] at h
 exact absurd h (by simp)
theorem wpAny_in {P:Program} {l n:Nat} {md:Region.Mode} {ops:Array Oper} {Q:Exit→Act→World→Prop} (hnd:ops.toList.all noDefer=true) (hq:¬ LetsOut Q) :
  ∀ (fuel:Nat) (listed:Array Bool) (a:Act) (w:World),wpAny P md ops Q fuel listed a w→wpAnyIn (Fence.wide.inRound l) n P md ops Q fuel listed a w:=by
 intro fuel
 induction fuel with
 | zero=>intro listed a w h;exact h
 | succ fuel ih =>
  intro listed a w h
  refine⟨h.1,fun i hi=>?_⟩
  have h2:=h.2 i hi
  unfold wpOp at h2
  unfold wpOpIn
  cases ho:ops[i]? with
  | none=>rw[ho] at h2;exact ih _ _ _ h2
  | some o =>
   rw[ho] at h2
   have hm:o∈ops.toList:=by
    have:=Array.mem_of_getElem? ho
    simpa using this
   have hn:=noDefer_op (List.all_eq_true.1 hnd o hm)
   simp only at h2 ⊢
   split at h2
   ·rename_i hw
    rw[if_pos hw]
    rcases h2 with h2|⟨_,h2⟩
    ·exact Oper.wpIn_mono (fun a w=>ih _ a w) (oper_in hn h2)
    ·exact absurd h2 hq
   ·rename_i hw
    rw[if_neg hw]
    exact⟨fun _ _=>trivial,ih _ _ _ h2⟩
theorem region_in {P:Program} {id l n:Nat} {ops:List Oper} {Q:Exit→Act→World→Prop} {a:Act} {w:World} (hm:P.follows .mixedOrders=true) (hnd:ops.all noDefer=true) (hq:¬ LetsOut Q)
  (h:wpAny P .any ops.toArray Q ops.toArray.size (Array.replicate ops.toArray.size false) a w.drew):(Code.region id ops.toArray true).wpIn (Fence.wide.inRound l) n P Q a w :=
 wpIn_region_any hm (wpAny_in (by simpa using hnd) hq _ _ _ _ h)
theorem Tryz.infoBool:(Tryz.prog.info? 4).map (fun i=>(i.zero,i.size,i.bytes))=some (some (.bool false),1,1):=by kernel_rfl
def Sb (w:World) (ao:Option Addr) (len cap:Nat) (l:List Bool):Prop :=
 l.length=len∧len≤cap∧cap≤maxLen∧(ao=none→cap=0)∧(len=0∨∃ b off,ao=some ⟨b,off,none⟩∧b<w.heap.size∧∀ i,i<len→w.cell? ⟨b,off+i,none⟩=some (.bool (l.getD i false)))
def Vb (l:List Bool):List Value:=l.map Value.bool
theorem Vb_length (a:List Bool):(Vb a).length=a.length:=by simp[Vb]
theorem Sb.below {w w':World} {ao:Option Addr} {len cap:Nat} {l:List Bool} (h:Sb w ao len cap l) (hb:Below w.heap.size w w'):Sb w' ao len cap l:=by
 obtain⟨h1,h2,h3,h4,h5⟩:=h
 refine⟨h1,h2,h3,h4,?_⟩
 rcases h5 with h5|⟨b,off,rfl,hlt,h5⟩
 ·exact .inl h5
 ·exact .inr ⟨b,off,rfl,by have:=hb.size;omega,fun i hi=>by rw[hb.cell (p:=⟨b,off+i,none⟩) hlt];exact h5 i hi⟩
theorem Sb.kept {F:Nat→Prop} {w w':World} {ao:Option Addr} {len cap:Nat} {l:List Bool} (h:Sb w ao len cap l) (hb:Kept F w w') (hf:∀ x,ao=some x→¬ F x.block):Sb w' ao len cap l:=by
 obtain⟨h1,h2,h3,h4,h5⟩:=h
 refine⟨h1,h2,h3,h4,?_⟩
 rcases h5 with h5|⟨b,off,rfl,hlt,h5⟩
 ·exact .inl h5
 ·exact .inr ⟨b,off,rfl,by have:=hb.size;omega,fun i hi=>by rw[hb.cell (p:=⟨b,off+i,none⟩) hlt (hf ⟨b,off,none⟩ rfl)];exact h5 i hi⟩
theorem Sb.of_owns {w:World} {base:Nat} {e:TypeId} {v:Value} {l:List Bool} (h:w.ownsRow base e 1 v l.length (Vb l)) :
  ∃ ao cap,v=.slice ao l.length cap∧Sb w ao l.length cap l∧v.ownBlock=ao.map (·.block):=by
 have h0:=h
 rcases h.2 with ⟨h1,h2⟩|⟨g,cap,cur,hv,hg,hh,hc,hm,_⟩
 ·have hl:l=[]:=List.eq_nil_of_length_eq_zero h2
  subst hl
  exact⟨none,0,h1,⟨rfl,Nat.le_refl _,by simp[maxLen],fun _=>rfl,.inl rfl⟩,by rw[h1];rfl⟩
 ·subst hv
  refine⟨some ⟨g,0,none⟩,cap,rfl,⟨rfl,hc,hm,by simp,.inr ⟨g,0,rfl,lt_of_block hh,fun i hi=>?_⟩⟩,rfl⟩
  rw[Nat.zero_add,h0.cellAt i (by omega)]
  simp[Vb,List.getD,hi]
theorem take_snocB (l:List Bool) (k:Nat) (h:k<l.length):l.take (k+1)=l.take k++[l.getD k false]:=by
 rw[List.take_succ_eq_append_getElem h];simp[List.getD,h]
theorem Sb.of_slice {w:World} {base:Nat} {e:TypeId} {ao:Option Addr} {n cap:Nat} {l:List Bool} (hn:l.length=n) (h:w.ownsRow base e 1 (.slice ao n cap) n (Vb l)):Sb w ao n cap l:=by
 subst hn
 obtain⟨ao',cap',hv,hs,_⟩:=Sb.of_owns h
 simp only[Value.slice.injEq,true_and] at hv
 obtain⟨rfl,rfl⟩:=hv
 exact hs
attribute [local go_sem] Oper.semAt_some
def plc (bs:List Bool) (len:Nat):Nat→List { i:Nat // i<len }
 | 0=>[]
 | k+1=>if h:k<len then (if bs.getD k false=true then plc bs len k else plc bs len k++[⟨k,h⟩]) else plc bs len k
theorem plc_yes (bs:List Bool) (len k:Nat) (h:k<len) (hb:bs.getD k false=true):plc bs len (k+1)=plc bs len k:=by
 simp only[plc,dif_pos h,if_pos hb]
theorem plc_no (bs:List Bool) (len k:Nat) (h:k<len) (hb:bs.getD k false=false):plc bs len (k+1)=plc bs len k++[⟨k,h⟩]:=by
 simp only[plc,dif_pos h,hb,Bool.false_eq_true,if_false]
theorem plc_mono (bs:List Bool) (len:Nat):∀ d k,(plc bs len k).length≤(plc bs len (k+d)).length
 | 0,k=>Nat.le_refl _
 | d+1,k=>by
  refine Nat.le_trans (plc_mono bs len d k) ?_
  rw[← Nat.add_assoc]
  by_cases h:k+d<len
  ·cases hb:bs.getD (k+d) false with
   | true=>rw[plc_yes bs len _ h hb];exact Nat.le_refl _
   | false=>rw[plc_no bs len _ h hb];simp
  ·simp[plc,h]
theorem plc_lt (bs:List Bool) (len k:Nat) (h:k<len) (hb:bs.getD k false=false):(plc bs len k).length<(plc bs len len).length:=by
 have h1:=plc_mono bs len (len - (k+1)) (k+1)
 rw[show k+1+(len - (k+1))=len by omega,plc_no bs len k h hb] at h1
 simp at h1
 omega
set_option maxRecDepth 100000 in
set_option maxHeartbeats 2000000 in
theorem there1_some (l Bs n₀ b off len cap:Nat) (bs:List Bool) (hm:len≤140737488355328) (hb:b<n₀) (J Jx:List { i:Nat // i<len }→World→Prop)
  (hY:∀ pre x W,J pre W→pre.length<(plc bs len len).length→YieldAt Fence.wide 7 Tryz.prog l #[.int .i64 ((x.1:Nat):Int)] W fun e W' =>
   (e=.returned (.bool true)∧J (pre++[x]) W'∧Below n₀ W W')∨(e=.returned (.bool false)∧Jx (pre++[x]) W'))
  (W:World) (hBs:W.cell? ⟨Bs,0,none⟩=some (.slice (some ⟨b,off,none⟩) len cap)) (hc:∀ i,i<len→W.cell? ⟨b,off+i,none⟩=some (.bool (bs.getD i false))) (h0:J [] W) :
  CallsIn Fence.wide 8 Tryz.prog 96 #[.func (.yield l) #[] #[],.pointer (some ⟨Bs,0,none⟩)] W fun e W'=>(∃ v,e=.returned v) ∧
   ((∃ ys,ys=plc bs len len∧J ys W')∨(∃ pre,True∧Jx pre W')):=by
 refine callsIn_of_wp Tryz.func96 rfl trivial ?_ rfl
 simp only[Tryz.ntmps96,List.size_toArray,List.length_cons,List.length_nil,Nat.reduceAdd,Nat.reduceSub,Array.replicate_succ,Array.replicate_zero,List.push_toArray,List.append_toArray,List.nil_append,List.cons_append]
 have HC:=hide hc
 clear hc
 gi_wp2
 gi_loopw [7] (fun i wr=>∃ k:Nat,k≤len∧i=.int .i64 k∧J (plc bs len k) wr∧Below n₀ W wr)
  (fun i _=>len - (intOf i).toNat)
 case atStart=>exact⟨0,Nat.zero_le _,rfl,h0,Below.refl _ _⟩
 case round =>
  obtain⟨k,hk,rfl,hJs,hnx⟩:=hrel
  by_cases hlt:k<len
  ·obtain⟨c,hcb⟩:∃ c,bs.getD k false=c:=⟨_,rfl⟩
   have hcx:wr.cell? ⟨b,off+k,none⟩=some (.bool c):=by rw[hnx.cell (p:=⟨b,off+k,none⟩) hb,HC.out k hlt,hcb]
   replace hcb:=hide hcb
   cases c with
   | true =>
    gi_wp2
    refine⟨fun _ h=>trivial,?_⟩
    gi_wp2
    go_roundw
    case rel=>exact⟨k+1,by omega,by simp,by rw[plc_yes bs len k hlt hcb.out];exact hJs,hnx⟩
    case measure=>simp[intOf];omega
   | false =>
    obtain⟨fn,tmps,assign,body,hy,hR⟩:=hY _ ⟨k,hlt⟩ wr hJs (plc_lt bs len k hlt hcb.out)
    dsimp only at hy
    gi_wp2
    refine hR.mono ?_
    rintro e W3 (⟨rfl,hJ3,hk3⟩|⟨rfl,hJx3⟩)
    ·gi_wp2
     go_roundw
     case rel=>exact⟨k+1,by omega,by simp,by rw[plc_no bs len k hlt hcb.out];exact hJ3,hnx.trans hk3⟩
     case measure=>simp[intOf];omega
    ·gi_wp2
     refine bodyPost_ret (results_none rfl _ _ _) rfl ?_
     exact⟨⟨_,rfl⟩,.inr ⟨_,trivial,hJx3⟩⟩
  ·obtain rfl:k=len:=by omega
   gi_wp2
   go_end0
   exact⟨⟨_,rfl⟩,.inl ⟨_,rfl,hJs⟩⟩
set_option maxRecDepth 100000 in
set_option maxHeartbeats 1000000 in
theorem there1_none (l Bs:Nat) (len:Nat) (ao:Option Addr) (cap:Nat) (J:List { i:Nat // i<len }→World→Prop) (W:World) (hBs:W.cell? ⟨Bs,0,none⟩=some (.slice ao 0 cap)) (h0:J [] W) :
  CallsIn Fence.wide 8 Tryz.prog 96 #[.func (.yield l) #[] #[],.pointer (some ⟨Bs,0,none⟩)] W fun e W'=>(∃ v,e=.returned v)∧J [] W':=by
 refine callsIn_of_wp Tryz.func96 rfl trivial ?_ rfl
 simp only[Tryz.ntmps96,List.size_toArray,List.length_cons,List.length_nil,Nat.reduceAdd,Nat.reduceSub,Array.replicate_succ,Array.replicate_zero,List.push_toArray,List.append_toArray,List.nil_append,List.cons_append]
 gi_wp2
 gi_loopw [7] (fun i wr=>i=.int .i64 0∧J [] wr) (fun _ _=>0)
 case atStart=>exact⟨rfl,h0⟩
 case round =>
  obtain⟨rfl,hJs⟩:=hrel
  gi_wp2
  go_end0
  exact⟨⟨_,rfl⟩,hJs⟩
theorem there_stops (Bs n₀:Nat) (ao:Option Addr) (len cap:Nat) (bs:List Bool) (w:World) (hBs:Bs<w.heap.size) (hn₀:n₀≤w.heap.size) (hm:len≤140737488355328)
  (hc:w.cell? ⟨Bs,0,none⟩=some (.slice ao len cap)) (hI:Sb w ao len cap bs) (hlow:∀ x,ao=some x→len≠0→x.block<n₀) :
  SeqStopsK Fence.wide 8 Tryz.prog 96 #[.pointer (some ⟨Bs,0,none⟩)] (fun x:{ i:Nat // i<len }=>#[Value.int .i64 ((x.1:Nat):Int)]) (Below n₀) (fun ys=>ys=plc bs len len) (fun _=>True) (plc bs len len).length w:=fun l J Jx W hW _ _ hY h0=>by
 have hc':=(hW.cell (p:=⟨Bs,0,none⟩) hBs).trans hc
 rcases (hI.below hW).2.2.2.2 with h5|⟨b,off,rfl,hlt,h5⟩
 ·subst h5
  exact (there1_none l Bs 0 ao cap J W hc' h0).mono fun e W' ⟨he,hj⟩=>⟨he,.inl ⟨_,rfl,hj⟩⟩
 ·by_cases h0':len=0
  ·subst h0'
   exact (there1_none l Bs 0 _ cap J W hc' h0).mono fun e W' ⟨he,hj⟩=>⟨he,.inl ⟨_,rfl,hj⟩⟩
  ·exact there1_some l Bs n₀ b off len cap bs hm (hlow _ rfl h0') J Jx hY W hc' h5 h0
set_option maxHeartbeats 1000000 in
theorem there_any (ao:Option Addr) (len cap:Nat) (w:World) :
  Calls Tryz.prog 58 #[.slice ao len cap] w fun e w'=>e=.returned (.func (.func 96) #[] #[.pointer (some ⟨w.heap.size,0,none⟩)])∧w'=w.alloc (.cells #[.slice ao len cap] 28):=by
 go_enter Tryz.func58,Tryz.ntmps58
 go_wp2
 go_ret
 exact⟨rfl,rfl⟩
def cntT (bs:List Bool):Nat:=bs.count true
theorem plc_count (bs:List Bool):∀ k,k≤bs.length→(plc bs bs.length k).length+cntT (bs.take k)=k
 | 0,_=>rfl
 | k+1,h=>by
  have ih:=plc_count bs k (by omega)
  rw[take_snocB bs k h]
  cases hb:bs.getD k false with
  | true =>
   rw[plc_yes bs bs.length k h hb]
   simp[cntT] at ih ⊢
   omega
  | false =>
   rw[plc_no bs bs.length k h hb]
   simp[cntT] at ih ⊢
   omega
theorem plc_all (bs:List Bool) {len:Nat} (hl:bs.length=len):(plc bs len len).length+cntT bs=len:=by
 subst hl
 have:=plc_count bs bs.length (Nat.le_refl _)
 rwa [List.take_length] at this
set_option maxRecDepth 100000 in
set_option maxHeartbeats 2000000 in
theorem zcount_any (ao:Option Addr) (len cap:Nat) (bs:List Bool) (w:World) (h:Sb w ao len cap bs) (hm:len≤140737488355328) :
  Calls Tryz.prog 57 #[.slice ao len cap] w fun e w'=>e=.returned (.int .i64 ((cntT bs:Nat):Int))∧Below w.heap.size w w':=by
 have HA:=hide (plc_all bs h.1)
 have H:=hide h
 have hlow:∀ x,ao=some x→len≠0→x.block<w.heap.size:=fun x hx h0=>by
  rcases h.2.2.2.2 with h5|⟨b,off,hao,hlt,h5⟩
  ·exact absurd h5 h0
  ·rw[hao] at hx;obtain rfl:=Option.some.inj hx;exact hlt
 have HLOW:=hide hlow
 clear h hlow
 refine calls_marks Tryz.func57 rfl ?_
 simp only[Tryz.ntmps57,List.size_toArray,List.length_cons,List.length_nil,Nat.reduceAdd,Nat.reduceSub,Array.replicate_succ,Array.replicate_zero,List.push_toArray,List.append_toArray,List.nil_append,List.cons_append]
 go_wp2_with fail
 refine (there_any _ _ _ _).mono ?_
 rintro e w1 ⟨rfl,rfl⟩
 go_wp2_with fail
 have bS:=Boxed.new w 3 (.int .i64 (len:Int))
 have bN:=Boxed.new (w.alloc (.cells #[.int .i64 (len:Int)] 3)) 28 (.slice ao len cap)
 rw[World.size_alloc] at bN
 have hB0:Below w.heap.size w ((w.alloc (.cells #[.int .i64 (len:Int)] 3)).alloc (.cells #[.slice ao len cap] 28)):=((Below.refl _ w).alloc (Nat.le_refl _) _).alloc (by simp) _
 refine (wpIn_wide (n:=9)).1 (wpIn_rangeFunc_ownG rfl (by decide) (gf:=96) (lb:=#[.pointer (some ⟨w.heap.size+1,0,none⟩)]) rfl trivial (enters_of Tryz.func96 (by kernel_rfl) rfl)
  (there_stops (w.heap.size+1) w.heap.size ao len cap bs _ (by simp) (by simp;omega) hm bN.cell (H.out.below hB0) HLOW.out) belowK_t (belowK_b (by simp;omega)) (Below.refl _ _) (fun _=>rfl)
  (fun pre W=>Boxed W w.heap.size 3 (.int .i64 ((len:Int) - (pre.length:Int)))∧Below w.heap.size w W)
  (fun _ _ _=>False)
  (OwnFrom.and (Own.from (boxed_own w.heap.size 3 fun pre:List { i:Nat // i<len }=>.int .i64 ((len:Int) - (pre.length:Int))) _) (ownFrom_below (Nat.le_refl _) (by simp;omega)))
  (fun _ _ _ _ _ hs _ _=>hs)
  ⟨by simpa using bS.alloc _,hB0⟩
  (fun x=>{ tmps:=#[.slice ao len cap,undef,.int .i64 0,.pointer (some ⟨w.heap.size,0,none⟩),.slice ao len cap,.int .i64 (len:Int),.slice ao len cap,.func (.func 96) #[] #[.pointer (some ⟨w.heap.size+1,0,none⟩)],.int .i64 ((x.1:Nat):Int),undef,undef,undef],defers:=[] }) ?assign ?body ?done ?stop)
 case assign =>
  intro l x W K hK
  gi_wp2
  simpa using hK
 case body =>
  rintro l pre x W ⟨hbx,hB⟩ hlt
  have hc:=hbx.cell
  have hf:=hbx.frozen
  have hle:pre.length<len:=by have:=HA.out;omega
  have HBX:=hide hbx
  have HB:=hide hB
  clear hbx hB hlt
  gi_wp2
  exact⟨(KeepsOthers.setCell _ _ _).from _,(Below.refl w.heap.size W).setCell (p:=⟨w.heap.size,0,none⟩) (Nat.le_refl _) _,by
   have:=HBX.out.set (.int .i64 ((len:Int) - (pre.length:Int) - 1))
   rw[show (len:Int) - ((pre++[x]).length:Int)=(len:Int) - (pre.length:Int) - 1 by simp;omega]
   exact this,HB.out.setCell (p:=⟨w.heap.size,0,none⟩) (Nat.le_refl _) _⟩
 case done =>
  rintro D ys W hD rfl ⟨hbx,hB⟩ hK
  have he:(len:Int) - ((plc bs len len).length:Int)=((cntT bs:Nat):Int):=by have:=HA.out;omega
  rw[he] at hbx
  have hc:=hbx.cell
  go_wp2
  refine⟨by simp,.inl ⟨_,_,rfl,run_takeDeferred hK,?_⟩⟩
  exact⟨_,results_tmp rfl _ _ _,rfl,hB.trans (belowK_b (w:=w) (Nat.le_refl _) W D _ _ (by simp at hD;omega) hK rfl rfl)⟩
 case stop =>
  rintro D c pre W _ _ h _
  exact h.elim
end Go.Proofs.YtnkpgmibhpmdhaaGreat

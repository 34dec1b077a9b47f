/- Contracts and plain facts, one behind the other: PD G3 H8 PF ZC ZD ZE V4 RS -/
import Derived.Test.YtnkpgmibhpmdhaaGreatBeAP
namespace Go.Proofs.YtnkpgmibhpmdhaaGreat
set_option linter.unusedVariables false
open Go.RowKit
theorem iscol_any (kind:Int) (w:World):Calls Tryz.prog 62 #[.int .i64 kind] w fun e w'=>e=.returned (.bool (Z.kindOk kind))∧w'=w:=by
 by_cases k1:kind=1
 ·subst k1
  go_enter Tryz.func62,Tryz.ntmps62
  go_wp2
  go_ret
  exact⟨rfl,rfl⟩
 ·by_cases k2:kind=2
  ·subst k2
   go_enter Tryz.func62,Tryz.ntmps62
   go_wp2
   go_ret
   exact⟨rfl,rfl⟩
  ·by_cases k3:kind=3
   ·subst k3
    go_enter Tryz.func62,Tryz.ntmps62
    go_wp2
    go_ret
    exact⟨rfl,rfl⟩
   ·have HK:Hid (Z.kindOk kind=false):=by show _=_;unfold Z.kindOk;simp[k1,k2,k3]
    have e1:(kind==1)=false:=by simpa using k1
    have e2:(kind==2)=false:=by simpa using k2
    have e3:(kind==3)=false:=by simpa using k3
    go_enter Tryz.func62,Tryz.ntmps62
    go_wp2
    go_ret
    exact⟨by rw[HK.out];rfl,rfl⟩
theorem chk_kind {l:List Z.V} {kind:Int} (h:Z.kindOk kind=false):Z.chk l kind=1:=by unfold Z.chk;rw[if_pos h]
theorem chk_many {l:List Z.V} {kind:Int} (h:Z.kindOk kind=true) (h1:4096<l.length):Z.chk l kind=2:=by unfold Z.chk;rw[h,if_neg (by decide),if_pos h1]
theorem chk_other {l:List Z.V} {kind:Int} (h:Z.kindOk kind=true) (h1:l.length≤4096) (h2:l.any (Z.isOther kind)=true):Z.chk l kind=7:=by
 unfold Z.chk;rw[h,if_neg (by decide),if_neg (by omega)]
 exact if_pos h2
theorem chk_mayNot {l:List Z.V} {kind:Int} (h:Z.kindOk kind=true) (h1:l.length≤4096) (h2:l.any (Z.isOther kind)=false) (h3:l.any Z.mayNot=true):Z.chk l kind=1:=by
 unfold Z.chk;rw[h,if_neg (by decide),if_neg (by omega)]
 exact (if_neg (by show ¬ l.any (Z.isOther kind)=true;rw[h2];decide)).trans (if_pos h3)
theorem chk_yes {l:List Z.V} {kind:Int} (h:Z.kindOk kind=true) (h1:l.length≤4096) (h2:l.any (Z.isOther kind)=false) (h3:l.any Z.mayNot=false):Z.chk l kind=0:=by
 unfold Z.chk;rw[h,if_neg (by decide),if_neg (by omega)]
 exact (if_neg (by show ¬ l.any (Z.isOther kind)=true;rw[h2];decide)).trans (if_neg (by show ¬ l.any Z.mayNot=true;rw[h3];decide))
set_option maxHeartbeats 1000000 in
theorem check_any (ao:Option Addr) (len cap:Nat) (l:List Z.V) (kind:Int) (w:World) (h:SlV w ao len cap l) (hI:∀ x∈l,Z.I64 x.i) :
  Calls Tryz.prog 26 #[.slice ao len cap,.int .i64 kind] w fun e w'=>e=.returned (.int .i64 (Z.chk l kind))∧Below w.heap.size w w':=by
 have hmf:∀ (fn:Fn) (first cap:Array Value) (w:World),(Instr.makeFunc fn first cap).run Tryz.prog w=.ok (.func fn first cap) w:=fun _ _ _ _=>rfl
 have hb:=heap_alloc_new w (.cells #[.int .i64 kind] 3)
 have b0:=hide (below_one w (.cells #[.int .i64 kind] 3))
 have HS:=hide (h.below b0.out)
 have HI:=hide hI
 have HL:=hide h.1
 obtain⟨c1,_⟩:=cell_of_heap hb
 have HB:=hide hb
 clear h hI hb
 obtain⟨q,hq⟩:∃ q,Z.kindOk kind=q:=⟨_,rfl⟩
 have HQ:=hide hq
 clear hq
 go_enter Tryz.func26,Tryz.ntmps26
 go_wp2_with fail
 refine (iscol_any _ _).mono ?_
 rintro e w1 ⟨rfl,rfl⟩
 rw[HQ.out]
 cases q with
 | false =>
  go_wp2
  go_ret
  exact⟨by rw[chk_kind HQ.out];rfl,b0.out⟩
 | true =>
  by_cases hm:4096<len
  ·go_wp2
   go_ret
   exact⟨by rw[chk_many HQ.out (by rw[HL.out];exact hm)];rfl,b0.out⟩
  ·go_wp2_with fail
   refine (contains_other _ _ _ l w.heap.size kind _ HS.out (by omega) HB.out).mono ?_
   rintro e w1 ⟨rfl,hb1⟩
   replace b0:=hide (bthen b0.out hb1)
   replace HS:=hide (HS.out.below hb1)
   obtain⟨q2,hq2⟩:∃ q,l.any (Z.isOther kind)=q:=⟨_,rfl⟩
   have HQ2:=hide hq2
   rw[hq2]
   clear hq2 hb1
   cases q2 with
   | true =>
    go_wp2
    go_ret
    exact⟨by rw[chk_other HQ.out (by rw[HL.out];omega) HQ2.out];rfl,b0.out⟩
   | false =>
    go_wp2_with fail
    refine (contains_mayNot _ _ _ l _ HS.out (by omega) HI.out).mono ?_
    rintro e w2 ⟨rfl,hb2⟩
    replace b0:=hide (bthen b0.out hb2)
    obtain⟨q3,hq3⟩:∃ q,l.any Z.mayNot=q:=⟨_,rfl⟩
    have HQ3:=hide hq3
    rw[hq3]
    clear hq3 hb2
    cases q3 with
    | true =>
     go_wp2
     go_ret
     exact⟨by rw[chk_mayNot HQ.out (by rw[HL.out];omega) HQ2.out HQ3.out];rfl,b0.out⟩
    | false =>
     go_wp2
     go_ret
     exact⟨by rw[chk_yes HQ.out (by rw[HL.out];omega) HQ2.out HQ3.out];rfl,b0.out⟩
theorem Sl.part {w:World} {k:IntKind} {ao:Option Addr} {len cap:Nat} {l:List Int} (h:Sl w k ao len cap l) (i j:Nat) (hij:i≤j) (hj:j≤len):Sl w k (if cap=i then ao else ao.map (·.add (i*1))) (j - i) (cap - i) ((l.take j).drop i):=by
 obtain⟨h1,h2,h3,h4,h5⟩:=h
 refine⟨by rw[List.length_drop,List.length_take,h1,Nat.min_eq_left hj],by omega,by omega,fun e=>?_,?_⟩
 ·by_cases hc:cap=i
  ·omega
  ·rw[if_neg hc] at e
   cases ao with
   | none=>have:=h4 rfl;omega
   | some x=>simp at e
 ·by_cases h0:j - i=0
  ·exact .inl h0
  ·rcases h5 with h5|⟨b,off,rfl,hlt,h5⟩
   ·omega
   ·rw[if_neg (by omega)]
    refine .inr ⟨b,off+i,by simp[Addr.add],hlt,fun t ht=>?_⟩
    rw[Nat.add_assoc,h5 (i+t) (by omega)]
    have:i+t<j:=by omega
    simp[List.getD,this]
theorem wpList_app {w:World} {ops:Array Oper} {rest:List Oper} {o:Oper} {a:Act} {Q:Exit→Act→World→Prop} (hgd:o.guard=none) (s x:Operand)
  (ho:o.op=.call { callee:=.builtin .append,args:=#[s,x],argTypes:=#[22,22] })
  (base:Nat) (v:Value) (l:List Nat) (hs:a.eval s=v) (hown:w.ownsRow base 5 1 v l.length (B8 l))
  (ao:Option Addr) (m c:Nat) (news:List Nat) (hx:a.eval x=.slice ao m c) (hsl:Sl w .u8 ao m c (ints news)) (hlim:l.length+m≤140737488355328) (hbase:base≤w.heap.size) (r:List Nat) (hr:l++news=r)
  (h:∀ v' w',w'.ownsRow base 5 1 v' r.length (B8 r)→AS w v w' v'→wpList Tryz.prog ops Q rest (a.put o.dst v') w'):wpList Tryz.prog ops Q (o :: rest) a w:=by
 obtain⟨i0,hi,hz0,hz1,hz2⟩:=info_parts Tryz.infoU8
 have hm:news.length=m:=by rw[← hsl.1,ints_length]
 refine wpList_append_to hgd s x 22 ho base 5 i0 (.int .u8 0) 1 1 Tryz.underlying22 hi hz0 hz1 hz2 rfl (by decide) v l.length (B8 l) hs hown ao m c ((ints news).map (Value.int .u8)) hx ?_ (by simp[ints_length,hm]) hsl.news ?_ (by unfold maxLen;omega) (by omega) hbase ?_
 ·intro e
  have h4:=hsl.2.2.2.1 e
  have h2:=hsl.2.1
  exact⟨by omega,h4⟩
 ·intro u hu
  obtain⟨y,_,rfl⟩:=List.mem_map.1 hu
  rfl
 ·intro v' w' ho' has'
  refine h v' w' ?_ has'
  rw[← hr,List.length_append,hm,B8_append,B8_ints news]
  exact ho'
theorem owns_none (w:World):(w.alloc (.cells #[] 5)).ownsRow w.heap.size 5 1 (.slice (some ⟨w.heap.size,0,none⟩) 0 0) ([]:List Nat).length (B8 []) :=
 World.ownsRow_lit w #[] 0 (Nat.le_refl _) (by decide) (by simp)
theorem Sl.of_own {w:World} {B:Nat} {v:Value} {l:List Nat} (h:w.ownsRow B 5 1 v l.length (B8 l)) {k:Nat} (hk:l.length=k):∃ a c,v=.slice a k c∧Sl w .u8 a k c (ints l):=by
 subst hk
 obtain⟨a,c,h1,h2,_⟩:=Sl.of_bytes h
 exact⟨a,c,h1,h2⟩
def Z.cb (l:List Z.V) (kind:Int):List Nat:=if Z.chk l kind=0 then Z.pb l else []
theorem cb_bad {l:List Z.V} {kind:Int} (h:Z.chk l kind≠0):Z.cb l kind=[]:=by unfold Z.cb;rw[if_neg h]
theorem cb_ok {l:List Z.V} {kind:Int} (h:Z.chk l kind=0):Z.cb l kind=Z.pb l:=by unfold Z.cb;rw[if_pos h]
theorem bl_may {x:Z.V} (h:Z.may x=true):Z.bl x=Z.lb x:=by unfold Z.bl;rw[h];rfl
theorem pb_take {l:List Z.V} {j:Nat} {x:Z.V} (h:l[j]?=some x):Z.pb (l.take j)++Z.lb x=Z.pb (l.take (j+1)):=by rw[take_snocV h,pb_snoc]
theorem lb_le {x:Z.V} (hi:Z.I64 x.i) (h:Z.may x=true):(Z.lb x).length≤1034:=by
 obtain⟨k,i,s⟩:=x
 rcases may_kind h with rfl|rfl|rfl|rfl
 ·rw[lb_else (by decide) (by decide) (by decide)];simp
 ·rw[lb_int]
  have:=E.leb_ten _ (E.zig_lt i hi.1 hi.2)
  omega
 ·rw[lb_float,Z.k8_length];omega
 ·have hsz:=may_size h
  rw[lb_text,List.length_append,sb_length]
  have:=E.leb_ten s.size (by omega)
  omega
theorem pb_le:∀ l:List Z.V,(∀ x∈l,Z.I64 x.i)→(∀ x∈l,Z.may x=true)→(Z.pb l).length≤1034*l.length
 | [],_,_=>by simp[Z.pb]
 | x :: l,h1,h2=>by
  have a1:=lb_le (h1 x (by simp)) (h2 x (by simp))
  have a2:=pb_le l (fun y hy=>h1 y (by simp[hy])) (fun y hy=>h2 y (by simp[hy]))
  rw[pb_cons,List.length_append,List.length_cons]
  omega
theorem pb_take_le {l:List Z.V} (h1:∀ x∈l,Z.I64 x.i) (h2:∀ x∈l,Z.may x=true) (j:Nat):(Z.pb (l.take j)).length≤1034*l.length:=by
 have:=pb_le (l.take j) (fun y hy=>h1 y (List.mem_of_mem_take hy)) (fun y hy=>h2 y (List.mem_of_mem_take hy))
 rw[List.length_take] at this
 omega
def ColBytes (l:List Z.V) (kind:Int) (w:World) (e:Ending) (w':World):Prop:=∃ a c,e=.returned (.tuple #[.slice a (Z.cb l kind).length c,.int .i64 (Z.chk l kind)])∧Sl w' .u8 a (Z.cb l kind).length c (ints (Z.cb l kind))∧Below w.heap.size w w'
theorem ColBytes.no {l:List Z.V} {kind E:Int} {w w':World} (h:Z.chk l kind=E) (h0:E≠0) (hb:Below w.heap.size w w'):ColBytes l kind w (.returned (.tuple #[.slice none 0 0,.int .i64 E])) w':=by
 unfold ColBytes;rw[cb_bad (by rw[h];exact h0),h]
 exact⟨none,0,rfl,Sl.nil _ _,hb⟩
theorem ColBytes.yes {l:List Z.V} {kind:Int} {w w':World} {B:Nat} {v:Value} (h:Z.chk l kind=0) (ho:w'.ownsRow B 5 1 v (Z.pb l).length (B8 (Z.pb l))) (hb:Below w.heap.size w w'):ColBytes l kind w (.returned (.tuple #[v,.int .i64 0])) w':=by
 obtain⟨a,c,rfl,hs,_⟩:=Sl.of_bytes ho
 unfold ColBytes;rw[cb_ok h,h]
 exact⟨a,c,rfl,hs,hb⟩
set_option maxHeartbeats 1000000 in
theorem pbytes_some (b off len cap:Nat) (l:List Z.V) (kind:Int) (w:World) (h:SlV w (some ⟨b,off,none⟩) len cap l) (hI:∀ x∈l,Z.I64 x.i) (h0:Z.chk l kind=0) (hlt:b<w.heap.size)
  (hc:∀ j x,l[j]?=some x→w.cell? ⟨b,off+j*3,none⟩=some (.int .i64 x.k)∧w.cell? ⟨b,off+j*3+1,none⟩=some (.int .i64 x.i)∧w.cell? ⟨b,off+j*3+2,none⟩=some (.string x.s)) :
  Calls Tryz.prog 103 #[.slice (some ⟨b,off,none⟩) len cap,.int .i64 kind] w (ColBytes l kind w):=by
 have HC:=hide hc
 have HL:=hide h.1
 have HI:=hide hI
 have HK:=hide h0
 have hm:len≤4096:=by rw[← h.1];exact (chk_zero h0).2.1
 have HM:=hide (chk_zero h0).2.2.2
 have HCK:=hide (check_any _ _ _ l kind w h hI)
 clear hc hI h0 h
 go_enter Tryz.func103,Tryz.ntmps103
 go_wp2_with fail
 refine HCK.out.mono ?_
 rintro e w1 ⟨rfl,hb1⟩
 rw[HK.out]
 replace hb1:=hide hb1
 clear HCK
 go_wp2_with fail
 go_loopw [7,20] (fun v i wr=>∃ j:Nat,j≤len∧i=.int .i64 j∧Hid (wr.ownsRow w.heap.size 5 1 v (Z.pb (l.take j)).length (B8 (Z.pb (l.take j))))∧Hid (Below w.heap.size w wr)) (fun _ i _=>len - (intOf i).toNat)
 case atStart=>exact⟨0,Nat.zero_le _,rfl,hide (World.ownsRow_nil _ _ _ _),hb1⟩
 case round =>
  obtain⟨j,hj,rfl,hrow,hbw⟩:=hrel
  by_cases hjl:j<len
  ·obtain⟨⟨xk,xi,xs⟩,hx⟩:∃ x,l[j]?=some x:=⟨l[j]'(by rw[HL.out];exact hjl),List.getElem?_eq_getElem _⟩
   obtain⟨c1,c2,c3⟩:=HC.out j _ hx
   have d1:wr.cell? ⟨b,off+j*3,none⟩=some (.int .i64 xk):=by rw[hbw.out.cell (p:=⟨b,off+j*3,none⟩) hlt];exact c1
   have d2:wr.cell? ⟨b,off+j*3+1,none⟩=some (.int .i64 xi):=by rw[hbw.out.cell (p:=⟨b,off+j*3+1,none⟩) hlt];exact c2
   have d3:wr.cell? ⟨b,off+j*3+2,none⟩=some (.string xs):=by rw[hbw.out.cell (p:=⟨b,off+j*3+2,none⟩) hlt];exact c3
   have HX:=hide hx
   clear c1 c2 c3 hx
   have HXM:=hide (HM.out _ (List.mem_of_getElem? HX.out))
   have HXI:=hide (HI.out _ (List.mem_of_getElem? HX.out))
   have HLE:=hide (pb_take_le HI.out HM.out j)
   have HLB:=hide (lb_le HXI.out HXM.out)
   go_wp2_with fail
   refine (vbytes_any _ _ _ _ HXI.out).mono ?_
   rintro e w2 ⟨qa,qc,rfl,hs2,hb2⟩
   rw[bl_may HXM.out]
   rw[bl_may HXM.out] at hs2
   have hbm:Below w.heap.size w w2:=bthen (bthen hbw.out (below_one wr _)) hb2
   have hrow2:w2.ownsRow w.heap.size 5 1 u7 (Z.pb (l.take j)).length (B8 (Z.pb (l.take j))):=owns_below (hrow.out.alloc _) hb2
   have hsz:=hbm.size
   obtain⟨m,hmm⟩:∃ m,(Z.lb ⟨xk,xi,xs⟩).length=m:=⟨_,rfl⟩
   rw[hmm]
   rw[hmm] at hs2
   have HMM:=hide hmm
   have HBM:=hide hbm
   have HS2:=hide hs2
   have HR2:=hide hrow2
   clear hmm hbm hs2 hrow2 hb2 d1 d2 d3
   go_wp2_with (at_builtin;refine wpList_app rfl _ _ rfl w.heap.size u7 (Z.pb (l.take j)) rfl HR2.out qa m qc (Z.lb ⟨xk,xi,xs⟩) rfl HS2.out ?c0 hsz (Z.pb (l.take (j+1))) (pb_take HX.out) ?_)
   case c0 =>
    have h1:=HLE.out
    have h2:=HLB.out
    have h3:=HMM.out
    rw[HL.out] at h1
    omega
   intro v3 w3 hown has
   have hb3:Below w.heap.size w w3:=HBM.out.trans (has.below hsz (fun k hk=>(owns_lt HR2.out hk).1))
   have HB3:=hide hb3
   have HO:=hide hown
   clear hb3 hown has
   go_wp2
   go_roundw
   case rel=>exact⟨j+1,hjl,by go_num,HO,HB3⟩
   case measure=>simp[intOf];omega
  ·obtain rfl:j=len:=by omega
   have hll:l.take j=l:=by rw[← HL.out,List.take_length]
   have HR:Hid (wr.ownsRow w.heap.size 5 1 u7 (Z.pb l).length (B8 (Z.pb l))):=by
    have:=hrow.out
    rwa [hll] at this
   clear hll hrow
   go_wp2
   go_ret2
   exact ColBytes.yes HK.out HR.out hbw.out
theorem pbytes_none (ao:Option Addr) (cap:Nat) (kind:Int) (w:World) (h:SlV w ao 0 cap []) (h0:Z.chk [] kind=0) :
  Calls Tryz.prog 103 #[.slice ao 0 cap,.int .i64 kind] w (ColBytes [] kind w):=by
 have HK:=hide h0
 have HCK:=hide (check_any _ _ _ [] kind w h (by simp))
 clear h h0
 go_enter Tryz.func103,Tryz.ntmps103
 go_wp2_with fail
 refine HCK.out.mono ?_
 rintro e w1 ⟨rfl,hb1⟩
 rw[HK.out]
 replace hb1:=hide hb1
 clear HCK
 go_wp2_with fail
 go_rounds 1
 go_ret2
 exact ColBytes.yes (B:=0) HK.out (World.ownsRow_nil _ _ _ _) hb1.out
theorem pbytes_any (ao:Option Addr) (len cap:Nat) (l:List Z.V) (kind:Int) (w:World) (h:SlV w ao len cap l) (hI:∀ x∈l,Z.I64 x.i) :
  Calls Tryz.prog 103 #[.slice ao len cap,.int .i64 kind] w (ColBytes l kind w):=by
 by_cases h0:Z.chk l kind=0
 ·rcases h.2.2.2.2 with h5|⟨b,off,rfl,hlt,h5⟩
  ·subst h5
   obtain rfl:l=[]:=List.eq_nil_of_length_eq_zero h.1
   exact pbytes_none ao cap kind w h h0
  ·exact pbytes_some b off len cap l kind w h hI h0 hlt h5
 ·have HCK:=hide (check_any _ _ _ l kind w h hI)
  obtain⟨E,hE⟩:∃ E,Z.chk l kind=E:=⟨_,rfl⟩
  have HE:=hide hE
  have hE0:(E != 0)=true:=by rw[← hE];simpa using h0
  have HE0:=hide (show E≠0 by rw[← hE];exact h0)
  clear h hI hE h0
  go_enter Tryz.func103,Tryz.ntmps103
  go_wp2_with fail
  refine HCK.out.mono ?_
  rintro e w1 ⟨rfl,hb1⟩
  rw[HE.out]
  replace hb1:=hide hb1
  clear HCK
  go_wp2
  go_ret2
  exact ColBytes.no HE.out HE0.out hb1.out
theorem vtotext_any (ao:Option Addr) (len cap:Nat) (l:List Nat) (w:World) (h:Sl w .u8 ao len cap (ints l)) (h256:∀ x∈l,x<256) (hm:len≤140737488355328) :
  Calls Tryz.prog 126 #[.slice ao len cap] w (OfAns l 3 w):=by
 have hA:=At.new w 0 0 ⟨#[]⟩
 have b0:=hide (below_one w (.cells #[.int .i64 0,.int .i64 0,.string ⟨#[]⟩] 25))
 have HT:=hide (totext_any ao len cap l 1024 _ (h.below b0.out) h256 hm (by omega) (by omega))
 clear h
 by_cases hg:E.xE 1024 l=0
 ·have HS:Hid (E.yS 1024 l=E.xS l):=by show _=_;unfold E.yS;rw[if_pos hg]
  have HR:Hid (E.yR 1024 l=E.xR l):=by show _=_;unfold E.yR;rw[if_pos hg]
  have HE:=hide hg
  have HO:=hide ((oE_text l).trans hg)
  clear hg
  go_enter Tryz.func126,Tryz.ntmps126
  go_wp2_with fail
  refine HT.out.mono ?_
  rintro e w1 ⟨v1,v2,rfl,⟨rfl,q2,c2,rfl,hs2⟩,hb⟩
  rw[HE.out,HS.out,HR.out]
  rw[HR.out] at hs2
  replace hA:=hA.below hb
  replace b0:=hide (bthen b0.out hb)
  replace hs2:=hide hs2
  obtain⟨x,hx⟩:∃ x,strOfNums (ints (E.xS l))=x:=⟨_,rfl⟩
  obtain⟨n2,hn2⟩:∃ n2,(E.xR l).length=n2:=⟨_,rfl⟩
  rw[hx,hn2]
  rw[hn2] at hs2
  have HX:=hide hx
  have HN2:=hide hn2
  clear hb hx hn2 HT h256 HS HR HE
  obtain⟨a1,a2,a3⟩:=hA.cells
  obtain⟨f1,f2,f3⟩:=hA.thawed
  replace hA:=hide hA
  go_wp2
  refine bodyPost_ret (results_val Tryz.results126 _ _ w.heap.size rfl (hA.out.set 3 0 x)) rfl ?_
  exact OfAns.yes HO.out (by rw[oW_text,HX.out]) (oS_text l) HN2.out (hs2.out.putV hA.out 3 0 x) (putV_below 3 0 x b0.out (Nat.le_refl _))
 ·have HO:=hide (oE_text l)
  obtain⟨G,hG⟩:∃ G:Nat,E.xE 1024 l=G:=⟨_,rfl⟩
  rw[hG] at hg HO
  obtain⟨e,he⟩:∃ e:Int,((G:Nat):Int)=e:=⟨_,rfl⟩
  have hg3:e≠0:=by omega
  have HEE:=hide he
  have HG:=hide hG
  clear hG he
  go_enter Tryz.func126,Tryz.ntmps126
  go_wp2_with fail
  refine HT.out.mono ?_
  rintro e' w1 ⟨v1,v2,rfl,⟨rfl,q2,c2,rfl,_⟩,hb⟩
  rw[HG.out,HEE.out]
  replace hA:=hA.below hb
  replace b0:=hide (bthen b0.out hb)
  generalize (E.yR 1024 l).length=n2
  generalize strOfNums (ints (E.yS 1024 l))=x
  clear hb HT h256
  obtain⟨a1,a2,a3⟩:=hA.cells
  obtain⟨f1,f2,f3⟩:=hA.thawed
  replace hA:=hide hA
  go_wp2
  refine bodyPost_ret (results_val Tryz.results126 _ _ w.heap.size rfl (hA.out.set 0 0 ⟨#[]⟩)) rfl ?_
  have:=OfAns.no HO.out hg (putV_below 0 0 ⟨#[]⟩ b0.out (Nat.le_refl _))
  rw[HEE.out] at this
  exact this
theorem oE_short {l:List Nat} (h:l.length<8):Z.oE l 2=3:=by unfold Z.oE;rw[if_neg (by decide),if_neg (by decide),if_pos rfl,if_pos h]
theorem oE_form {l:List Nat} (h:8≤l.length) (hk:D.ky (D.bt ((Z.o8 l:Nat):Int))≠((Z.o8 l:Nat):Int)):Z.oE l 2=4:=by unfold Z.oE;rw[if_neg (by decide),if_neg (by decide),if_pos rfl,if_neg (by omega),if_neg hk]
theorem oE_float {l:List Nat} (h:8≤l.length) (hk:D.ky (D.bt ((Z.o8 l:Nat):Int))=((Z.o8 l:Nat):Int)):Z.oE l 2=0:=by unfold Z.oE;rw[if_neg (by decide),if_neg (by decide),if_pos rfl,if_neg (by omega),if_pos hk]
theorem oW_float (l:List Nat):Z.oW l 2=⟨2,Z.sg (D.bt ((Z.o8 l:Nat):Int)),⟨#[]⟩⟩:=by unfold Z.oW;rw[if_neg (by decide),if_pos rfl]
theorem oS_float (l:List Nat):Z.oS l 2=l.drop 8:=by unfold Z.oS;rw[if_neg (by decide),if_pos rfl]
theorem vtofloat_short (ao:Option Addr) (len cap:Nat) (l:List Nat) (w:World) (hl:l.length=len) (h8:len<8) :
  Calls Tryz.prog 125 #[.slice ao len cap] w (OfAns l 2 w):=by
 have hA:=At.new w 0 0 ⟨#[]⟩
 have b0:=hide (below_one w (.cells #[.int .i64 0,.int .i64 0,.string ⟨#[]⟩] 25))
 have HO:Hid (Z.oE l 2=3):=oE_short (by omega)
 clear hl
 obtain⟨a1,a2,a3⟩:=hA.cells
 obtain⟨f1,f2,f3⟩:=hA.thawed
 replace hA:=hide hA
 go_enter Tryz.func125,Tryz.ntmps125
 go_wp2
 refine bodyPost_ret (results_val Tryz.results125 _ _ w.heap.size rfl hA.out) rfl ?_
 exact OfAns.no HO.out (by decide) b0.out
theorem or_byte {k c:Int} (h0:0≤k) (h1:k<72057594037927936) (c0:0≤c) (c1:c<256):bits .or .u64 (k*256) c=k*256+c:=by
 rw[u64_or (k*256) c (by omega) (by omega) c0 (by omega)]
 obtain⟨x,rfl⟩:=Int.eq_ofNat_of_zero_le h0
 obtain⟨y,rfl⟩:=Int.eq_ofNat_of_zero_le c0
 show ((x*256 ||| y:Nat):Int)=_
 have e:256*x+y=256*x ||| y:=Nat.two_pow_add_eq_or_of_lt (i:=8) (by omega) x
 rw[Nat.mul_comm x 256,← e];omega
set_option maxHeartbeats 2000000 in
theorem vtofloat_key (b off len cap:Nat) (l:List Nat) (w:World) (h:Sl w .u8 (some ⟨b,off,none⟩) len cap (ints l)) (h256:∀ x∈l,x<256) (hm:len≤140737488355328) (hb:b<w.heap.size) (h8:8≤len)
  (hc:∀ i,i<len→w.cell? ⟨b,off+i,none⟩=some (.int .u8 ((ints l).getD i 0))) :
  Calls Tryz.prog 125 #[.slice (some ⟨b,off,none⟩) len cap] w (OfAns l 2 w):=by
 have hl:l.length=len:=by rw[← h.1,ints_length]
 have hcap:=h.2.1
 have hmax:=h.2.2.1
 have hA:=At.new w 0 0 ⟨#[]⟩
 have b0:=hide (below_one w (.cells #[.int .i64 0,.int .i64 0,.string ⟨#[]⟩] 25))
 have hK:=Z.o8_lt h256
 have hd:∀ i,i<8→(w.alloc (.cells #[.int .i64 0,.int .i64 0,.string ⟨#[]⟩] 25)).cell? ⟨b,off+i,none⟩=some (.int .u8 ((l.getD i 0:Nat):Int)):=fun i hi=>by
  rw[b0.out.cell (p:=⟨b,off+i,none⟩) hb,hc i (by omega),ints_getD]
 have d0:=hd 0 (by omega);have d1:=hd 1 (by omega);have d2:=hd 2 (by omega);have d3:=hd 3 (by omega)
 have d4:=hd 4 (by omega);have d5:=hd 5 (by omega);have d6:=hd 6 (by omega);have d7:=hd 7 (by omega)
 have e0:=E.getD_lt h256 0;have e1:=E.getD_lt h256 1;have e2:=E.getD_lt h256 2;have e3:=E.getD_lt h256 3
 have e4:=E.getD_lt h256 4;have e5:=E.getD_lt h256 5;have e6:=E.getD_lt h256 6;have e7:=E.getD_lt h256 7
 have hO:Z.o8 l=(((((((l.getD 0 0*256+l.getD 1 0)*256+l.getD 2 0)*256+l.getD 3 0)*256+l.getD 4 0)*256+l.getD 5 0)*256+l.getD 6 0)*256+l.getD 7 0):=rfl
 simp only[Nat.add_zero] at d0
 obtain⟨x0,h0⟩:∃ x:Int,((l.getD 0 0:Nat):Int)=x:=⟨_,rfl⟩
 obtain⟨x1,h1⟩:∃ x:Int,((l.getD 1 0:Nat):Int)=x:=⟨_,rfl⟩
 obtain⟨x2,h2⟩:∃ x:Int,((l.getD 2 0:Nat):Int)=x:=⟨_,rfl⟩
 obtain⟨x3,h3⟩:∃ x:Int,((l.getD 3 0:Nat):Int)=x:=⟨_,rfl⟩
 obtain⟨x4,h4⟩:∃ x:Int,((l.getD 4 0:Nat):Int)=x:=⟨_,rfl⟩
 obtain⟨x5,h5⟩:∃ x:Int,((l.getD 5 0:Nat):Int)=x:=⟨_,rfl⟩
 obtain⟨x6,h6⟩:∃ x:Int,((l.getD 6 0:Nat):Int)=x:=⟨_,rfl⟩
 obtain⟨x7,h7⟩:∃ x:Int,((l.getD 7 0:Nat):Int)=x:=⟨_,rfl⟩
 rw[h0] at d0;rw[h1] at d1;rw[h2] at d2;rw[h3] at d3;rw[h4] at d4;rw[h5] at d5;rw[h6] at d6;rw[h7] at d7
 obtain⟨K,hKe⟩:∃ K:Int,((Z.o8 l:Nat):Int)=K:=⟨_,rfl⟩
 have k1:bits .or .u64 0 x0=x0:=by have:=or_byte (k:=0) (c:=x0) (by omega) (by omega) (by omega) (by omega);simpa using this
 obtain⟨y1,r1⟩:∃ y,x0*256+x1=y:=⟨_,rfl⟩
 have k2:bits .or .u64 (x0*256) x1=y1:=by rw[← r1];exact or_byte (by omega) (by omega) (by omega) (by omega)
 obtain⟨y2,r2⟩:∃ y,y1*256+x2=y:=⟨_,rfl⟩
 have k3:bits .or .u64 (y1*256) x2=y2:=by rw[← r2];exact or_byte (by omega) (by omega) (by omega) (by omega)
 obtain⟨y3,r3⟩:∃ y,y2*256+x3=y:=⟨_,rfl⟩
 have k4:bits .or .u64 (y2*256) x3=y3:=by rw[← r3];exact or_byte (by omega) (by omega) (by omega) (by omega)
 obtain⟨y4,r4⟩:∃ y,y3*256+x4=y:=⟨_,rfl⟩
 have k5:bits .or .u64 (y3*256) x4=y4:=by rw[← r4];exact or_byte (by omega) (by omega) (by omega) (by omega)
 obtain⟨y5,r5⟩:∃ y,y4*256+x5=y:=⟨_,rfl⟩
 have k6:bits .or .u64 (y4*256) x5=y5:=by rw[← r5];exact or_byte (by omega) (by omega) (by omega) (by omega)
 obtain⟨y6,r6⟩:∃ y,y5*256+x6=y:=⟨_,rfl⟩
 have k7:bits .or .u64 (y5*256) x6=y6:=by rw[← r6];exact or_byte (by omega) (by omega) (by omega) (by omega)
 have k8:bits .or .u64 (y6*256) x7=K:=by rw[or_byte (by omega) (by omega) (by omega) (by omega)];omega
 have b1:0≤x0∧x0<256:=by omega
 have b2:0≤y1∧y1<65536:=by omega
 have b3:0≤y2∧y2<16777216:=by omega
 have b4:0≤y3∧y3<4294967296:=by omega
 have b5:0≤y4∧y4<1099511627776:=by omega
 have b6:0≤y5∧y5<281474976710656:=by omega
 have b7:0≤y6∧y6<72057594037927936:=by omega
 have b8:0≤K∧K<18446744073709551616:=by omega
 have q1:0≤x1∧x1<256:=by omega
 have q2:0≤x2∧x2<256:=by omega
 have q3:0≤x3∧x3<256:=by omega
 have q4:0≤x4∧x4<256:=by omega
 have q5:0≤x5∧x5<256:=by omega
 have q6:0≤x6∧x6<256:=by omega
 have q7:0≤x7∧x7<256:=by omega
 clear hd e0 e1 e2 e3 e4 e5 e6 e7 hO h0 h1 h2 h3 h4 h5 h6 h7 r1 r2 r3 r4 r5 r6 hK hc
 have HKE:=hide hKe
 have HL:=hide hl
 have HS:=hide h
 have H2:=hide h256
 clear hKe hl h h256
 go_enter Tryz.func125,Tryz.ntmps125
 go_wp2_with fail
 refine wp_loop_rounds 9 ?_
 rw[rounds_succ]
 go_wp2_with fail
 rw[rounds_succ]
 go_wp2_with fail
 rw[rounds_succ]
 go_wp2_with fail
 rw[rounds_succ]
 go_wp2_with fail
 rw[rounds_succ]
 go_wp2_with fail
 rw[rounds_succ]
 go_wp2_with fail
 rw[rounds_succ]
 go_wp2_with fail
 rw[rounds_succ]
 go_wp2_with fail
 rw[rounds_succ]
 go_wp2_with fail
 refine (bits_any K _ b8.1 b8.2).mono ?_
 rintro e w1 ⟨rfl,rfl⟩
 have hB:=D.bt_in (k:=K) b8
 obtain⟨T,hT⟩:∃ T,D.bt K=T:=⟨_,rfl⟩
 rw[hT] at hB ⊢
 have HT:=hide hT
 clear hT d0 d1 d2 d3 d4 d5 d6 d7 k1 k2 k3 k4 k5 k6 k7 k8 b1 b2 b3 b4 b5 b6 b7 q1 q2 q3 q4 q5 q6 q7
 go_wp2_with fail
 refine (key_any T _ hB.1 hB.2).mono ?_
 rintro e w1 ⟨rfl,rfl⟩
 obtain⟨a1,a2,a3⟩:=hA.cells
 obtain⟨f1,f2,f3⟩:=hA.thawed
 replace hA:=hide hA
 by_cases hk:D.ky T=K
 ·rw[hk]
  have HO:Hid (Z.oE l 2=0):=oE_float (by have:=HL.out;omega) (by rw[HKE.out,HT.out];exact hk)
  have HW:Hid (wrap64 T=Z.sg T):=wrap64_sg hB
  clear hk
  have HB:=hide (HS.out.below b0.out)
  by_cases hc8:cap=8
  ·obtain rfl:len=8:=by omega
   subst hc8
   have HV:Hid (Sl (w.alloc (.cells #[.int .i64 0,.int .i64 0,.string ⟨#[]⟩] 25)) .u8 (some ⟨b,off,none⟩) 0 0 (ints (l.drop 8))):=by
    show Sl _ _ _ _ _ _
    rw[ints_drop];exact HB.out.tail 8 0 (by omega) (by omega) (by omega) _ (fun h=>by omega)
   go_wp2_with fail
   refine (clone_any _ _ _ (l.drop 8) _ HV.out (by omega)).mono ?_
   rintro e w2 ⟨qa,qc,rfl,hs2,hb2⟩
   replace hA:=hA.out.below hb2
   replace b0:=hide (bthen b0.out hb2)
   have hs3:=hide hs2
   clear hb2 hs2 a1 a2 a3 f1 f2 f3 HV
   obtain⟨a1,a2,a3⟩:=hA.cells
   obtain⟨f1,f2,f3⟩:=hA.thawed
   replace hA:=hide hA
   go_wp2
   refine bodyPost_ret (results_val Tryz.results125 _ _ w.heap.size rfl (hA.out.set 2 (wrap64 T) ⟨#[]⟩)) rfl ?_
   exact OfAns.yes HO.out (by rw[oW_float,HKE.out,HT.out,HW.out]) (oS_float l) (by simp[HL.out]) (hs3.out.putV hA.out 2 (wrap64 T) ⟨#[]⟩) (putV_below 2 (wrap64 T) ⟨#[]⟩ b0.out (Nat.le_refl _))
  ·have HV:Hid (Sl (w.alloc (.cells #[.int .i64 0,.int .i64 0,.string ⟨#[]⟩] 25)) .u8 (some ⟨b,off+8,none⟩) (len - 8) (cap - 8) (ints (l.drop 8))):=by
    show Sl _ _ _ _ _ _
    rw[ints_drop];exact HB.out.tail 8 (cap - 8) (by omega) (by omega) (by omega) _ (fun h=>by rw[Addr.add_lit])
   go_wp2_with fail
   refine (clone_any _ _ _ (l.drop 8) _ HV.out (by omega)).mono ?_
   rintro e w2 ⟨qa,qc,rfl,hs2,hb2⟩
   replace hA:=hA.out.below hb2
   replace b0:=hide (bthen b0.out hb2)
   have hs3:=hide hs2
   clear hb2 hs2 a1 a2 a3 f1 f2 f3 HV
   obtain⟨a1,a2,a3⟩:=hA.cells
   obtain⟨f1,f2,f3⟩:=hA.thawed
   replace hA:=hide hA
   go_wp2
   refine bodyPost_ret (results_val Tryz.results125 _ _ w.heap.size rfl (hA.out.set 2 (wrap64 T) ⟨#[]⟩)) rfl ?_
   exact OfAns.yes HO.out (by rw[oW_float,HKE.out,HT.out,HW.out]) (oS_float l) (by simp[HL.out]) (hs3.out.putV hA.out 2 (wrap64 T) ⟨#[]⟩) (putV_below 2 (wrap64 T) ⟨#[]⟩ b0.out (Nat.le_refl _))
 ·have HO:Hid (Z.oE l 2=4):=oE_form (by have:=HL.out;omega) (by rw[HKE.out,HT.out];exact hk)
  obtain⟨Y,hY⟩:∃ Y,D.ky T=Y:=⟨_,rfl⟩
  rw[hY] at hk ⊢
  clear hY
  go_wp2
  refine bodyPost_ret (results_val Tryz.results125 _ _ w.heap.size rfl hA.out) rfl ?_
  exact OfAns.no HO.out (by decide) b0.out
theorem vtofloat_any (ao:Option Addr) (len cap:Nat) (l:List Nat) (w:World) (h:Sl w .u8 ao len cap (ints l)) (h256:∀ x∈l,x<256) (hm:len≤140737488355328) :
  Calls Tryz.prog 125 #[.slice ao len cap] w (OfAns l 2 w):=by
 have hl:l.length=len:=by rw[← h.1,ints_length]
 by_cases h8:len<8
 ·exact vtofloat_short ao len cap l w hl h8
 ·rcases h.2.2.2.2 with h5|⟨b,off,rfl,hlt,h5⟩
  ·omega
  ·exact vtofloat_key b off len cap l w h h256 hm hlt (by omega) h5
theorem oE_null (l:List Nat):Z.oE l 0=0:=by unfold Z.oE;rw[if_pos rfl]
theorem oW_null (l:List Nat):Z.oW l 0=⟨0,0,⟨#[]⟩⟩:=rfl
theorem oS_null (l:List Nat):Z.oS l 0=l:=rfl
theorem oE_else {l:List Nat} {kind:Int} (h0:kind≠0) (h1:kind≠1) (h2:kind≠2) (h3:kind≠3):Z.oE l kind=1:=by unfold Z.oE;rw[if_neg h0,if_neg h1,if_neg h2,if_neg h3]
theorem OfAns.put {l:List Nat} {kind:Int} {w w1 w2:World} {b:Nat} {k i k' i':Int} {s s':ByteArray} {a:Option Addr} {n c:Nat} {E:Int} (hw:Below w.heap.size w w1) (h:OfAns l kind w1 (.returned (.tuple #[.agg #[.int .i64 k,.int .i64 i,.string s],.slice a n c,.int .i64 E])) w2) (hA:At w2 b k' i' s') (hb:w.heap.size≤b) :
  OfAns l kind w (.returned (.tuple #[.agg #[.int .i64 k,.int .i64 i,.string s],.slice a n c,.int .i64 E])) (putV w2 b k i s):=by
 obtain⟨a1,c1,h1,h2,h3⟩:=h
 have hn:n=(Z.oR l kind).length∧a=a1∧c=c1:=by
  simp[Ending.returned.injEq] at h1
  exact⟨h1.2.1.2.1,h1.2.1.1,h1.2.1.2.2⟩
 obtain⟨rfl,rfl,rfl⟩:=hn
 exact⟨_,_,h1,h2.putV hA k i s,putV_below k i s (bthen hw h3) hb⟩
theorem OfAns.bel {l:List Nat} {kind:Int} {w w':World} {e:Ending} (h:OfAns l kind w e w'):Below w.heap.size w w':=by
 obtain⟨_,_,_,_,h⟩:=h
 exact h
theorem OfAns.shape {l:List Nat} {kind:Int} {w w':World} {e:Ending} (h:OfAns l kind w e w'):∃ k i s a n c E,e=.returned (.tuple #[.agg #[.int .i64 k,.int .i64 i,.string s],.slice a n c,.int .i64 E]):=by
 obtain⟨a1,c1,h1,_⟩:=h
 exact⟨_,_,_,_,_,_,_,h1⟩
set_option maxHeartbeats 1000000 in
theorem vof_any (ao:Option Addr) (len cap:Nat) (l:List Nat) (kind:Int) (w:World) (h:Sl w .u8 ao len cap (ints l)) (h256:∀ x∈l,x<256) (hm:len≤140737488355328) :
  Calls Tryz.prog 81 #[.slice ao len cap,.int .i64 kind] w (OfAns l kind w):=by
 have hl:l.length=len:=by rw[← h.1,ints_length]
 have hA:=At.new w 0 0 ⟨#[]⟩
 have b0:=hide (below_one w (.cells #[.int .i64 0,.int .i64 0,.string ⟨#[]⟩] 25))
 have HS:=hide (h.below b0.out)
 have H2:=hide h256
 have HL:=hide hl
 clear h h256 hl
 by_cases k0:kind=0
 ·subst k0
  go_enter Tryz.func81,Tryz.ntmps81
  go_wp2_with fail
  refine (clone_any _ _ _ l _ HS.out hm).mono ?_
  rintro e w1 ⟨qa,qc,rfl,hs2,hb2⟩
  replace hA:=hA.below hb2
  replace b0:=hide (bthen b0.out hb2)
  have hs3:=hide hs2
  clear hb2 hs2
  obtain⟨a1,a2,a3⟩:=hA.cells
  obtain⟨f1,f2,f3⟩:=hA.thawed
  replace hA:=hide hA
  go_wp2
  refine bodyPost_ret (results_val Tryz.results81 _ _ w.heap.size rfl (hA.out.set 0 0 ⟨#[]⟩)) rfl ?_
  exact OfAns.yes (oE_null l) (oW_null l) (oS_null l) HL.out (hs3.out.putV hA.out 0 0 ⟨#[]⟩) (putV_below 0 0 ⟨#[]⟩ b0.out (Nat.le_refl _))
 ·by_cases k1:kind=1
  ·subst k1
   go_enter Tryz.func81,Tryz.ntmps81
   go_wp2_with fail
   refine (vtoint_any _ _ _ l _ HS.out H2.out hm).mono ?_
   intro e w1 ho
   obtain⟨k,i,s,qa,qn,qc,qe,rfl⟩:=ho.shape
   replace hA:=hA.below ho.bel
   have HO:=hide ho
   clear ho
   obtain⟨a1,a2,a3⟩:=hA.cells
   obtain⟨f1,f2,f3⟩:=hA.thawed
   replace hA:=hide hA
   go_wp2
   refine bodyPost_ret (results_val Tryz.results81 _ _ w.heap.size rfl (hA.out.set k i s)) rfl ?_
   exact OfAns.put b0.out HO.out hA.out (Nat.le_refl _)
  ·by_cases k2:kind=2
   ·subst k2
    go_enter Tryz.func81,Tryz.ntmps81
    go_wp2_with fail
    refine (vtofloat_any _ _ _ l _ HS.out H2.out hm).mono ?_
    intro e w1 ho
    obtain⟨k,i,s,qa,qn,qc,qe,rfl⟩:=ho.shape
    replace hA:=hA.below ho.bel
    have HO:=hide ho
    clear ho
    obtain⟨a1,a2,a3⟩:=hA.cells
    obtain⟨f1,f2,f3⟩:=hA.thawed
    replace hA:=hide hA
    go_wp2
    refine bodyPost_ret (results_val Tryz.results81 _ _ w.heap.size rfl (hA.out.set k i s)) rfl ?_
    exact OfAns.put b0.out HO.out hA.out (Nat.le_refl _)
   ·by_cases k3:kind=3
    ·subst k3
     go_enter Tryz.func81,Tryz.ntmps81
     go_wp2_with fail
     refine (vtotext_any _ _ _ l _ HS.out H2.out hm).mono ?_
     intro e w1 ho
     obtain⟨k,i,s,qa,qn,qc,qe,rfl⟩:=ho.shape
     replace hA:=hA.below ho.bel
     have HO:=hide ho
     clear ho
     obtain⟨a1,a2,a3⟩:=hA.cells
     obtain⟨f1,f2,f3⟩:=hA.thawed
     replace hA:=hide hA
     go_wp2
     refine bodyPost_ret (results_val Tryz.results81 _ _ w.heap.size rfl (hA.out.set k i s)) rfl ?_
     exact OfAns.put b0.out HO.out hA.out (Nat.le_refl _)
    ·obtain⟨a1,a2,a3⟩:=hA.cells
     obtain⟨f1,f2,f3⟩:=hA.thawed
     replace hA:=hide hA
     go_enter Tryz.func81,Tryz.ntmps81
     go_wp2
     refine bodyPost_ret (results_val Tryz.results81 _ _ w.heap.size rfl hA.out) rfl ?_
     exact OfAns.no (oE_else k0 k1 k2 k3) (by decide) b0.out
end Go.Proofs.YtnkpgmibhpmdhaaGreat
namespace Go.Proofs.YtnkpgmibhpmdhaaGreat.V
set_option linter.unusedVariables false
open Go.RowKit
variable {ops : Array Oper} {Q : Exit → Act → World → Prop} {tbl : List (Nat × Ent)} {w0 : World} {o : Oper}
theorem size_u8 (w:World):(sizeOf 5).run Tryz.prog w=.ok 1 w:=by
 obtain⟨i0,hi,hz0,hz1,hz2⟩:=info_parts Tryz.infoU8
 simp[sizeOf,typeInfo,hi,hz1]
theorem elem_bytes:Tryz.prog.elem 22=5:=by kernel_rfl
theorem under_bytes:Tryz.prog.underlying 22=some (.slice (Tryz.prog.elem 22)):=by rw[elem_bytes];exact Tryz.underlying22
theorem Step.part {s p q i j len cap:Nat} {a0:Option Addr} {l:List Nat} (hw:Wants tbl ops o) (ho:o.op=.slice 22 (.tmp s) (some (.tmp p)) (some (.tmp q)) none) (hs:get tbl s=Ent.is (.slice a0 len cap)) (hp:get tbl p=Ent.is (.int .i64 (i:Int))) (hq:get tbl q=Ent.is (.int .i64 (j:Int)))
  (hsl:Sl w0 .u8 a0 len cap (ints l)) (hij:i≤j) (hj:j≤len) (hd:∀ d,o.dst=some d→get tbl d=Ent.sl (j - i) ((l.take j).drop i)):Step Tryz.prog ops Q tbl w0 o:=by
 refine Step.value hw fun a w hb hk=>⟨.slice (if cap=i then a0 else a0.map (·.add (i*1))) (j - i) (cap - i),?_,fun d h=>?_⟩
 ·have h1:a.eval (.tmp s)=.slice a0 len cap:=by
   have:=hk s (looks_op (by rw[ho];simp[Op.operands]))
   rwa [hs] at this
  have h2:a.eval (.tmp p)=.int .i64 (i:Int):=by
   have:=hk p (looks_op (by rw[ho];simp[Op.operands]))
   rwa [hp] at this
  have h3:a.eval (.tmp q)=.int .i64 (j:Int):=by
   have:=hk q (looks_op (by rw[ho];simp[Op.operands]))
   rwa [hq] at this
  have hc:=hsl.2.1
  have hr:=run_slice_lh (P:=Tryz.prog) w 22 a0 len cap under_bytes .i64 .i64 (i:Int) (j:Int) (by omega) (by omega) (by omega)
  rw[elem_bytes,size_u8] at hr
  simp only[Result.andThen_ok,Int.toNat_natCast,sliced] at hr
  simp only[execOp,ho,h1,h2,h3,Option.map_some,Option.map_none]
  have hr2:=run_sliceAt_slice (P:=Tryz.prog) w 22 (.slice a0 len cap) (some (.int .i64 (i:Int))) (some (.int .i64 (j:Int))) none under_bytes
  simp[hr2,hr]
 ·rw[hd d h]
  have:=(hsl.below hb).part i j hij hj
  rw[← ints_take,← ints_drop] at this
  exact⟨_,_,rfl,this⟩
theorem Step.rest {s p i len cap:Nat} {a0:Option Addr} {l:List Nat} (hw:Wants tbl ops o) (ho:o.op=.slice 22 (.tmp s) (some (.tmp p)) none none) (hs:get tbl s=Ent.is (.slice a0 len cap)) (hp:get tbl p=Ent.is (.int .i64 (i:Int)))
  (hsl:Sl w0 .u8 a0 len cap (ints l)) (hi:i≤len) (hd:∀ d,o.dst=some d→get tbl d=Ent.sl (len - i) (l.drop i)):Step Tryz.prog ops Q tbl w0 o:=by
 refine Step.value hw fun a w hb hk=>⟨.slice (if cap=i then a0 else a0.map (·.add (i*1))) (len - i) (cap - i),?_,fun d h=>?_⟩
 ·have h1:a.eval (.tmp s)=.slice a0 len cap:=by
   have:=hk s (looks_op (by rw[ho];simp[Op.operands]))
   rwa [hs] at this
  have h2:a.eval (.tmp p)=.int .i64 (i:Int):=by
   have:=hk p (looks_op (by rw[ho];simp[Op.operands]))
   rwa [hp] at this
  have hr:=run_slice_l (P:=Tryz.prog) w 22 a0 len cap under_bytes .i64 (i:Int) (by omega) (by omega)
  rw[elem_bytes,size_u8] at hr
  simp only[Result.andThen_ok,Int.toNat_natCast,sliced] at hr
  simp only[execOp,ho,h1,h2,Option.map_some,Option.map_none]
  have hr2:=run_sliceAt_slice (P:=Tryz.prog) w 22 (.slice a0 len cap) (some (.int .i64 (i:Int))) none none under_bytes
  simp[hr2,hr]
 ·rw[hd d h]
  have:=(hsl.below hb).part i len hi (Nat.le_refl _)
  rw[List.take_of_length_le (by rw[hsl.1];exact Nat.le_refl _),← ints_drop] at this
  exact⟨_,_,rfl,this⟩
end Go.Proofs.YtnkpgmibhpmdhaaGreat.V
namespace Go.Proofs.YtnkpgmibhpmdhaaGreat
set_option linter.unusedVariables false
open Go.RowKit
theorem rest_of {w:World} {ao:Option Addr} {len cap:Nat} {l:List Nat} (h:Sl w .u8 ao len cap (ints l)) {K:Nat} (hK:K≤len):∃ qa,Sl w .u8 qa (len - K) (cap - K) (ints (l.drop K)) ∧
  (∀ w:World,(Instr.slice 22 (.slice ao len cap) (some (.int .i64 (K:Int))) none none).run Tryz.prog w=.ok (.slice qa (len - K) (cap - K)) w) ∧
  (∀ w:World,(Instr.sliceAt 22 (.slice ao len cap) (some (.int .i64 (K:Int))) none none).run Tryz.prog w=.ok (.slice qa (len - K) (cap - K)) w):=by
 have hcap:=h.2.1
 have hr:∀ w:World,(Instr.slice 22 (.slice ao len cap) (some (.int .i64 (K:Int))) none none).run Tryz.prog w=.ok (.slice (if cap=K then ao else ao.map (·.add (K*1))) (len - K) (cap - K)) w:=fun w=>by
  have hr:=run_slice_l (P:=Tryz.prog) w 22 ao len cap V.under_bytes .i64 (K:Int) (by omega) (by omega)
  rw[V.elem_bytes,V.size_u8] at hr
  simp only[Result.andThen_ok,Int.toNat_natCast,sliced] at hr
  exact hr
 refine⟨_,?_,hr,fun w=>?_⟩
 ·have:=h.part K len hK (Nat.le_refl _)
  rw[List.take_of_length_le (by rw[h.1];exact Nat.le_refl _),← ints_drop] at this
  exact this
 ·rw[run_sliceAt_slice (P:=Tryz.prog) w 22 (.slice ao len cap) (some (.int .i64 (K:Int))) none none V.under_bytes];exact hr w
theorem head_of {w:World} {ao:Option Addr} {len cap:Nat} {l:List Nat} (h:Sl w .u8 ao len cap (ints l)) {K:Nat} (hK:K≤len):∃ qa,Sl w .u8 qa K cap (ints (l.take K)) ∧
  (∀ w:World,(Instr.slice 22 (.slice ao len cap) none (some (.int .i64 (K:Int))) none).run Tryz.prog w=.ok (.slice qa K cap) w) ∧
  (∀ w:World,(Instr.sliceAt 22 (.slice ao len cap) none (some (.int .i64 (K:Int))) none).run Tryz.prog w=.ok (.slice qa K cap) w):=by
 have hcap:=h.2.1
 have hr:∀ w:World,(Instr.slice 22 (.slice ao len cap) none (some (.int .i64 (K:Int))) none).run Tryz.prog w=.ok (.slice (if cap=0 then ao else ao.map (·.add (0*1))) K cap) w:=fun w=>by
  have hr:=run_slice_h (P:=Tryz.prog) w 22 ao len cap V.under_bytes .i64 (K:Int) (by omega) (by omega)
  rw[V.elem_bytes,V.size_u8] at hr
  simp only[Result.andThen_ok,Int.toNat_natCast,sliced,Nat.sub_zero] at hr
  exact hr
 refine⟨_,?_,hr,fun w=>?_⟩
 ·have:=h.part 0 K (Nat.zero_le _) hK
  rw[List.drop_zero,← ints_take] at this
  exact this
 ·rw[run_sliceAt_slice (P:=Tryz.prog) w 22 (.slice ao len cap) none (some (.int .i64 (K:Int))) none V.under_bytes];exact hr w
end Go.Proofs.YtnkpgmibhpmdhaaGreat

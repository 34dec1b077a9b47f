/- The walk of the statement: values lie within a zone, whose ends are among them; the codec chosen has the fewest bytes. -/
import Derived.Test.YtnkpgmibhpmdhaaGreatBeBP
namespace Go.Proofs.YtnkpgmibhpmdhaaGreat
set_option linter.unusedVariables false
set_option maxRecDepth 10000
open Go.RowKit Go.Sort
def IsIn (b:Bool) (x:Z.V) (l:List Z.V):Prop:=b=true↔x∈l
theorem oth_take {l:List Z.V} {j:Nat} {x:Z.V} (h:l[j]?=some x):oth (l.take (j+1))=oth (l.take j)++(if (x.k==0)=true then [] else [x]):=by
 rw[List.take_add_one,h,oth_append]
 congr 1
 show [x].filter (fun y=>!(y.k==0))=_
 cases hk:(x.k==0)<;>simp[hk]
theorem cnt_take {l:List Z.V} {j:Nat} {x:Z.V} (h:l[j]?=some x):cntT (nus (l.take (j+1)))=cntT (nus (l.take j))+(if (x.k==0)=true then 1 else 0):=by
 rw[List.take_add_one,h,nus_append,cntT_append]
 congr 1
 show cntT [x.k==0]=_
 cases hk:(x.k==0)<;>rfl
set_option maxHeartbeats 8000000 in
theorem segZones_in (w:World) (ao:Option Addr) (ll cap:Nat) (vals:List Z.V) (kind:Int) (hsl:SlV w ao ll cap vals) (hwf:∀ x∈vals,Z.Wf x) (hm:ll*32≤140737488355328) :
  Calls Tryz.prog 5 #[.slice ao ll cap,.int .i64 kind] w fun e w'=>e=.returned (.bool true)∧Below w.heap.size w w':=by
 have HSL:=hide hsl
 have HWF:=hide hwf
 have HVL:=hide hsl.1
 clear hsl hwf
 go_enter Tryz.func5,Tryz.ntmps5
 go_wp2_with fail
 refine (gshown_any w).mono ?_
 rintro e w1 ⟨rfl,hb1⟩
 have HB1:=hide hb1
 clear hb1
 go_wp2_with fail
 refine (gfew_any ao ll cap vals w1 (HSL.out.below HB1.out) (by omega)).mono ?_
 rintro e w2 ⟨q,rfl,hq,hww⟩
 obtain rfl:w1=w2:=hww.symm
 cases q with
 | false =>
  clear hq hww
  go_wp2
  go_ret
  exact⟨rfl,HB1.out⟩
 | true =>
 have hll:=hq rfl
 clear hq hww
 go_wp2_with fail
 refine (smake_any ao ll cap vals kind 0 w1 (HSL.out.below HB1.out) (fun x hx=>(HWF.out x hx).2.1) hm ⟨by decide,by decide⟩).mono ?_
 rintro e w3 ⟨hb3,hmk⟩
 have HB3:=hide (bthen HB1.out hb3)
 clear hb3
 rcases hmk with ⟨hmE,v,rfl,hv⟩|⟨hno,rfl⟩
 ·have hM:=made_of hmE
  obtain⟨S,hS⟩:∃ S,Z.mS vals kind 0=S:=⟨_,rfl⟩
  have hmn:=congrArg Z.S.mn hS
  have hmx:=congrArg Z.S.mx hS
  have hnu:=congrArg Z.S.nulls hS
  have hrw:=congrArg Z.S.rows hS
  have hbs:=congrArg Z.S.bd hS
  rw[hS] at hv
  obtain⟨an,cn,ab,cb,rfl,_,_⟩:=hv
  obtain⟨k,c,r,nu,⟨k1,i1,s1⟩,⟨k2,i2,s2⟩,ns,bd⟩:=S
  have HMN:Hid (Z.lo (oth vals)=⟨k1,i1,s1⟩):=hmn
  have HMX:Hid (Z.hi (oth vals)=⟨k2,i2,s2⟩):=hmx
  have HNU:Hid (cntT (nus vals)=nu):=hnu
  have HRW:Hid (vals.length=r):=hrw
  have hbs2:Z.bd (oth vals) kind (Z.cc vals kind 0)=bd:=hbs
  obtain⟨nd,hnd⟩:∃ x,bd.length=x:=⟨_,rfl⟩
  obtain⟨ln,hln⟩:∃ x,ns.length=x:=⟨_,rfl⟩
  have hcc:Z.cc vals kind 0=((Z.bst (oth vals) kind 4:Nat):Int):=by unfold Z.cc;rw[if_pos rfl]
  have HBEST:Hid (∀ c:Nat,1≤c→c≤4→Z.mE vals kind (c:Int)=0→nd≤(Z.mS vals kind (c:Int)).bd.length):=fun c h1 h2 h3=>by
   have hb:=(made_of h3).body
   rw[cc_again (by omega)] at hb
   have:=(bst_ok hM.chk).2.2.2 c h1 h2 hb
   rw[← hcc,hbs2,hnd] at this
   show nd≤(Z.bd (oth vals) kind (Z.cc vals kind (c:Int))).length
   rw[cc_again (by omega)]
   exact this
  unfold segC
  simp only
  rw[hln,hnd]
  obtain⟨w4,hw⟩:∃ x,w3.alloc (.cells #[.int .i64 k,.int .i64 c,.int .i64 (r:Int),.int .i64 (nu:Int),.int .i64 k1,.int .i64 i1,.string s1,.int .i64 k2,.int .i64 i2,.string s2,.slice an ln cn,.slice ab nd cb] 30)=x:=⟨_,rfl⟩
  have hb:Below w3.heap.size w3 w4:=by rw[← hw];exact below_one w3 _
  obtain⟨G,hG⟩:∃ G,w3.heap.size=G:=⟨_,rfl⟩
  have hA:Blk w4 G #[.int .i64 k,.int .i64 c,.int .i64 (r:Int),.int .i64 (nu:Int),.int .i64 k1,.int .i64 i1,.string s1,.int .i64 k2,.int .i64 i2,.string s2,.slice an ln cn,.slice ab nd cb] 30:=by rw[← hw,← hG];exact Blk.new w3 _ _
  have HA4:=hide hA
  have HB4:=hide (bthen HB3.out hb)
  have HS4:=hide ((HSL.out.below HB3.out).below hb)
  have HW4:=hide hw
  have HMK:Hid (∀ (w':World) (x:Int),Below w.heap.size w w'→Z.I64 x→Calls Tryz.prog 14 #[.slice ao ll cap,.int .i64 kind,.int .i64 x] w' (MakeAns vals kind x w')):=hide fun w' x hb' hx=>smake_any ao ll cap vals kind x w' (HSL.out.below hb') (fun x hx=>(HWF.out x hx).2.1) hm hx
  clear hmE hM hS hmn hmx hnu hrw hbs hbs2 hnd hln hcc hw hb hA HB3
  go_wp2_with fail
  rw[HW4.out]
  go_loopw [8,9,10,11] (fun t u m i wr=>∃ (j cz:Nat) (b1 b2:Bool),j≤ll∧i=.int .i64 j∧m=.int .i64 cz∧t=.bool b1∧u=.bool b2∧Hid (cntT (nus (vals.take j))=cz)∧Hid (IsIn b1 ⟨k1,i1,s1⟩ (oth (vals.take j)))∧Hid (IsIn b2 ⟨k2,i2,s2⟩ (oth (vals.take j)))∧Hid (Blk wr G #[.int .i64 k,.int .i64 c,.int .i64 (r:Int),.int .i64 (nu:Int),.int .i64 k1,.int .i64 i1,.string s1,.int .i64 k2,.int .i64 i2,.string s2,.slice an ln cn,.slice ab nd cb] 30)∧Hid (SlV wr ao ll cap vals)∧Hid (Below w.heap.size w wr)) (fun _ _ _ i _=>ll - (intOf i).toNat)
  case atStart =>
   refine⟨0,0,false,false,Nat.zero_le _,rfl,rfl,rfl,rfl,hide rfl,hide ?_,hide ?_,HA4,HS4,HB4⟩
   ·exact⟨fun h=>absurd h (by decide),fun h=>absurd h (by simp[oth])⟩
   ·exact⟨fun h=>absurd h (by decide),fun h=>absurd h (by simp[oth])⟩
  case round =>
   obtain⟨j,cz,b1,b2,hj,rfl,rfl,rfl,rfl,HCZ,HM1,HM2,HZR,HSR,HBR⟩:=hrel
   by_cases hjl:j<ll
   ·obtain⟨b,off,vk,vi,vs,rfl,hlt,hv,c1,c2,c3⟩:=HSR.out.here hjl
    have HVX:=hide hv
    have hmem:=List.mem_of_getElem? hv
    have hot:=oth_take hv
    have hcn:=cnt_take hv
    by_cases hk0:vk=0
    ·subst hk0
     have hcj:cz≤j:=by
      have h1:=cntT_oth (vals.take j)
      rw[HCZ.out,List.length_take] at h1
      omega
     have HCN:Hid (cntT (nus (vals.take (j+1)))=cz+1):=by show _=_;rw[hcn,HCZ.out];rfl
     have hoe:oth (vals.take (j+1))=oth (vals.take j):=by rw[hot];simp
     have HM1N:Hid (IsIn b1 ⟨k1,i1,s1⟩ (oth (vals.take (j+1)))):=by show IsIn _ _ _;rw[hoe];exact HM1.out
     have HM2N:Hid (IsIn b2 ⟨k2,i2,s2⟩ (oth (vals.take (j+1)))):=by show IsIn _ _ _;rw[hoe];exact HM2.out
     clear hot hcn hoe hmem hv HM1 HM2 HCZ
     go_wp2
     go_roundw
     case rel=>exact⟨j+1,cz+1,b1,b2,hjl,by go_num,by go_num,rfl,rfl,HCN,HM1N,HM2N,HZR,HSR,HBR⟩
     case measure=>simp[intOf];exact Nat.sub_lt_sub_left hjl (Nat.lt_succ_self j)
    ·have hkb:(vk==0)=false:=by simpa using hk0
     have HCN:Hid (cntT (nus (vals.take (j+1)))=cz):=by show _=_;rw[hcn,HCZ.out,hkb];simp
     have HOT:Hid (oth (vals.take (j+1))=oth (vals.take j)++[⟨vk,vi,vs⟩]):=by show _=_;rw[hot,hkb];simp
     have hxo:(⟨vk,vi,vs⟩:Z.V)∈oth vals:=oth_in hmem hk0
     have hend:=ends_in (l:=vals) (fun e=>by rw[e] at hxo;cases hxo)
     rw[HMN.out,HMX.out] at hend
     have h1:=hend.2.2.1 _ hxo
     have h2:=hend.2.2.2 _ hxo
     rw[cv_anti] at h1
     obtain⟨cA,hcA⟩:∃ c,Z.cv ⟨vk,vi,vs⟩ ⟨k1,i1,s1⟩=c:=⟨_,rfl⟩
     obtain⟨cB,hcB⟩:∃ c,Z.cv ⟨vk,vi,vs⟩ ⟨k2,i2,s2⟩=c:=⟨_,rfl⟩
     rw[hcA] at h1
     rw[hcB] at h2
     have hA0:decide (cA<0)=false:=by simp;omega
     have hB0:decide (0<cB)=false:=by simp;omega
     have hsz:vs.size≤9223372036854775807:=(HWF.out _ hmem).2.2
     have hsz1:s1.size≤9223372036854775807:=(HWF.out _ (List.mem_filter.1 hend.1).1).2.2
     have hsz2:s2.size≤9223372036854775807:=(HWF.out _ (List.mem_filter.1 hend.2.1).1).2.2
     have inh:Nonempty (BBy wr):=⟨⟨wr,Below.refl _ _⟩⟩
     have f1:∀ p:BBy wr,p.v.cell? ⟨b,off+j*3,none⟩=some (.int .i64 vk):=fun p=>by rw[p.h.cell (p:=⟨b,off+j*3,none⟩) hlt];exact c1
     have f2:∀ p:BBy wr,p.v.cell? ⟨b,off+j*3+1,none⟩=some (.int .i64 vi):=fun p=>by rw[p.h.cell (p:=⟨b,off+j*3+1,none⟩) hlt];exact c2
     have f3:∀ p:BBy wr,p.v.cell? ⟨b,off+j*3+2,none⟩=some (.string vs):=fun p=>by rw[p.h.cell (p:=⟨b,off+j*3+2,none⟩) hlt];exact c3
     have hGl:=HZR.out.lt
     have g4:∀ p:BBy wr,p.v.cell? ⟨G,4,none⟩=some (.int .i64 k1):=fun p=>by rw[p.h.cell (p:=⟨G,4,none⟩) hGl];exact HZR.out.cell (i:=4) rfl
     have g5:∀ p:BBy wr,p.v.cell? ⟨G,5,none⟩=some (.int .i64 i1):=fun p=>by rw[p.h.cell (p:=⟨G,5,none⟩) hGl];exact HZR.out.cell (i:=5) rfl
     have g6:∀ p:BBy wr,p.v.cell? ⟨G,6,none⟩=some (.string s1):=fun p=>by rw[p.h.cell (p:=⟨G,6,none⟩) hGl];exact HZR.out.cell (i:=6) rfl
     have g7:∀ p:BBy wr,p.v.cell? ⟨G,7,none⟩=some (.int .i64 k2):=fun p=>by rw[p.h.cell (p:=⟨G,7,none⟩) hGl];exact HZR.out.cell (i:=7) rfl
     have g8:∀ p:BBy wr,p.v.cell? ⟨G,8,none⟩=some (.int .i64 i2):=fun p=>by rw[p.h.cell (p:=⟨G,8,none⟩) hGl];exact HZR.out.cell (i:=8) rfl
     have g9:∀ p:BBy wr,p.v.cell? ⟨G,9,none⟩=some (.string s2):=fun p=>by rw[p.h.cell (p:=⟨G,9,none⟩) hGl];exact HZR.out.cell (i:=9) rfl
     have CA:Hid (∀ p:BBy wr,Calls Tryz.prog 17 #[.agg #[.int .i64 vk,.int .i64 vi,.string vs],.agg #[.int .i64 k1,.int .i64 i1,.string s1]] p.v fun e w'=>e=.returned (.int .i64 cA)∧Below p.v.heap.size p.v w'):=by
      intro p;rw[← hcA];exact (ucompare_two vk vi vs k1 i1 s1 p.v hsz hsz1).mono fun _ _ h=>h.below
     have CB:Hid (∀ p:BBy wr,Calls Tryz.prog 17 #[.agg #[.int .i64 vk,.int .i64 vi,.string vs],.agg #[.int .i64 k2,.int .i64 i2,.string s2]] p.v fun e w'=>e=.returned (.int .i64 cB)∧Below p.v.heap.size p.v w'):=by
      intro p;rw[← hcB];exact (ucompare_two vk vi vs k2 i2 s2 p.v hsz hsz2).mono fun _ _ h=>h.below
     clear hot hcn hmem hv hxo hend h1 h2 hcA hcB hsz hsz1 hsz2 HCZ
     go_wp2_with fail
     refine region_below (by kernel_rfl) ?_
     repeat (quiet_step (fail))
     quiet_step (first|(go_at_call 17;refine Calls.below_of (CA.out _)))
     repeat (quiet_step (fail))
     quiet_step (first|(go_at_call 17;refine Calls.below_of (CB.out _)))
     repeat (quiet_step (fail))
     refine wpQuiet_nil ?_
     intro w3 hw'
     have hb3:Below wr.heap.size wr w3:=by
      obtain⟨p,hw''⟩:=hw'
      rw[hw'']
      exact p.h
     have HZ3:=hide (HZR.out.below hb3)
     have HS3:=hide (HSR.out.below hb3)
     have HB3:=hide (bthen HBR.out hb3)
     clear hw' hb3 CA CB inh f1 f2 f3 g4 g5 g6 g7 g8 g9 hGl HZR HSR HBR c1 c2 c3 hlt hA0 hB0
     cases b1 with
     | true =>
      go_wp2_with fail
      go_quiet (fail)
      obtain⟨w4,hw4⟩:∃ x,w3.drewN nq=x:=⟨_,rfl⟩
      have hb:Below w3.heap.size w3 w4:=by rw[← hw4];exact below_drewN (Below.refl _ _) nq
      rw[hw4]
      have HM1N:Hid (IsIn true ⟨k1,i1,s1⟩ (oth (vals.take (j+1)))):=by
       show _↔_
       rw[HOT.out]
       exact⟨fun _=>List.mem_append.2 (.inl (HM1.out.1 rfl)),fun _=>rfl⟩
      have HZ4:=hide (HZ3.out.below hb)
      have HS4:=hide (HS3.out.below hb)
      have HB4:=hide (bthen HB3.out hb)
      clear hw4 hb HZ3 HS3 HB3 HM1 nq
      cases b2 with
      | true =>
       go_wp2_with fail
       go_quiet (fail)
       obtain⟨w5,hw5⟩:∃ x,w4.drewN nq=x:=⟨_,rfl⟩
       have hb:Below w4.heap.size w4 w5:=by rw[← hw5];exact below_drewN (Below.refl _ _) nq
       rw[hw5]
       have HM2N:Hid (IsIn true ⟨k2,i2,s2⟩ (oth (vals.take (j+1)))):=by
        show _↔_
        rw[HOT.out]
        exact⟨fun _=>List.mem_append.2 (.inl (HM2.out.1 rfl)),fun _=>rfl⟩
       have HZ5:=hide (HZ4.out.below hb)
       have HS5:=hide (HS4.out.below hb)
       have HB5:=hide (bthen HB4.out hb)
       clear hw5 hb HZ4 HS4 HB4 HM2 nq
       go_wp2_with fail
       go_roundw
       case rel=>exact⟨j+1,cz,_,true,hjl,by go_num,rfl,by first|rfl|trivial,by first|rfl|trivial,HCN,HM1N,HM2N,HZ5,HS5,HB5⟩
       case measure=>simp[intOf];omega
      | false =>
       obtain⟨q,hq⟩:∃ q,Z.same ⟨vk,vi,vs⟩ ⟨k2,i2,s2⟩=q:=⟨_,rfl⟩
       have hve:=veq_run vk vi vs k2 i2 s2
       rw[hq] at hve
       obtain⟨b',off',vk',vi',vs',e,hlt',hv',c1,c2,c3⟩:=HS4.out.here hjl
       obtain⟨rfl,rfl⟩:b=b'∧off=off':=by injection e with e;injection e with e1 e2;exact⟨e1,e2⟩
       obtain⟨rfl,rfl,rfl⟩:vk=vk'∧vi=vi'∧vs=vs':=by
        rw[HVX.out] at hv'
        injection hv' with hv'
        injection hv' with h1 h2 h3
        exact⟨h1,h2,h3⟩
       clear e hv'
       have z1:w4.cell? ⟨G,7,none⟩=some (.int .i64 k2):=HZ4.out.cell (i:=7) rfl
       have z2:w4.cell? ⟨G,8,none⟩=some (.int .i64 i2):=HZ4.out.cell (i:=8) rfl
       have z3:w4.cell? ⟨G,9,none⟩=some (.string s2):=HZ4.out.cell (i:=9) rfl
       have HM2N:Hid (IsIn q ⟨k2,i2,s2⟩ (oth (vals.take (j+1)))):=by
        show _↔_
        rw[HOT.out,← hq,Z.same_iff,List.mem_append,List.mem_singleton]
        constructor
        ·intro h;exact .inr h.symm
        ·rintro (h|h)
         ·exact absurd (HM2.out.2 h) (by decide)
         ·exact h.symm
       clear hq
       go_wp2_with fail
       go_quiet (fail)
       obtain⟨w5,hw5⟩:∃ x,w4.drewN nq=x:=⟨_,rfl⟩
       have hb:Below w4.heap.size w4 w5:=by rw[← hw5];exact below_drewN (Below.refl _ _) nq
       rw[hw5]
       have HZ5:=hide (HZ4.out.below hb)
       have HS5:=hide (HS4.out.below hb)
       have HB5:=hide (bthen HB4.out hb)
       clear hw5 hb HZ4 HS4 HB4 HM2 nq c1 c2 c3 z1 z2 z3 hve hlt'
       go_wp2_with fail
       go_roundw
       case rel=>exact⟨j+1,cz,_,q,hjl,by go_num,rfl,by first|rfl|trivial,by first|rfl|trivial,HCN,HM1N,HM2N,HZ5,HS5,HB5⟩
       case measure=>simp[intOf];omega
     | false =>
      obtain⟨q,hq⟩:∃ q,Z.same ⟨vk,vi,vs⟩ ⟨k1,i1,s1⟩=q:=⟨_,rfl⟩
      have hve:=veq_run vk vi vs k1 i1 s1
      rw[hq] at hve
      obtain⟨b',off',vk',vi',vs',e,hlt',hv',c1,c2,c3⟩:=HS3.out.here hjl
      obtain⟨rfl,rfl⟩:b=b'∧off=off':=by injection e with e;injection e with e1 e2;exact⟨e1,e2⟩
      obtain⟨rfl,rfl,rfl⟩:vk=vk'∧vi=vi'∧vs=vs':=by
       rw[HVX.out] at hv'
       injection hv' with hv'
       injection hv' with h1 h2 h3
       exact⟨h1,h2,h3⟩
      clear e hv'
      have z1:w3.cell? ⟨G,4,none⟩=some (.int .i64 k1):=HZ3.out.cell (i:=4) rfl
      have z2:w3.cell? ⟨G,5,none⟩=some (.int .i64 i1):=HZ3.out.cell (i:=5) rfl
      have z3:w3.cell? ⟨G,6,none⟩=some (.string s1):=HZ3.out.cell (i:=6) rfl
      have HM1N:Hid (IsIn q ⟨k1,i1,s1⟩ (oth (vals.take (j+1)))):=by
       show _↔_
       rw[HOT.out,← hq,Z.same_iff,List.mem_append,List.mem_singleton]
       constructor
       ·intro h;exact .inr h.symm
       ·rintro (h|h)
        ·exact absurd (HM1.out.2 h) (by decide)
        ·exact h.symm
      clear hq
      go_wp2_with fail
      go_quiet (fail)
      obtain⟨w4,hw4⟩:∃ x,w3.drewN nq=x:=⟨_,rfl⟩
      have hb:Below w3.heap.size w3 w4:=by rw[← hw4];exact below_drewN (Below.refl _ _) nq
      rw[hw4]
      have HZ4:=hide (HZ3.out.below hb)
      have HS4:=hide (HS3.out.below hb)
      have HB4:=hide (bthen HB3.out hb)
      clear hw4 hb HZ3 HS3 HB3 HM1 nq c1 c2 c3 z1 z2 z3 hve hlt'
      cases b2 with
      | true =>
       go_wp2_with fail
       go_quiet (fail)
       obtain⟨w5,hw5⟩:∃ x,w4.drewN nq=x:=⟨_,rfl⟩
       have hb:Below w4.heap.size w4 w5:=by rw[← hw5];exact below_drewN (Below.refl _ _) nq
       rw[hw5]
       have HM2N:Hid (IsIn true ⟨k2,i2,s2⟩ (oth (vals.take (j+1)))):=by
        show _↔_
        rw[HOT.out]
        exact⟨fun _=>List.mem_append.2 (.inl (HM2.out.1 rfl)),fun _=>rfl⟩
       have HZ5:=hide (HZ4.out.below hb)
       have HS5:=hide (HS4.out.below hb)
       have HB5:=hide (bthen HB4.out hb)
       clear hw5 hb HZ4 HS4 HB4 HM2 nq
       go_wp2_with fail
       go_roundw
       case rel=>exact⟨j+1,cz,_,true,hjl,by go_num,rfl,by first|rfl|trivial,by first|rfl|trivial,HCN,HM1N,HM2N,HZ5,HS5,HB5⟩
       case measure=>simp[intOf];omega
      | false =>
       obtain⟨q,hq⟩:∃ q,Z.same ⟨vk,vi,vs⟩ ⟨k2,i2,s2⟩=q:=⟨_,rfl⟩
       have hve:=veq_run vk vi vs k2 i2 s2
       rw[hq] at hve
       obtain⟨b',off',vk',vi',vs',e,hlt',hv',c1,c2,c3⟩:=HS4.out.here hjl
       obtain⟨rfl,rfl⟩:b=b'∧off=off':=by injection e with e;injection e with e1 e2;exact⟨e1,e2⟩
       obtain⟨rfl,rfl,rfl⟩:vk=vk'∧vi=vi'∧vs=vs':=by
        rw[HVX.out] at hv'
        injection hv' with hv'
        injection hv' with h1 h2 h3
        exact⟨h1,h2,h3⟩
       clear e hv'
       have z1:w4.cell? ⟨G,7,none⟩=some (.int .i64 k2):=HZ4.out.cell (i:=7) rfl
       have z2:w4.cell? ⟨G,8,none⟩=some (.int .i64 i2):=HZ4.out.cell (i:=8) rfl
       have z3:w4.cell? ⟨G,9,none⟩=some (.string s2):=HZ4.out.cell (i:=9) rfl
       have HM2N:Hid (IsIn q ⟨k2,i2,s2⟩ (oth (vals.take (j+1)))):=by
        show _↔_
        rw[HOT.out,← hq,Z.same_iff,List.mem_append,List.mem_singleton]
        constructor
        ·intro h;exact .inr h.symm
        ·rintro (h|h)
         ·exact absurd (HM2.out.2 h) (by decide)
         ·exact h.symm
       clear hq
       go_wp2_with fail
       go_quiet (fail)
       obtain⟨w5,hw5⟩:∃ x,w4.drewN nq=x:=⟨_,rfl⟩
       have hb:Below w4.heap.size w4 w5:=by rw[← hw5];exact below_drewN (Below.refl _ _) nq
       rw[hw5]
       have HZ5:=hide (HZ4.out.below hb)
       have HS5:=hide (HS4.out.below hb)
       have HB5:=hide (bthen HB4.out hb)
       clear hw5 hb HZ4 HS4 HB4 HM2 nq c1 c2 c3 z1 z2 z3 hve hlt'
       go_wp2_with fail
       go_roundw
       case rel=>exact⟨j+1,cz,_,q,hjl,by go_num,rfl,by first|rfl|trivial,by first|rfl|trivial,HCN,HM1N,HM2N,HZ5,HS5,HB5⟩
       case measure=>simp[intOf];omega
   ·obtain rfl:j=ll:=by omega
    have hcz:cntT (nus vals)=cz:=by
     have:=HCZ.out
     rwa [← HVL.out,List.take_length] at this
    have HM1F:Hid (IsIn b1 ⟨k1,i1,s1⟩ (oth vals)):=by
     have:=HM1.out
     rwa [← HVL.out,List.take_length] at this
    have HM2F:Hid (IsIn b2 ⟨k2,i2,s2⟩ (oth vals)):=by
     have:=HM2.out
     rwa [← HVL.out,List.take_length] at this
    have hno:=cntT_oth vals
    have hfin:cz=j∨(cz≠j∧b1=true∧b2=true):=by
     by_cases he:oth vals=[]
     ·left
      rw[he] at hno
      have h0:([]:List Z.V).length=0:=rfl
      have:=HVL.out
      omega
     ·right
      obtain⟨e1,e2,_,_⟩:=ends_in he
      rw[HMN.out] at e1
      rw[HMX.out] at e2
      refine⟨fun e=>he (List.eq_nil_of_length_eq_zero ?_),HM1F.out.2 e1,HM2F.out.2 e2⟩
      have:=HVL.out
      omega
    have hnu:nu=cz:=by rw[← hcz];exact HNU.out.symm
    have hr:r=j:=by rw[← HVL.out];exact HRW.out.symm
    have HFIN:=hide hfin
    obtain rfl:cz=nu:=hnu.symm
    obtain rfl:j=r:=hr.symm
    clear hfin hno hcz HCZ HM1 HM2 HM1F HM2F HSR
    go_wp2_with fail
    go_loopw [12] (fun i wr=>∃ x:Int,1≤x∧x≤5∧i=.int .i64 x∧Hid (Blk wr G #[.int .i64 k,.int .i64 c,.int .i64 (j:Int),.int .i64 (cz:Int),.int .i64 k1,.int .i64 i1,.string s1,.int .i64 k2,.int .i64 i2,.string s2,.slice an ln cn,.slice ab nd cb] 30)∧Hid (Below w.heap.size w wr)) (fun i _=>5 - (intOf i).toNat)
    case atStart=>exact⟨1,by omega,by omega,rfl,HZR,HBR⟩
    case round =>
     obtain⟨x,hx1,hx5,rfl,HZX,HBX⟩:=hrel
     by_cases hx4:x≤4
     ·go_wp2_with fail
      refine (HMK.out wr x HBX.out ⟨by omega,by omega⟩).mono ?_
      rintro e w5 ⟨hb5,hmk⟩
      have HZ5:=hide (HZX.out.below hb5)
      have HB5:=hide (bthen HBX.out hb5)
      clear hb5 HZX HBX
      rcases hmk with ⟨hmE,v,rfl,hv⟩|⟨hno,rfl⟩
      ·have hge:nd≤(Z.mS vals kind x).bd.length:=by
        have h:=HBEST.out x.toNat (by omega) (by omega)
        rw[show ((x.toNat:Nat):Int)=x by omega] at h
        exact h hmE
       obtain⟨S,hS⟩:∃ S,Z.mS vals kind x=S:=⟨_,rfl⟩
       rw[hS] at hv hge
       obtain⟨uan,ucn,uab,ucb,rfl,_,_⟩:=hv
       obtain⟨uk,uc,ur,un,⟨uk1,ui1,us1⟩,⟨uk2,ui2,us2⟩,uns,ubd⟩:=S
       simp only at hge
       obtain⟨und,hund⟩:∃ x,ubd.length=x:=⟨_,rfl⟩
       obtain⟨uln,huln⟩:∃ x,uns.length=x:=⟨_,rfl⟩
       rw[hund] at hge
       unfold segC
       simp only
       rw[hund,huln]
       obtain⟨w6,hw⟩:∃ x,w5.alloc (.cells #[.int .i64 uk,.int .i64 uc,.int .i64 (ur:Int),.int .i64 (un:Int),.int .i64 uk1,.int .i64 ui1,.string us1,.int .i64 uk2,.int .i64 ui2,.string us2,.slice uan uln ucn,.slice uab und ucb] 30)=x:=⟨_,rfl⟩
       have hb:Below w5.heap.size w5 w6:=by rw[← hw];exact below_one w5 _
       obtain⟨Gu,hGu⟩:∃ G,w5.heap.size=G:=⟨_,rfl⟩
       have hA:Blk w6 Gu #[.int .i64 uk,.int .i64 uc,.int .i64 (ur:Int),.int .i64 (un:Int),.int .i64 uk1,.int .i64 ui1,.string us1,.int .i64 uk2,.int .i64 ui2,.string us2,.slice uan uln ucn,.slice uab und ucb] 30:=by rw[← hw,← hGu];exact Blk.new w5 _ _
       have hZ6:=HZ5.out.below hb
       have HZ6:=hide hZ6
       have HB6:=hide (bthen HB5.out hb)
       have HW6:=hide hw
       have d11:w6.cell? ⟨Gu,11,none⟩=some (.slice uab und ucb):=hA.cell (i:=11) rfl
       have e11:w6.cell? ⟨G,11,none⟩=some (.slice ab nd cb):=hZ6.cell (i:=11) rfl
       have hnlt:¬ und<nd:=by omega
       clear hmE hge hS hund huln hw hb hA hZ6 HZ5 HB5
       go_wp2_with (first
        | (guard_target =~ wpList _ _ _ ((⟨some 99,_,_,_,_,_⟩:Oper) :: _) _ _;rw[HW6.out])
        | fail)
       go_roundw
       case rel=>exact⟨x+1,by omega,by omega,by go_num,HZ6,HB6⟩
       case measure=>simp[intOf];omega
      ·obtain⟨E,hE⟩:∃ E,Z.mE vals kind x=E:=⟨_,rfl⟩
       rw[hE] at hno ⊢
       have heb:(E==0)=false:=by simpa using hno
       unfold segZ
       have hb:=below_one w5 (.cells #[.int .i64 0,.int .i64 0,.int .i64 0,.int .i64 0,.int .i64 0,.int .i64 0,.string ⟨#[]⟩,.int .i64 0,.int .i64 0,.string ⟨#[]⟩,.slice none 0 0,.slice none 0 0] 30)
       have HZ6:=hide (HZ5.out.below hb)
       have HB6:=hide (bthen HB5.out hb)
       clear hE hno hb HZ5 HB5
       go_wp2_with fail
       go_roundw
       case rel=>exact⟨x+1,by omega,by omega,by go_num,HZ6,HB6⟩
       case measure=>simp[intOf];omega
     ·obtain rfl:x=5:=by omega
      have hZ:=HZX.out
      have d2:wr.cell? ⟨G,2,none⟩=some (.int .i64 (j:Int)):=hZ.cell (i:=2) rfl
      have d3:wr.cell? ⟨G,3,none⟩=some (.int .i64 (cz:Int)):=hZ.cell (i:=3) rfl
      have t1:((cz:Int)==(cz:Int))=true:=by simp
      have t2:((j:Int)==(j:Int))=true:=by simp
      clear hZ HZX HMK HBEST
      rcases HFIN.out with h|⟨h,rfl,rfl⟩
      ·have t3:((cz:Int)==(j:Int))=true:=by simp;omega
       clear HFIN h
       go_wp2
       go_ret
       exact⟨rfl,HBX.out⟩
      ·have t3:((cz:Int)==(j:Int))=false:=by simp;omega
       clear HFIN h
       go_wp2
       go_ret
       exact⟨rfl,HBX.out⟩
 ·obtain⟨E,hE⟩:∃ E,Z.mE vals kind 0=E:=⟨_,rfl⟩
  rw[hE] at hno ⊢
  have heb:(E != 0)=true:=by simpa using hno
  unfold segZ
  have HBF:=hide (bthen HB3.out (below_one w3 (.cells #[.int .i64 0,.int .i64 0,.int .i64 0,.int .i64 0,.int .i64 0,.int .i64 0,.string ⟨#[]⟩,.int .i64 0,.int .i64 0,.string ⟨#[]⟩,.slice none 0 0,.slice none 0 0] 30)))
  clear hE hno
  go_wp2
  go_ret
  exact⟨rfl,HBF.out⟩
theorem segZones_walk (w:World) (a:Option Addr) (len cap:Nat) (l:List Z.V) (hs:SlV w a len cap l) (hwf:∀ x∈l,Z.Wf x) (hr:cap*32≤140737488351232) (kind:Int) (wk:(Lit.int .i64 kind).wf=true) :
  Calls Tryz.prog 5 #[.slice a len cap,.int .i64 kind] w fun e w'=>e=.returned (.bool true)∧Below w.heap.size w w':=by
 have hc:=hs.2.1
 exact segZones_in w a len cap l kind hs hwf (by omega)
end Go.Proofs.YtnkpgmibhpmdhaaGreat

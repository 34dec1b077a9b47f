/- Contracts and plain facts, one behind the other: YI4a YI4b YI4c -/
import Derived.Test.YtnkpgmibhpmdhaaGreatBeAY
namespace Go.Proofs.YtnkpgmibhpmdhaaGreat
open Go.Shelf Go.RowKit Go.Lib Go.Sort
set_option maxRecDepth 1000000
set_option linter.unusedVariables false
variable {P : Program} {α : Type} [Inhabited α]
set_option maxHeartbeats 16000000 in
theorem symI_one (LY:LayI P) (Fsm:P.funcs[241]?=some Tryz.f241) (enc:α→Value) (cf:α→α→Int) (lab:α→Nat) (hL:SWO (Y.lx (ltOf cf) lab)) (g:Nat) (cb:Array Value) (blk off cap:Nat) (d0:Array α) (w0:World)
  (R:Row1 enc w0 blk off d0) (eg:∀ args w,(callFunc g args).run P w=.ok (.enter g args) w) (hcmp:CmpLays1 P g cb enc cf blk off d0.size w0) (a m b:Nat) (d:Array α) (w:World) (hs:d0.size=d.size) (S:SW enc w0 blk off d w) (ham:a<m) (hmb:m<b) (hb:b≤d.size) (hsz:d.size<4611686018427387904) (q1:SortedIn (Y.lx (ltOf cf) lab) a m d) (q2:SortedIn (Y.lx (ltOf cf) lab) m b d) (q3:Y.Cross (ltOf cf) lab a m b d) (hm1:m≤a+1) :
  Calls P 241 #[.slice (some ⟨blk,off,none⟩) d.size cap,.int .i64 a,.int .i64 m,.int .i64 b,.func (.func g) #[] cb] w fun e w'=>e=.returned (.tuple #[])∧∃ d',SW enc w0 blk off d' w'∧PermIn a b d d'∧SortedIn (Y.lx (ltOf cf) lab) a b d':=by
 have mixed:=LY.mixed;have tUnit:=LY.tUnit;have aUnit:=LY.aUnit;have zUnit:=LY.zUnit;have vUnit:=LY.vUnit;have tInt:=LY.tInt;have aInt:=LY.aInt;have zInt:=LY.zInt;have vInt:=LY.vInt;have tBool:=LY.tBool;have aBool:=LY.aBool;have zBool:=LY.zBool;have vBool:=LY.vBool;have tUint:=LY.tUint;have aUint:=LY.aUint;have zUint:=LY.zUint;have vUint:=LY.vUint;have tSl:=LY.tSl;have aSl:=LY.aSl;have zSl:=LY.zSl;have vSl:=LY.vSl;have tFn:=LY.tFn;have aFn:=LY.aFn;have zFn:=LY.zFn;have vFn:=LY.vFn
 have uSl:=run_underlying LY.tSl
 have hcl0:=R.hO.cells
 simp only[Value.cells] at hcl0
 have hst:=R.hO.store P
 have HC:Aside _:=hcmp
 have HL:Aside (SWO (Y.lx (ltOf cf) lab)):=hL
 have S0:Aside (SW enc w0 blk off d w):=S
 have HA:Aside (SortedIn (Y.lx (ltOf cf) lab) a m d):=q1
 have HB:Aside (SortedIn (Y.lx (ltOf cf) lab) m b d):=q2
 have HX:Aside (Y.Cross (ltOf cf) lab a m b d):=q3
 clear hcmp hL S q1 q2 q3
 have z1:(m:Int) - (a:Int)=1:=by omega
 have M1:Hid (m=a+1):=(by omega:m=a+1)
 go_enter Fsm,Tryz.ntmps241
 go_wp2
 clear z1
 go_loopg [10,11] (b - m) (fun kx sA sB wr=>∃ (i j:Nat),sA=.int .i64 i∧sB=.int .i64 j∧m≤i∧i≤j∧j≤b∧j - i≤kx∧Aside (SW enc w0 blk off d wr)∧Aside (∀ x,m≤x→x<i→(!ltOf cf d[x]! d[a]!)=false)∧Aside (∀ x,j≤x→x<b→(!ltOf cf d[x]! d[a]!)=true))
 case atStart=>exact⟨m,b,rfl,rfl,Nat.le_refl _,by omega,Nat.le_refl _,Nat.le_refl _,S0,fun x h1 h2=>by omega,fun x h1 h2=>by omega⟩
 case round =>
  clear S0
  obtain⟨i,j,rfl,rfl,hli,hij,hjh,hkx,S1,A1,A2⟩:=hrel
  by_cases hlt:(i:Int)<(j:Int)
  ·obtain⟨h,hh1,hh2⟩:∃ h,2*h≤i+j∧i+j≤2*h+1:=⟨(i+j) / 2,by omega,by omega⟩
   have zh:((i:Int)+(j:Int)) / 2=(h:Int):=by omega
   have rij:IntKind.i64.wrap ((i:Int)+(j:Int))=(i:Int)+(j:Int):=by rw[IntKind.wrap_i64];omega
   have hih:i≤h:=by omega
   have hhj:h<j:=by omega
   cases hlv:ltOf cf d[h]! d[a]! with
   | true =>
    obtain⟨iN1,hiN1⟩:∃ zz,zz=h:=⟨_,rfl⟩
    obtain⟨jN1,hjN1⟩:∃ zz,zz=a:=⟨_,rfl⟩
    have ea1:((h:Int)).toNat=iN1:=by omega
    have pa1:(0:Int)≤(h:Int):=by omega
    have ba1:(h:Int)<(d.size:Int):=by omega
    have ra1:IntKind.i64.wrap ((h:Int))=(h:Int):=by rw[IntKind.wrap_i64];omega
    have ec1:((a:Int)).toNat=jN1:=by omega
    have pc1:(0:Int)≤(a:Int):=by omega
    have bc1:(a:Int)<(d.size:Int):=by omega
    have rc1:IntKind.i64.wrap ((a:Int))=(a:Int):=by rw[IntKind.wrap_i64];omega
    obtain⟨x1,hx1⟩:∃ x,x=d[h]! := ⟨_,rfl⟩
    obtain⟨y1,hy1⟩:∃ x,x=d[a]! := ⟨_,rfl⟩
    have l1a:=S1.out.cl R (by omega) (h) (by omega)
    have l1b:=S1.out.cl R (by omega) (a) (by omega)
    rw[← hx1,← hiN1] at l1a
    rw[← hy1,← hjN1] at l1b
    have hc1:=S1.out.cmp HC.out (by omega) x1 y1
    have hv1:cf x1 y1<0:=by rw[hx1,hy1];exact of_decide_eq_true hlv
    have hd1:decide (cf x1 y1<0)=true:=decide_eq_true hv1
    clear hx1 hy1 hiN1 hjN1
    go_wp2_with fail
    go_quiet_grown (first|(go_at_fn g;refine Calls.grown_of (hc1 _ _)))
    have S2:Aside (SW enc w0 blk off d (grow (wr.drewN nq) osq)):=S1.out.grown nq osq
    clear l1a l1b hc1 S1
    generalize grow (wr.drewN nq) osq=w2 at S2 ⊢
    clear nq osq
    clear ea1 ec1
    go_wp2
    go_roundg (j - (h+1))
    case measure=>omega
    case rel=>exact⟨h+1,j,by first|rfl|go_num|(congr 1;omega),rfl,by omega,by omega,hjh,Nat.le_refl _,S2,fun x h1 h2=>(by
     rcases Nat.lt_or_ge x i with h3|h3
     ·exact A1.out x h1 h3
     ·have:=Y.mono1 HL.out HB.out HX.out ham (x:=x) (y:=h) h1 (by omega) (by omega) hlv;simp[this]),A2.out⟩
   | false =>
    obtain⟨iN2,hiN2⟩:∃ zz,zz=h:=⟨_,rfl⟩
    obtain⟨jN2,hjN2⟩:∃ zz,zz=a:=⟨_,rfl⟩
    have ea2:((h:Int)).toNat=iN2:=by omega
    have pa2:(0:Int)≤(h:Int):=by omega
    have ba2:(h:Int)<(d.size:Int):=by omega
    have ra2:IntKind.i64.wrap ((h:Int))=(h:Int):=by rw[IntKind.wrap_i64];omega
    have ec2:((a:Int)).toNat=jN2:=by omega
    have pc2:(0:Int)≤(a:Int):=by omega
    have bc2:(a:Int)<(d.size:Int):=by omega
    have rc2:IntKind.i64.wrap ((a:Int))=(a:Int):=by rw[IntKind.wrap_i64];omega
    obtain⟨x2,hx2⟩:∃ x,x=d[h]! := ⟨_,rfl⟩
    obtain⟨y2,hy2⟩:∃ x,x=d[a]! := ⟨_,rfl⟩
    have l2a:=S1.out.cl R (by omega) (h) (by omega)
    have l2b:=S1.out.cl R (by omega) (a) (by omega)
    rw[← hx2,← hiN2] at l2a
    rw[← hy2,← hjN2] at l2b
    have hc2:=S1.out.cmp HC.out (by omega) x2 y2
    have hv2:¬ cf x2 y2<0:=by rw[hx2,hy2];exact of_decide_eq_false hlv
    have hd2:decide (cf x2 y2<0)=false:=decide_eq_false hv2
    clear hx2 hy2 hiN2 hjN2
    go_wp2_with fail
    go_quiet_grown (first|(go_at_fn g;refine Calls.grown_of (hc2 _ _)))
    have S2:Aside (SW enc w0 blk off d (grow (wr.drewN nq) osq)):=S1.out.grown nq osq
    clear l2a l2b hc2 S1
    generalize grow (wr.drewN nq) osq=w2 at S2 ⊢
    clear nq osq
    clear ea2 ec2
    go_wp2
    go_roundg (h - i)
    case measure=>omega
    case rel=>exact⟨i,h,rfl,by first|rfl|go_num|(congr 1;omega),hli,hih,by omega,Nat.le_refl _,S2,A1.out,fun x h1 h2=>(by
     rcases Nat.lt_or_ge x j with h3|h3
     ·cases hz:ltOf cf d[x]! d[a]! with
      | false=>rfl
      | true=>rw[Y.mono1 HL.out HB.out HX.out ham (x:=h) (y:=x) (by omega) h1 h2 hz] at hlv;cases hlv
     ·exact A2.out x h3 h2)⟩
  ·obtain rfl:i=j:=by omega
   have FD:Aside (Y.Found (fun x=>(!ltOf cf d[x]! d[a]!)) m b i):=⟨hli,hjh,A1.out,A2.out⟩
   clear A1 A2
   have V0:Aside (Y.Via (Y.rot a (a+1) (a+1)) a b d d):=(Y.Via.refl a b d).congr fun x=>(Y.rot_one x).symm
   obtain⟨t,ht⟩:∃ t,t+1=i:=⟨i - 1,by omega⟩
   have zt:(i:Int) - 1=(t:Int):=by omega
   have rt:IntKind.i64.wrap (t:Int)=(t:Int):=by rw[IntKind.wrap_i64];omega
   go_wp2
   go_loopg [13] (t - a) (fun kx sA wr2=>∃ (q:Nat) (dk:Array α),sA=.int .i64 q∧a≤q∧q≤t∧t - q≤kx∧dk.size=d.size∧Aside (SW enc w0 blk off dk wr2)∧Aside (Y.Via (Y.rot a (a+1) (q+1)) a b d dk))
   case atStart=>exact⟨a,d,rfl,Nat.le_refl _,by omega,Nat.le_refl _,rfl,S1,V0⟩
   case round =>
    clear S1 V0
    obtain⟨q,dk,rfl,haq,hqt,hkq,hdk,S2,V2⟩:=hrel
    by_cases hqlt:(q:Int)<(t:Int)
    ·go_wp2_with fail
     obtain⟨iN3,hiN3⟩:∃ zz,zz=q:=⟨_,rfl⟩
     obtain⟨jN3,hjN3⟩:∃ zz,zz=q+1:=⟨_,rfl⟩
     have ea3:((q:Int)).toNat=iN3:=by omega
     have pa3:(0:Int)≤(q:Int):=by omega
     have ba3:(q:Int)<(d.size:Int):=by omega
     have ra3:IntKind.i64.wrap ((q:Int))=(q:Int):=by rw[IntKind.wrap_i64];omega
     have ec3:((q:Int)+1).toNat=jN3:=by omega
     have pc3:(0:Int)≤(q:Int)+1:=by omega
     have bc3:(q:Int)+1<(d.size:Int):=by omega
     have rc3:IntKind.i64.wrap ((q:Int)+1)=(q:Int)+1:=by rw[IntKind.wrap_i64];omega
     obtain⟨x3,hx3⟩:∃ x,x=dk[q]! := ⟨_,rfl⟩
     obtain⟨y3,hy3⟩:∃ x,x=dk[q+1]! := ⟨_,rfl⟩
     have S3:Aside (SW enc w0 blk off (swp dk (q) (q+1)) ((wr.setCell ⟨blk,off+iN3,none⟩ (enc y3)).setCell ⟨blk,off+jN3,none⟩ (enc x3)).drew):=by rw[hiN3,hjN3,hx3,hy3];exact S2.out.swapped R (q) (q+1) (by omega) (by omega)
     have c3a:=S2.out.c1 R (by omega) (q) (by omega)
     have f3a:=S2.out.f1 R (by omega) (q) (by omega)
     have c3b:=S2.out.c1 R (by omega) (q+1) (by omega)
     have f3b:=S2.out.f1 R (by omega) (q+1) (by omega)
     obtain⟨u3,c3c⟩:=S2.out.c2 R (by omega) (q) (q+1) (by omega) (by omega) (enc y3)
     rw[← hjN3,← hiN3] at c3c
     rw[← hx3,← hiN3] at c3a
     rw[← hy3,← hjN3] at c3b
     rw[← hiN3] at f3a
     rw[← hjN3] at f3b
     clear S2 hx3 hy3 hiN3 hjN3
     go_wp2_with fail
     go_big_region_o
     clear c3a c3b c3c f3a f3b
     generalize ((wr.setCell ⟨blk,off+iN3,none⟩ (enc y3)).setCell ⟨blk,off+jN3,none⟩ (enc x3)).drew=w3 at S3 ⊢
     clear ea3 ec3
     have V3:Aside (Y.Via (Y.rot a (a+1) (q+2)) a b d (swp dk q (q+1))):=(V2.out.trans (Y.via_swp dk haq (by omega) (by omega) (by omega) (by omega))).congr fun x=>Y.rot_up haq x
     clear V2
     go_wp2
     go_roundg (t - (q+1))
     case measure=>omega
     case rel=>exact⟨q+1,swp dk q (q+1),by first|rfl|go_num|simp,by omega,by omega,Nat.le_refl _,by rw[size_swp];exact hdk,S3,V3⟩
    ·obtain rfl:q=t:=by omega
     go_wp2
     (try simp only[Exit.inBlock,Exit.then]);refine bodyPost_ret (results_none rfl _ _ _) rfl ?_
     exact⟨rfl,dk,S2.out,Y.merge1 HL.out HB.out HX.out M1.out hb FD.out (by have:=V2.out;rw[← M1.out,ht] at this;exact this)⟩
end Go.Proofs.YtnkpgmibhpmdhaaGreat
namespace Go.Proofs.YtnkpgmibhpmdhaaGreat
open Go.Shelf Go.RowKit Go.Lib Go.Sort
set_option maxRecDepth 1000000
set_option linter.unusedVariables false
variable {P : Program} {α : Type} [Inhabited α]
set_option maxHeartbeats 16000000 in
theorem symI_last (LY:LayI P) (Fsm:P.funcs[241]?=some Tryz.f241) (enc:α→Value) (cf:α→α→Int) (lab:α→Nat) (hL:SWO (Y.lx (ltOf cf) lab)) (g:Nat) (cb:Array Value) (blk off cap:Nat) (d0:Array α) (w0:World)
  (R:Row1 enc w0 blk off d0) (eg:∀ args w,(callFunc g args).run P w=.ok (.enter g args) w) (hcmp:CmpLays1 P g cb enc cf blk off d0.size w0) (a m b:Nat) (d:Array α) (w:World) (hs:d0.size=d.size) (S:SW enc w0 blk off d w) (ham:a<m) (hmb:m<b) (hb:b≤d.size) (hsz:d.size<4611686018427387904) (q1:SortedIn (Y.lx (ltOf cf) lab) a m d) (q2:SortedIn (Y.lx (ltOf cf) lab) m b d) (q3:Y.Cross (ltOf cf) lab a m b d) (hm1:a+2≤m) (hm2:b≤m+1) :
  Calls P 241 #[.slice (some ⟨blk,off,none⟩) d.size cap,.int .i64 a,.int .i64 m,.int .i64 b,.func (.func g) #[] cb] w fun e w'=>e=.returned (.tuple #[])∧∃ d',SW enc w0 blk off d' w'∧PermIn a b d d'∧SortedIn (Y.lx (ltOf cf) lab) a b d':=by
 have mixed:=LY.mixed;have tUnit:=LY.tUnit;have aUnit:=LY.aUnit;have zUnit:=LY.zUnit;have vUnit:=LY.vUnit;have tInt:=LY.tInt;have aInt:=LY.aInt;have zInt:=LY.zInt;have vInt:=LY.vInt;have tBool:=LY.tBool;have aBool:=LY.aBool;have zBool:=LY.zBool;have vBool:=LY.vBool;have tUint:=LY.tUint;have aUint:=LY.aUint;have zUint:=LY.zUint;have vUint:=LY.vUint;have tSl:=LY.tSl;have aSl:=LY.aSl;have zSl:=LY.zSl;have vSl:=LY.vSl;have tFn:=LY.tFn;have aFn:=LY.aFn;have zFn:=LY.zFn;have vFn:=LY.vFn
 have uSl:=run_underlying LY.tSl
 have hcl0:=R.hO.cells
 simp only[Value.cells] at hcl0
 have hst:=R.hO.store P
 have HC:Aside _:=hcmp
 have HL:Aside (SWO (Y.lx (ltOf cf) lab)):=hL
 have S0:Aside (SW enc w0 blk off d w):=S
 have HA:Aside (SortedIn (Y.lx (ltOf cf) lab) a m d):=q1
 have HB:Aside (SortedIn (Y.lx (ltOf cf) lab) m b d):=q2
 have HX:Aside (Y.Cross (ltOf cf) lab a m b d):=q3
 clear hcmp hL S q1 q2 q3
 have z1:((m:Int) - (a:Int)==1)=false:=beq_eq_false_iff_ne.2 (by omega)
 have rma:IntKind.i64.wrap ((m:Int) - (a:Int))=(m:Int) - (a:Int):=by rw[IntKind.wrap_i64];omega
 have z2:(b:Int) - (m:Int)=1:=by omega
 have M2:Hid (b=m+1):=(by omega:b=m+1)
 go_enter Fsm,Tryz.ntmps241
 go_wp2
 clear z1 z2 rma
 go_loopg [14,15] (m - a) (fun kx sA sB wr=>∃ (i j:Nat),sA=.int .i64 i∧sB=.int .i64 j∧a≤i∧i≤j∧j≤m∧j - i≤kx∧Aside (SW enc w0 blk off d wr)∧Aside (∀ x,a≤x→x<i→(ltOf cf d[m]! d[x]!)=false)∧Aside (∀ x,j≤x→x<m→(ltOf cf d[m]! d[x]!)=true))
 case atStart=>exact⟨a,m,rfl,rfl,Nat.le_refl _,by omega,Nat.le_refl _,Nat.le_refl _,S0,fun x h1 h2=>by omega,fun x h1 h2=>by omega⟩
 case round =>
  clear S0
  obtain⟨i,j,rfl,rfl,hli,hij,hjh,hkx,S1,A1,A2⟩:=hrel
  by_cases hlt:(i:Int)<(j:Int)
  ·obtain⟨h,hh1,hh2⟩:∃ h,2*h≤i+j∧i+j≤2*h+1:=⟨(i+j) / 2,by omega,by omega⟩
   have zh:((i:Int)+(j:Int)) / 2=(h:Int):=by omega
   have rij:IntKind.i64.wrap ((i:Int)+(j:Int))=(i:Int)+(j:Int):=by rw[IntKind.wrap_i64];omega
   have hih:i≤h:=by omega
   have hhj:h<j:=by omega
   cases hlv:ltOf cf d[m]! d[h]! with
   | true =>
    obtain⟨iN4,hiN4⟩:∃ zz,zz=m:=⟨_,rfl⟩
    obtain⟨jN4,hjN4⟩:∃ zz,zz=h:=⟨_,rfl⟩
    have ea4:((m:Int)).toNat=iN4:=by omega
    have pa4:(0:Int)≤(m:Int):=by omega
    have ba4:(m:Int)<(d.size:Int):=by omega
    have ra4:IntKind.i64.wrap ((m:Int))=(m:Int):=by rw[IntKind.wrap_i64];omega
    have ec4:((h:Int)).toNat=jN4:=by omega
    have pc4:(0:Int)≤(h:Int):=by omega
    have bc4:(h:Int)<(d.size:Int):=by omega
    have rc4:IntKind.i64.wrap ((h:Int))=(h:Int):=by rw[IntKind.wrap_i64];omega
    obtain⟨x4,hx4⟩:∃ x,x=d[m]! := ⟨_,rfl⟩
    obtain⟨y4,hy4⟩:∃ x,x=d[h]! := ⟨_,rfl⟩
    have l4a:=S1.out.cl R (by omega) (m) (by omega)
    have l4b:=S1.out.cl R (by omega) (h) (by omega)
    rw[← hx4,← hiN4] at l4a
    rw[← hy4,← hjN4] at l4b
    have hc4:=S1.out.cmp HC.out (by omega) x4 y4
    have hv4:cf x4 y4<0:=by rw[hx4,hy4];exact of_decide_eq_true hlv
    have hd4:decide (cf x4 y4<0)=true:=decide_eq_true hv4
    clear hx4 hy4 hiN4 hjN4
    go_wp2_with fail
    go_quiet_grown (first|(go_at_fn g;refine Calls.grown_of (hc4 _ _)))
    have S2:Aside (SW enc w0 blk off d (grow (wr.drewN nq) osq)):=S1.out.grown nq osq
    clear l4a l4b hc4 S1
    generalize grow (wr.drewN nq) osq=w2 at S2 ⊢
    clear nq osq
    clear ea4 ec4
    go_wp2
    go_roundg (h - i)
    case measure=>omega
    case rel=>exact⟨i,h,rfl,by first|rfl|go_num|(congr 1;omega),hli,hih,by omega,Nat.le_refl _,S2,A1.out,fun x h1 h2=>(by
     rcases Nat.lt_or_ge x j with h3|h3
     ·exact Y.mono2 HL.out HA.out HX.out hmb (x:=h) (y:=x) (by omega) h1 h2 hlv
     ·exact A2.out x h3 h2)⟩
   | false =>
    obtain⟨iN5,hiN5⟩:∃ zz,zz=m:=⟨_,rfl⟩
    obtain⟨jN5,hjN5⟩:∃ zz,zz=h:=⟨_,rfl⟩
    have ea5:((m:Int)).toNat=iN5:=by omega
    have pa5:(0:Int)≤(m:Int):=by omega
    have ba5:(m:Int)<(d.size:Int):=by omega
    have ra5:IntKind.i64.wrap ((m:Int))=(m:Int):=by rw[IntKind.wrap_i64];omega
    have ec5:((h:Int)).toNat=jN5:=by omega
    have pc5:(0:Int)≤(h:Int):=by omega
    have bc5:(h:Int)<(d.size:Int):=by omega
    have rc5:IntKind.i64.wrap ((h:Int))=(h:Int):=by rw[IntKind.wrap_i64];omega
    obtain⟨x5,hx5⟩:∃ x,x=d[m]! := ⟨_,rfl⟩
    obtain⟨y5,hy5⟩:∃ x,x=d[h]! := ⟨_,rfl⟩
    have l5a:=S1.out.cl R (by omega) (m) (by omega)
    have l5b:=S1.out.cl R (by omega) (h) (by omega)
    rw[← hx5,← hiN5] at l5a
    rw[← hy5,← hjN5] at l5b
    have hc5:=S1.out.cmp HC.out (by omega) x5 y5
    have hv5:¬ cf x5 y5<0:=by rw[hx5,hy5];exact of_decide_eq_false hlv
    have hd5:decide (cf x5 y5<0)=false:=decide_eq_false hv5
    clear hx5 hy5 hiN5 hjN5
    go_wp2_with fail
    go_quiet_grown (first|(go_at_fn g;refine Calls.grown_of (hc5 _ _)))
    have S2:Aside (SW enc w0 blk off d (grow (wr.drewN nq) osq)):=S1.out.grown nq osq
    clear l5a l5b hc5 S1
    generalize grow (wr.drewN nq) osq=w2 at S2 ⊢
    clear nq osq
    clear ea5 ec5
    go_wp2
    go_roundg (j - (h+1))
    case measure=>omega
    case rel=>exact⟨h+1,j,by first|rfl|go_num|(congr 1;omega),rfl,by omega,by omega,hjh,Nat.le_refl _,S2,fun x h1 h2=>(by
     rcases Nat.lt_or_ge x i with h3|h3
     ·exact A1.out x h1 h3
     ·cases hz:ltOf cf d[m]! d[x]! with
      | false=>rfl
      | true=>rw[Y.mono2 HL.out HA.out HX.out hmb (x:=x) (y:=h) h1 (by omega) (by omega) hz] at hlv;cases hlv),A2.out⟩
  ·obtain rfl:i=j:=by omega
   have FD:Aside (Y.Found (fun x=>(ltOf cf d[m]! d[x]!)) a m i):=⟨hli,hjh,A1.out,A2.out⟩
   clear A1 A2
   have V0:Aside (Y.Via (Y.rot m m (m+1)) a b d d):=(Y.Via.refl a b d).congr fun x=>(Y.rot_none x).symm
   go_wp2
   go_loopg [17] (m - i) (fun kx sA wr2=>∃ (q:Nat) (dk:Array α),sA=.int .i64 q∧i≤q∧q≤m∧q - i≤kx∧dk.size=d.size∧Aside (SW enc w0 blk off dk wr2)∧Aside (Y.Via (Y.rot q m (m+1)) a b d dk))
   case atStart=>exact⟨m,d,rfl,by omega,Nat.le_refl _,Nat.le_refl _,rfl,S1,V0⟩
   case round =>
    clear S1 V0
    obtain⟨q,dk,rfl,hiq,hqm,hkq,hdk,S2,V2⟩:=hrel
    by_cases hqlt:(i:Int)<(q:Int)
    ·obtain⟨r,hr⟩:∃ r,r+1=q:=⟨q - 1,by omega⟩
     have zr:(q:Int) - 1=(r:Int):=by omega
     go_wp2_with fail
     obtain⟨iN6,hiN6⟩:∃ zz,zz=q:=⟨_,rfl⟩
     obtain⟨jN6,hjN6⟩:∃ zz,zz=r:=⟨_,rfl⟩
     have ea6:((q:Int)).toNat=iN6:=by omega
     have pa6:(0:Int)≤(q:Int):=by omega
     have ba6:(q:Int)<(d.size:Int):=by omega
     have ra6:IntKind.i64.wrap ((q:Int))=(q:Int):=by rw[IntKind.wrap_i64];omega
     have ec6:((r:Int)).toNat=jN6:=by omega
     have pc6:(0:Int)≤(r:Int):=by omega
     have bc6:(r:Int)<(d.size:Int):=by omega
     have rc6:IntKind.i64.wrap ((r:Int))=(r:Int):=by rw[IntKind.wrap_i64];omega
     obtain⟨x6,hx6⟩:∃ x,x=dk[q]! := ⟨_,rfl⟩
     obtain⟨y6,hy6⟩:∃ x,x=dk[r]! := ⟨_,rfl⟩
     have S3:Aside (SW enc w0 blk off (swp dk (q) (r)) ((wr.setCell ⟨blk,off+iN6,none⟩ (enc y6)).setCell ⟨blk,off+jN6,none⟩ (enc x6)).drew):=by rw[hiN6,hjN6,hx6,hy6];exact S2.out.swapped R (q) (r) (by omega) (by omega)
     have c6a:=S2.out.c1 R (by omega) (q) (by omega)
     have f6a:=S2.out.f1 R (by omega) (q) (by omega)
     have c6b:=S2.out.c1 R (by omega) (r) (by omega)
     have f6b:=S2.out.f1 R (by omega) (r) (by omega)
     obtain⟨u6,c6c⟩:=S2.out.c2 R (by omega) (q) (r) (by omega) (by omega) (enc y6)
     rw[← hjN6,← hiN6] at c6c
     rw[← hx6,← hiN6] at c6a
     rw[← hy6,← hjN6] at c6b
     rw[← hiN6] at f6a
     rw[← hjN6] at f6b
     clear S2 hx6 hy6 hiN6 hjN6
     go_wp2_with fail
     go_big_region_o
     clear c6a c6b c6c f6a f6b
     generalize ((wr.setCell ⟨blk,off+iN6,none⟩ (enc y6)).setCell ⟨blk,off+jN6,none⟩ (enc x6)).drew=w3 at S3 ⊢
     clear ea6 ec6
     have V3:Aside (Y.Via (Y.rot r m (m+1)) a b d (swp dk q r)):=(V2.out.trans (Y.via_swp dk (by omega) (by omega) (by omega) (by omega) (by omega))).congr fun x=>by have:=Y.rot_down (k:=q) (m:=m) (by omega) hqm x;rw[show q - 1=r by omega] at this;exact this
     clear V2
     go_wp2
     go_roundg (r - i)
     case measure=>omega
     case rel=>exact⟨r,swp dk q r,by first|rfl|go_num|simp,by omega,by omega,Nat.le_refl _,by rw[size_swp];exact hdk,S3,V3⟩
    ·obtain rfl:i=q:=by omega
     go_wp2
     (try simp only[Exit.inBlock,Exit.then]);refine bodyPost_ret (results_none rfl _ _ _) rfl ?_
     exact⟨rfl,dk,S2.out,Y.merge2 HL.out HA.out HX.out M2.out hb FD.out V2.out⟩
end Go.Proofs.YtnkpgmibhpmdhaaGreat
namespace Go.Proofs.YtnkpgmibhpmdhaaGreat
open Go.Shelf Go.RowKit Go.Lib Go.Sort
set_option maxRecDepth 1000000
set_option linter.unusedVariables false
variable {P : Program} {α : Type} [Inhabited α]
set_option maxHeartbeats 16000000 in
theorem symI_high (LY:LayI P) (Fsw:P.funcs[244]?=some Tryz.f244) (Fro:P.funcs[243]?=some Tryz.f243) (Fsm:P.funcs[241]?=some Tryz.f241) (enc:α→Value) (cf:α→α→Int) (lab:α→Nat) (hL:SWO (Y.lx (ltOf cf) lab)) (g:Nat) (cb:Array Value) (blk off cap:Nat) (d0:Array α) (w0:World)
  (R:Row1 enc w0 blk off d0) (eg:∀ args w,(callFunc g args).run P w=.ok (.enter g args) w) (hcmp:CmpLays1 P g cb enc cf blk off d0.size w0) (a m b:Nat) (d:Array α) (w:World) (hs:d0.size=d.size) (S:SW enc w0 blk off d w) (ham:a<m) (hmb:m<b) (hb:b≤d.size) (hsz:d.size<4611686018427387904) (q1:SortedIn (Y.lx (ltOf cf) lab) a m d) (q2:SortedIn (Y.lx (ltOf cf) lab) m b d) (q3:Y.Cross (ltOf cf) lab a m b d) (hm1:a+2≤m) (hm2:m+2≤b) (mid:Nat) (hmid1:2*mid≤a+b) (hmid2:a+b≤2*mid+1) (hm:mid<m) (N:Nat) (hN:b - a≤N+1) (ih:∀ (a m b:Nat) (d:Array α) (w:World),b - a≤N→d0.size=d.size→SW enc w0 blk off d w→a<m→m<b→b≤d.size→d.size<4611686018427387904→SortedIn (Y.lx (ltOf cf) lab) a m d→SortedIn (Y.lx (ltOf cf) lab) m b d→Y.Cross (ltOf cf) lab a m b d →
  Calls P 241 #[.slice (some ⟨blk,off,none⟩) d.size cap,.int .i64 a,.int .i64 m,.int .i64 b,.func (.func g) #[] cb] w fun e w'=>e=.returned (.tuple #[])∧∃ d',SW enc w0 blk off d' w'∧PermIn a b d d'∧SortedIn (Y.lx (ltOf cf) lab) a b d') :
  Calls P 241 #[.slice (some ⟨blk,off,none⟩) d.size cap,.int .i64 a,.int .i64 m,.int .i64 b,.func (.func g) #[] cb] w fun e w'=>e=.returned (.tuple #[])∧∃ d',SW enc w0 blk off d' w'∧PermIn a b d d'∧SortedIn (Y.lx (ltOf cf) lab) a b d':=by
 have mixed:=LY.mixed;have tUnit:=LY.tUnit;have aUnit:=LY.aUnit;have zUnit:=LY.zUnit;have vUnit:=LY.vUnit;have tInt:=LY.tInt;have aInt:=LY.aInt;have zInt:=LY.zInt;have vInt:=LY.vInt;have tBool:=LY.tBool;have aBool:=LY.aBool;have zBool:=LY.zBool;have vBool:=LY.vBool;have tUint:=LY.tUint;have aUint:=LY.aUint;have zUint:=LY.zUint;have vUint:=LY.vUint;have tSl:=LY.tSl;have aSl:=LY.aSl;have zSl:=LY.zSl;have vSl:=LY.vSl;have tFn:=LY.tFn;have aFn:=LY.aFn;have zFn:=LY.zFn;have vFn:=LY.vFn
 have uSl:=run_underlying LY.tSl
 have hcl0:=R.hO.cells
 simp only[Value.cells] at hcl0
 have hst:=R.hO.store P
 have HC:Aside _:=hcmp
 have HL:Aside (SWO (Y.lx (ltOf cf) lab)):=hL
 have S0:Aside (SW enc w0 blk off d w):=S
 have HA:Aside (SortedIn (Y.lx (ltOf cf) lab) a m d):=q1
 have HB:Aside (SortedIn (Y.lx (ltOf cf) lab) m b d):=q2
 have HX:Aside (Y.Cross (ltOf cf) lab a m b d):=q3
 clear hcmp hL S q1 q2 q3
 have IH:Aside _:=ih
 clear ih
 have ero:∀ args w,(callFunc 243 args).run P w=.ok (.enter 243 args) w:=enters_of Fro (by kernel_rfl) rfl
 have esm:∀ args w,(callFunc 241 args).run P w=.ok (.enter 241 args) w:=enters_of Fsm (by kernel_rfl) rfl
 have z1:((m:Int) - (a:Int)==1)=false:=beq_eq_false_iff_ne.2 (by omega)
 have rma:IntKind.i64.wrap ((m:Int) - (a:Int))=(m:Int) - (a:Int):=by rw[IntKind.wrap_i64];omega
 have z2:((b:Int) - (m:Int)==1)=false:=beq_eq_false_iff_ne.2 (by omega)
 have rbm:IntKind.i64.wrap ((b:Int) - (m:Int))=(b:Int) - (m:Int):=by rw[IntKind.wrap_i64];omega
 have hmid:Hid (mid=(a+b) / 2):=(by omega:mid=(a+b) / 2)
 have zmid:((a:Int)+(b:Int)) / 2=(mid:Int):=by omega
 have rab:IntKind.i64.wrap ((a:Int)+(b:Int))=(a:Int)+(b:Int):=by rw[IntKind.wrap_i64];omega
 obtain⟨n,hn1,hn2⟩:∃ n,n≤mid+m∧mid+m≤n:=⟨mid+m,by omega,by omega⟩
 have zn:(mid:Int)+(m:Int)=(n:Int):=by omega
 have rn:IntKind.i64.wrap (n:Int)=(n:Int):=by rw[IntKind.wrap_i64];omega
 obtain⟨p,hp⟩:∃ p,p+1=n:=⟨n - 1,by omega⟩
 have zp:(n:Int) - 1=(p:Int):=by omega
 have rp:IntKind.i64.wrap (p:Int)=(p:Int):=by rw[IntKind.wrap_i64];omega
 have hgt:(mid:Int)<(m:Int):=by omega
 obtain⟨lo,hlo⟩:∃ lo,lo+b=n:=⟨n - b,by omega⟩
 have zlo:(n:Int) - (b:Int)=(lo:Int):=by omega
 have rlo:IntKind.i64.wrap (lo:Int)=(lo:Int):=by rw[IntKind.wrap_i64];omega
 go_enter Fsm,Tryz.ntmps241
 go_wp2
 clear z1 z2 rma rbm zmid rab zn rn zp rp zlo rlo
 go_loopg [20,21] (mid - lo) (fun kx sA sB wr=>∃ (i j:Nat),sA=.int .i64 i∧sB=.int .i64 j∧lo≤i∧i≤j∧j≤mid∧j - i≤kx∧Aside (SW enc w0 blk off d wr)∧Aside (∀ x,lo≤x→x<i→(ltOf cf d[p - x]! d[x]!)=false)∧Aside (∀ x,j≤x→x<mid→(ltOf cf d[p - x]! d[x]!)=true))
 case atStart=>exact⟨lo,mid,rfl,rfl,Nat.le_refl _,by omega,Nat.le_refl _,Nat.le_refl _,S0,fun x h1 h2=>by omega,fun x h1 h2=>by omega⟩
 case round =>
  clear S0
  obtain⟨i,j,rfl,rfl,hli,hij,hjh,hkx,S1,A1,A2⟩:=hrel
  by_cases hlt:(i:Int)<(j:Int)
  ·obtain⟨h,hh1,hh2⟩:∃ h,2*h≤i+j∧i+j≤2*h+1:=⟨(i+j) / 2,by omega,by omega⟩
   have zh:((i:Int)+(j:Int)) / 2=(h:Int):=by omega
   have rij:IntKind.i64.wrap ((i:Int)+(j:Int))=(i:Int)+(j:Int):=by rw[IntKind.wrap_i64];omega
   have hih:i≤h:=by omega
   have hhj:h<j:=by omega
   obtain⟨q,hq⟩:∃ q,q+h=p:=⟨p - h,by omega⟩
   have zq:(p:Int) - (h:Int)=(q:Int):=by omega
   have rq:IntKind.i64.wrap (q:Int)=(q:Int):=by rw[IntKind.wrap_i64];omega
   cases hlv:ltOf cf d[q]! d[h]! with
   | true =>
    obtain⟨iN7,hiN7⟩:∃ zz,zz=q:=⟨_,rfl⟩
    obtain⟨jN7,hjN7⟩:∃ zz,zz=h:=⟨_,rfl⟩
    have ea7:((q:Int)).toNat=iN7:=by omega
    have pa7:(0:Int)≤(q:Int):=by omega
    have ba7:(q:Int)<(d.size:Int):=by omega
    have ra7:IntKind.i64.wrap ((q:Int))=(q:Int):=by rw[IntKind.wrap_i64];omega
    have ec7:((h:Int)).toNat=jN7:=by omega
    have pc7:(0:Int)≤(h:Int):=by omega
    have bc7:(h:Int)<(d.size:Int):=by omega
    have rc7:IntKind.i64.wrap ((h:Int))=(h:Int):=by rw[IntKind.wrap_i64];omega
    obtain⟨x7,hx7⟩:∃ x,x=d[q]! := ⟨_,rfl⟩
    obtain⟨y7,hy7⟩:∃ x,x=d[h]! := ⟨_,rfl⟩
    have l7a:=S1.out.cl R (by omega) (q) (by omega)
    have l7b:=S1.out.cl R (by omega) (h) (by omega)
    rw[← hx7,← hiN7] at l7a
    rw[← hy7,← hjN7] at l7b
    have hc7:=S1.out.cmp HC.out (by omega) x7 y7
    have hv7:cf x7 y7<0:=by rw[hx7,hy7];exact of_decide_eq_true hlv
    have hd7:decide (cf x7 y7<0)=true:=decide_eq_true hv7
    clear hx7 hy7 hiN7 hjN7
    go_wp2_with fail
    go_quiet_grown (first|(go_at_fn g;refine Calls.grown_of (hc7 _ _)))
    have S2:Aside (SW enc w0 blk off d (grow (wr.drewN nq) osq)):=S1.out.grown nq osq
    clear l7a l7b hc7 S1
    generalize grow (wr.drewN nq) osq=w2 at S2 ⊢
    clear nq osq
    clear ea7 ec7
    go_wp2
    go_roundg (h - i)
    case measure=>omega
    case rel=>exact⟨i,h,rfl,by first|rfl|go_num|(congr 1;omega),hli,hih,by omega,Nat.le_refl _,S2,A1.out,fun x h1 h2=>(by
     rcases Nat.lt_or_ge x j with h3|h3
     ·exact Y.mono3 HL.out HA.out HB.out HX.out (p:=p) (x:=h) (y:=x) (by omega) h1 (by omega) (by omega) (by omega) (by rw[show p - h=q by omega];exact hlv)
     ·exact A2.out x h3 h2)⟩
   | false =>
    obtain⟨iN8,hiN8⟩:∃ zz,zz=q:=⟨_,rfl⟩
    obtain⟨jN8,hjN8⟩:∃ zz,zz=h:=⟨_,rfl⟩
    have ea8:((q:Int)).toNat=iN8:=by omega
    have pa8:(0:Int)≤(q:Int):=by omega
    have ba8:(q:Int)<(d.size:Int):=by omega
    have ra8:IntKind.i64.wrap ((q:Int))=(q:Int):=by rw[IntKind.wrap_i64];omega
    have ec8:((h:Int)).toNat=jN8:=by omega
    have pc8:(0:Int)≤(h:Int):=by omega
    have bc8:(h:Int)<(d.size:Int):=by omega
    have rc8:IntKind.i64.wrap ((h:Int))=(h:Int):=by rw[IntKind.wrap_i64];omega
    obtain⟨x8,hx8⟩:∃ x,x=d[q]! := ⟨_,rfl⟩
    obtain⟨y8,hy8⟩:∃ x,x=d[h]! := ⟨_,rfl⟩
    have l8a:=S1.out.cl R (by omega) (q) (by omega)
    have l8b:=S1.out.cl R (by omega) (h) (by omega)
    rw[← hx8,← hiN8] at l8a
    rw[← hy8,← hjN8] at l8b
    have hc8:=S1.out.cmp HC.out (by omega) x8 y8
    have hv8:¬ cf x8 y8<0:=by rw[hx8,hy8];exact of_decide_eq_false hlv
    have hd8:decide (cf x8 y8<0)=false:=decide_eq_false hv8
    clear hx8 hy8 hiN8 hjN8
    go_wp2_with fail
    go_quiet_grown (first|(go_at_fn g;refine Calls.grown_of (hc8 _ _)))
    have S2:Aside (SW enc w0 blk off d (grow (wr.drewN nq) osq)):=S1.out.grown nq osq
    clear l8a l8b hc8 S1
    generalize grow (wr.drewN nq) osq=w2 at S2 ⊢
    clear nq osq
    clear ea8 ec8
    go_wp2
    go_roundg (j - (h+1))
    case measure=>omega
    case rel=>exact⟨h+1,j,by first|rfl|go_num|(congr 1;omega),rfl,by omega,by omega,hjh,Nat.le_refl _,S2,fun x h1 h2=>(by
     rcases Nat.lt_or_ge x i with h3|h3
     ·exact A1.out x h1 h3
     ·cases hz:ltOf cf d[p - x]! d[x]! with
      | false=>rfl
      | true=>rw[show q=p - h by omega,Y.mono3 HL.out HA.out HB.out HX.out (p:=p) (x:=x) (y:=h) (by omega) (by omega) (by omega) (by omega) (by omega) hz] at hlv;cases hlv),A2.out⟩
  ·obtain rfl:i=j:=by omega
   have FD:Aside (Y.Found (fun x=>(ltOf cf d[p - x]! d[x]!)) lo mid i):=⟨hli,hjh,A1.out,A2.out⟩
   clear A1 A2
   obtain⟨e,he⟩:∃ e,e+i=n:=⟨n - i,by omega⟩
   have ze:(n:Int) - (i:Int)=(e:Int):=by omega
   have re:IntKind.i64.wrap (e:Int)=(e:Int):=by rw[IntKind.wrap_i64];omega
   have HF:Aside _:=fun (d1:Array α) (hv:Y.Via (Y.rot i m e) a b d d1)=>Y.half_of HL.out HA.out HB.out HX.out ham hmb hb hmid.out (show e+i=mid+m by omega) (show Y.Found (fun c=>ltOf cf d[mid+m - 1 - c]! d[c]!) (if m>mid then mid+m - b else a) (if m>mid then mid else m) i by rw[if_pos (by omega),if_pos (by omega)];have h0:=FD.out;rw[show p=mid+m - 1 by omega,show lo=mid+m - b by omega] at h0;exact h0) hv
   clear FD
   by_cases hrot:i<m∧m<e
   ·obtain⟨hr1,hr2⟩:=hrot
    have zq1:(i:Int)<(m:Int):=by omega
    have zq2:(m:Int)<(e:Int):=by omega
    go_wp2_with fail
    clear ze re zq1 zq2
    refine (rotateI LY Fsw Fro enc g cb blk off cap i m e d0 d w0 _ R (by omega) S1.out hr1 hr2 (by omega) (by omega)).mono ?_
    rintro _ w3 ⟨rfl,d1,s3,v3⟩
    have S3:Aside _:=s3
    have V3:Aside (Y.Via (Y.rot i m e) a b d d1):=v3.mono (by omega) (by omega) hb
    clear s3 v3 S1
    obtain⟨g1,g2,g3,g4,g5,g6,hf⟩:=HF.out d1 V3.out
    have HH:Aside _:=hf
    have HP:Aside (PermIn a b d d1):=V3.out.1
    have hs1:d1.size=d.size:=HP.out.1
    clear hf HF
    by_cases hl:a<i∧i<mid
    ·obtain⟨hl1,hl2⟩:=hl
     have zl1:(a:Int)<(i:Int):=by omega
     have zl2:(i:Int)<(mid:Int):=by omega
     go_wp2_with fail
     clear zl1 zl2
     rw[← hs1]
     refine (IH.out a i mid d1 _ (by omega) (by omega) S3.out hl1 hl2 (by omega) (by omega) HH.out.l1 HH.out.l2 HH.out.lc).mono ?_
     rintro _ w4 ⟨rfl,d2,s4,p2,r2⟩
     have S4:Aside _:=s4
     have P2:Aside _:=p2
     have R2:Aside _:=r2
     have hs2:d2.size=d.size:=p2.1.trans hs1
     rw[hs1]
     clear s4 p2 r2 S3
     by_cases hr:mid<e∧e<b
     ·obtain⟨hr1,hr2⟩:=hr
      have zr1:(mid:Int)<(e:Int):=by omega
      have zr2:(e:Int)<(b:Int):=by omega
      obtain⟨k1,k2,k3⟩:=HH.out.keep P2.out g3
      go_wp2_with fail
      clear zr1 zr2
      rw[← hs2]
      refine (IH.out mid e b d2 _ (by omega) (by omega) S4.out hr1 hr2 (by omega) (by omega) k1 k2 k3).mono ?_
      rintro _ w5 ⟨rfl,d3,s5,p3,r3⟩
      have S5:Aside _:=s5
      have P3:Aside _:=p3
      have R3:Aside _:=r3
      clear s5 p3 r3 k1 k2 k3
      rw[hs2]
      go_wp2
      go_end0
      exact⟨rfl,d3,S5.out,Y.halves HP.out hb (by omega) (by omega) HH.out P2.out R2.out P3.out R3.out⟩
     ·have R3:Aside (SortedIn (Y.lx (ltOf cf) lab) mid b d2):=(by obtain⟨k1,k2,k3⟩:=HH.out.keep P2.out g3;exact Y.sorted_none k1 k2 hr g3)
      have fin:Aside (∃ d',SW enc w0 blk off d' w4∧PermIn a b d d'∧SortedIn (Y.lx (ltOf cf) lab) a b d'):=⟨d2,S4.out,Y.halves HP.out hb (by omega) (by omega) HH.out P2.out R2.out (permIn_refl _ _ _) R3.out⟩
      rcases Nat.lt_or_ge mid e with hr0|hr0
      ·have zr1:(mid:Int)<(e:Int):=by omega
       have zr2:¬ (e:Int)<(b:Int):=by omega
       go_wp2
       go_end0
       exact⟨rfl,fin.out⟩
      ·exfalso;omega
    ·have P2:Aside (PermIn a mid d1 d1):=permIn_refl d1 a mid
     have R2:Aside (SortedIn (Y.lx (ltOf cf) lab) a mid d1):=Y.sorted_none HH.out.l1 HH.out.l2 hl g1
     have hs2:d1.size=d.size:=hs1
     rcases Nat.lt_or_ge a i with hl0|hl0
     ·exfalso;omega
     ·have zl1:¬ (a:Int)<(i:Int):=by omega
      by_cases hr:mid<e∧e<b
      ·exfalso;omega
      ·have R3:Aside (SortedIn (Y.lx (ltOf cf) lab) mid b d1):=(by obtain⟨k1,k2,k3⟩:=HH.out.keep P2.out g3;exact Y.sorted_none k1 k2 hr g3)
       have fin:Aside (∃ d',SW enc w0 blk off d' w3∧PermIn a b d d'∧SortedIn (Y.lx (ltOf cf) lab) a b d'):=⟨d1,S3.out,Y.halves HP.out hb (by omega) (by omega) HH.out P2.out R2.out (permIn_refl _ _ _) R3.out⟩
       rcases Nat.lt_or_ge mid e with hr0|hr0
       ·have zr1:(mid:Int)<(e:Int):=by omega
        have zr2:¬ (e:Int)<(b:Int):=by omega
        go_wp2
        go_end0
        exact⟨rfl,fin.out⟩
       ·exfalso;omega
   ·have V3:Aside (Y.Via (Y.rot i m e) a b d d):=(Y.Via.refl a b d).congr fun x=>(by
     rcases Nat.lt_or_ge i m with h3|h3
     ·rw[show e=m by omega];exact (Y.rot_idr (by omega) x).symm
     ·rw[show i=m by omega];exact (Y.rot_idl x).symm)
    rcases Nat.lt_or_ge i m with hq0|hq0
    ·have zq1:(i:Int)<(m:Int):=by omega
     have zq2:¬ (m:Int)<(e:Int):=by omega
     obtain⟨g1,g2,g3,g4,g5,g6,hf⟩:=HF.out d V3.out
     have HH:Aside _:=hf
     have HP:Aside (PermIn a b d d):=V3.out.1
     clear hf HF
     by_cases hl:a<i∧i<mid
     ·exfalso;omega
     ·have P2:Aside (PermIn a mid d d):=permIn_refl d a mid
      have R2:Aside (SortedIn (Y.lx (ltOf cf) lab) a mid d):=Y.sorted_none HH.out.l1 HH.out.l2 hl g1
      rcases Nat.lt_or_ge a i with hl0|hl0
      ·have zl1:(a:Int)<(i:Int):=by omega
       have zl2:¬ (i:Int)<(mid:Int):=by omega
       by_cases hr:mid<e∧e<b
       ·obtain⟨hr1,hr2⟩:=hr
        have zr1:(mid:Int)<(e:Int):=by omega
        have zr2:(e:Int)<(b:Int):=by omega
        obtain⟨k1,k2,k3⟩:=HH.out.keep P2.out g3
        go_wp2_with fail
        clear zr1 zr2
        refine (IH.out mid e b d _ (by omega) (by omega) S1.out hr1 hr2 (by omega) (by omega) k1 k2 k3).mono ?_
        rintro _ w5 ⟨rfl,d3,s5,p3,r3⟩
        have S5:Aside _:=s5
        have P3:Aside _:=p3
        have R3:Aside _:=r3
        clear s5 p3 r3 k1 k2 k3
        go_wp2
        go_end0
        exact⟨rfl,d3,S5.out,Y.halves HP.out hb (by omega) (by omega) HH.out P2.out R2.out P3.out R3.out⟩
       ·have R3:Aside (SortedIn (Y.lx (ltOf cf) lab) mid b d):=(by obtain⟨k1,k2,k3⟩:=HH.out.keep P2.out g3;exact Y.sorted_none k1 k2 hr g3)
        have fin:Aside (∃ d',SW enc w0 blk off d' wr∧PermIn a b d d'∧SortedIn (Y.lx (ltOf cf) lab) a b d'):=⟨d,S1.out,Y.halves HP.out hb (by omega) (by omega) HH.out P2.out R2.out (permIn_refl _ _ _) R3.out⟩
        rcases Nat.lt_or_ge mid e with hr0|hr0
        ·exfalso;omega
        ·exfalso;omega
      ·exfalso;omega
    ·exfalso;omega
end Go.Proofs.YtnkpgmibhpmdhaaGreat

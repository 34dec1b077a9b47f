/- Contracts and plain facts, one behind the other: YI4d YI4 YI5 WF WG -/
import Derived.Test.YtnkpgmibhpmdhaaGreatBeAZ
namespace Go.Proofs.YtnkpgmibhpmdhaaGreat
open Go.Shelf Go.RowKit Go.Lib Go.Sort
set_option maxRecDepth 1000000
set_option linter.unusedVariables false
variable {P : Program} {α : Type} [Inhabited α]
set_option maxHeartbeats 16000000 in
theorem symI_low (LY:LayI P) (Fsw:P.funcs[244]?=some Tryz.f244) (Fro:P.funcs[243]?=some Tryz.f243) (Fsm:P.funcs[241]?=some Tryz.f241) (enc:α→Value) (cf:α→α→Int) (lab:α→Nat) (hL:SWO (Y.lx (ltOf cf) lab)) (g:Nat) (cb:Array Value) (blk off cap:Nat) (d0:Array α) (w0:World)
  (R:Row1 enc w0 blk off d0) (eg:∀ args w,(callFunc g args).run P w=.ok (.enter g args) w) (hcmp:CmpLays1 P g cb enc cf blk off d0.size w0) (a m b:Nat) (d:Array α) (w:World) (hs:d0.size=d.size) (S:SW enc w0 blk off d w) (ham:a<m) (hmb:m<b) (hb:b≤d.size) (hsz:d.size<4611686018427387904) (q1:SortedIn (Y.lx (ltOf cf) lab) a m d) (q2:SortedIn (Y.lx (ltOf cf) lab) m b d) (q3:Y.Cross (ltOf cf) lab a m b d) (hm1:a+2≤m) (hm2:m+2≤b) (mid:Nat) (hmid1:2*mid≤a+b) (hmid2:a+b≤2*mid+1) (hm:m≤mid) (N:Nat) (hN:b - a≤N+1) (ih:∀ (a m b:Nat) (d:Array α) (w:World),b - a≤N→d0.size=d.size→SW enc w0 blk off d w→a<m→m<b→b≤d.size→d.size<4611686018427387904→SortedIn (Y.lx (ltOf cf) lab) a m d→SortedIn (Y.lx (ltOf cf) lab) m b d→Y.Cross (ltOf cf) lab a m b d →
  Calls P 241 #[.slice (some ⟨blk,off,none⟩) d.size cap,.int .i64 a,.int .i64 m,.int .i64 b,.func (.func g) #[] cb] w fun e w'=>e=.returned (.tuple #[])∧∃ d',SW enc w0 blk off d' w'∧PermIn a b d d'∧SortedIn (Y.lx (ltOf cf) lab) a b d') :
  Calls P 241 #[.slice (some ⟨blk,off,none⟩) d.size cap,.int .i64 a,.int .i64 m,.int .i64 b,.func (.func g) #[] cb] w fun e w'=>e=.returned (.tuple #[])∧∃ d',SW enc w0 blk off d' w'∧PermIn a b d d'∧SortedIn (Y.lx (ltOf cf) lab) a b d':=by
 have mixed:=LY.mixed;have tUnit:=LY.tUnit;have aUnit:=LY.aUnit;have zUnit:=LY.zUnit;have vUnit:=LY.vUnit;have tInt:=LY.tInt;have aInt:=LY.aInt;have zInt:=LY.zInt;have vInt:=LY.vInt;have tBool:=LY.tBool;have aBool:=LY.aBool;have zBool:=LY.zBool;have vBool:=LY.vBool;have tUint:=LY.tUint;have aUint:=LY.aUint;have zUint:=LY.zUint;have vUint:=LY.vUint;have tSl:=LY.tSl;have aSl:=LY.aSl;have zSl:=LY.zSl;have vSl:=LY.vSl;have tFn:=LY.tFn;have aFn:=LY.aFn;have zFn:=LY.zFn;have vFn:=LY.vFn
 have uSl:=run_underlying LY.tSl
 have hcl0:=R.hO.cells
 simp only[Value.cells] at hcl0
 have hst:=R.hO.store P
 have HC:Aside _:=hcmp
 have HL:Aside (SWO (Y.lx (ltOf cf) lab)):=hL
 have S0:Aside (SW enc w0 blk off d w):=S
 have HA:Aside (SortedIn (Y.lx (ltOf cf) lab) a m d):=q1
 have HB:Aside (SortedIn (Y.lx (ltOf cf) lab) m b d):=q2
 have HX:Aside (Y.Cross (ltOf cf) lab a m b d):=q3
 clear hcmp hL S q1 q2 q3
 have IH:Aside _:=ih
 clear ih
 have ero:∀ args w,(callFunc 243 args).run P w=.ok (.enter 243 args) w:=enters_of Fro (by kernel_rfl) rfl
 have esm:∀ args w,(callFunc 241 args).run P w=.ok (.enter 241 args) w:=enters_of Fsm (by kernel_rfl) rfl
 have z1:((m:Int) - (a:Int)==1)=false:=beq_eq_false_iff_ne.2 (by omega)
 have rma:IntKind.i64.wrap ((m:Int) - (a:Int))=(m:Int) - (a:Int):=by rw[IntKind.wrap_i64];omega
 have z2:((b:Int) - (m:Int)==1)=false:=beq_eq_false_iff_ne.2 (by omega)
 have rbm:IntKind.i64.wrap ((b:Int) - (m:Int))=(b:Int) - (m:Int):=by rw[IntKind.wrap_i64];omega
 have hmid:Hid (mid=(a+b) / 2):=(by omega:mid=(a+b) / 2)
 have zmid:((a:Int)+(b:Int)) / 2=(mid:Int):=by omega
 have rab:IntKind.i64.wrap ((a:Int)+(b:Int))=(a:Int)+(b:Int):=by rw[IntKind.wrap_i64];omega
 obtain⟨n,hn1,hn2⟩:∃ n,n≤mid+m∧mid+m≤n:=⟨mid+m,by omega,by omega⟩
 have zn:(mid:Int)+(m:Int)=(n:Int):=by omega
 have rn:IntKind.i64.wrap (n:Int)=(n:Int):=by rw[IntKind.wrap_i64];omega
 obtain⟨p,hp⟩:∃ p,p+1=n:=⟨n - 1,by omega⟩
 have zp:(n:Int) - 1=(p:Int):=by omega
 have rp:IntKind.i64.wrap (p:Int)=(p:Int):=by rw[IntKind.wrap_i64];omega
 have hgt:¬ (mid:Int)<(m:Int):=by omega
 go_enter Fsm,Tryz.ntmps241
 go_wp2
 clear z1 z2 rma rbm zmid rab zn rn zp rp
 go_loopg [20,21] (m - a) (fun kx sA sB wr=>∃ (i j:Nat),sA=.int .i64 i∧sB=.int .i64 j∧a≤i∧i≤j∧j≤m∧j - i≤kx∧Aside (SW enc w0 blk off d wr)∧Aside (∀ x,a≤x→x<i→(ltOf cf d[p - x]! d[x]!)=false)∧Aside (∀ x,j≤x→x<m→(ltOf cf d[p - x]! d[x]!)=true))
 case atStart=>exact⟨a,m,rfl,rfl,Nat.le_refl _,by omega,Nat.le_refl _,Nat.le_refl _,S0,fun x h1 h2=>by omega,fun x h1 h2=>by omega⟩
 case round =>
  clear S0
  obtain⟨i,j,rfl,rfl,hli,hij,hjh,hkx,S1,A1,A2⟩:=hrel
  by_cases hlt:(i:Int)<(j:Int)
  ·obtain⟨h,hh1,hh2⟩:∃ h,2*h≤i+j∧i+j≤2*h+1:=⟨(i+j) / 2,by omega,by omega⟩
   have zh:((i:Int)+(j:Int)) / 2=(h:Int):=by omega
   have rij:IntKind.i64.wrap ((i:Int)+(j:Int))=(i:Int)+(j:Int):=by rw[IntKind.wrap_i64];omega
   have hih:i≤h:=by omega
   have hhj:h<j:=by omega
   obtain⟨q,hq⟩:∃ q,q+h=p:=⟨p - h,by omega⟩
   have zq:(p:Int) - (h:Int)=(q:Int):=by omega
   have rq:IntKind.i64.wrap (q:Int)=(q:Int):=by rw[IntKind.wrap_i64];omega
   cases hlv:ltOf cf d[q]! d[h]! with
   | true =>
    obtain⟨iN9,hiN9⟩:∃ zz,zz=q:=⟨_,rfl⟩
    obtain⟨jN9,hjN9⟩:∃ zz,zz=h:=⟨_,rfl⟩
    have ea9:((q:Int)).toNat=iN9:=by omega
    have pa9:(0:Int)≤(q:Int):=by omega
    have ba9:(q:Int)<(d.size:Int):=by omega
    have ra9:IntKind.i64.wrap ((q:Int))=(q:Int):=by rw[IntKind.wrap_i64];omega
    have ec9:((h:Int)).toNat=jN9:=by omega
    have pc9:(0:Int)≤(h:Int):=by omega
    have bc9:(h:Int)<(d.size:Int):=by omega
    have rc9:IntKind.i64.wrap ((h:Int))=(h:Int):=by rw[IntKind.wrap_i64];omega
    obtain⟨x9,hx9⟩:∃ x,x=d[q]! := ⟨_,rfl⟩
    obtain⟨y9,hy9⟩:∃ x,x=d[h]! := ⟨_,rfl⟩
    have l9a:=S1.out.cl R (by omega) (q) (by omega)
    have l9b:=S1.out.cl R (by omega) (h) (by omega)
    rw[← hx9,← hiN9] at l9a
    rw[← hy9,← hjN9] at l9b
    have hc9:=S1.out.cmp HC.out (by omega) x9 y9
    have hv9:cf x9 y9<0:=by rw[hx9,hy9];exact of_decide_eq_true hlv
    have hd9:decide (cf x9 y9<0)=true:=decide_eq_true hv9
    clear hx9 hy9 hiN9 hjN9
    go_wp2_with fail
    go_quiet_grown (first|(go_at_fn g;refine Calls.grown_of (hc9 _ _)))
    have S2:Aside (SW enc w0 blk off d (grow (wr.drewN nq) osq)):=S1.out.grown nq osq
    clear l9a l9b hc9 S1
    generalize grow (wr.drewN nq) osq=w2 at S2 ⊢
    clear nq osq
    clear ea9 ec9
    go_wp2
    go_roundg (h - i)
    case measure=>omega
    case rel=>exact⟨i,h,rfl,by first|rfl|go_num|(congr 1;omega),hli,hih,by omega,Nat.le_refl _,S2,A1.out,fun x h1 h2=>(by
     rcases Nat.lt_or_ge x j with h3|h3
     ·exact Y.mono3 HL.out HA.out HB.out HX.out (p:=p) (x:=h) (y:=x) (by omega) h1 (by omega) (by omega) (by omega) (by rw[show p - h=q by omega];exact hlv)
     ·exact A2.out x h3 h2)⟩
   | false =>
    obtain⟨iN10,hiN10⟩:∃ zz,zz=q:=⟨_,rfl⟩
    obtain⟨jN10,hjN10⟩:∃ zz,zz=h:=⟨_,rfl⟩
    have ea10:((q:Int)).toNat=iN10:=by omega
    have pa10:(0:Int)≤(q:Int):=by omega
    have ba10:(q:Int)<(d.size:Int):=by omega
    have ra10:IntKind.i64.wrap ((q:Int))=(q:Int):=by rw[IntKind.wrap_i64];omega
    have ec10:((h:Int)).toNat=jN10:=by omega
    have pc10:(0:Int)≤(h:Int):=by omega
    have bc10:(h:Int)<(d.size:Int):=by omega
    have rc10:IntKind.i64.wrap ((h:Int))=(h:Int):=by rw[IntKind.wrap_i64];omega
    obtain⟨x10,hx10⟩:∃ x,x=d[q]! := ⟨_,rfl⟩
    obtain⟨y10,hy10⟩:∃ x,x=d[h]! := ⟨_,rfl⟩
    have l10a:=S1.out.cl R (by omega) (q) (by omega)
    have l10b:=S1.out.cl R (by omega) (h) (by omega)
    rw[← hx10,← hiN10] at l10a
    rw[← hy10,← hjN10] at l10b
    have hc10:=S1.out.cmp HC.out (by omega) x10 y10
    have hv10:¬ cf x10 y10<0:=by rw[hx10,hy10];exact of_decide_eq_false hlv
    have hd10:decide (cf x10 y10<0)=false:=decide_eq_false hv10
    clear hx10 hy10 hiN10 hjN10
    go_wp2_with fail
    go_quiet_grown (first|(go_at_fn g;refine Calls.grown_of (hc10 _ _)))
    have S2:Aside (SW enc w0 blk off d (grow (wr.drewN nq) osq)):=S1.out.grown nq osq
    clear l10a l10b hc10 S1
    generalize grow (wr.drewN nq) osq=w2 at S2 ⊢
    clear nq osq
    clear ea10 ec10
    go_wp2
    go_roundg (j - (h+1))
    case measure=>omega
    case rel=>exact⟨h+1,j,by first|rfl|go_num|(congr 1;omega),rfl,by omega,by omega,hjh,Nat.le_refl _,S2,fun x h1 h2=>(by
     rcases Nat.lt_or_ge x i with h3|h3
     ·exact A1.out x h1 h3
     ·cases hz:ltOf cf d[p - x]! d[x]! with
      | false=>rfl
      | true=>rw[show q=p - h by omega,Y.mono3 HL.out HA.out HB.out HX.out (p:=p) (x:=x) (y:=h) (by omega) (by omega) (by omega) (by omega) (by omega) hz] at hlv;cases hlv),A2.out⟩
  ·obtain rfl:i=j:=by omega
   have FD:Aside (Y.Found (fun x=>(ltOf cf d[p - x]! d[x]!)) a m i):=⟨hli,hjh,A1.out,A2.out⟩
   clear A1 A2
   obtain⟨e,he⟩:∃ e,e+i=n:=⟨n - i,by omega⟩
   have ze:(n:Int) - (i:Int)=(e:Int):=by omega
   have re:IntKind.i64.wrap (e:Int)=(e:Int):=by rw[IntKind.wrap_i64];omega
   have HF:Aside _:=fun (d1:Array α) (hv:Y.Via (Y.rot i m e) a b d d1)=>Y.half_of HL.out HA.out HB.out HX.out ham hmb hb hmid.out (show e+i=mid+m by omega) (show Y.Found (fun c=>ltOf cf d[mid+m - 1 - c]! d[c]!) (if m>mid then mid+m - b else a) (if m>mid then mid else m) i by rw[if_neg (by omega),if_neg (by omega)];have h0:=FD.out;rw[show p=mid+m - 1 by omega] at h0;exact h0) hv
   clear FD
   by_cases hrot:i<m∧m<e
   ·obtain⟨hr1,hr2⟩:=hrot
    have zq1:(i:Int)<(m:Int):=by omega
    have zq2:(m:Int)<(e:Int):=by omega
    go_wp2_with fail
    clear ze re zq1 zq2
    refine (rotateI LY Fsw Fro enc g cb blk off cap i m e d0 d w0 _ R (by omega) S1.out hr1 hr2 (by omega) (by omega)).mono ?_
    rintro _ w3 ⟨rfl,d1,s3,v3⟩
    have S3:Aside _:=s3
    have V3:Aside (Y.Via (Y.rot i m e) a b d d1):=v3.mono (by omega) (by omega) hb
    clear s3 v3 S1
    obtain⟨g1,g2,g3,g4,g5,g6,hf⟩:=HF.out d1 V3.out
    have HH:Aside _:=hf
    have HP:Aside (PermIn a b d d1):=V3.out.1
    have hs1:d1.size=d.size:=HP.out.1
    clear hf HF
    by_cases hl:a<i∧i<mid
    ·obtain⟨hl1,hl2⟩:=hl
     have zl1:(a:Int)<(i:Int):=by omega
     have zl2:(i:Int)<(mid:Int):=by omega
     go_wp2_with fail
     clear zl1 zl2
     rw[← hs1]
     refine (IH.out a i mid d1 _ (by omega) (by omega) S3.out hl1 hl2 (by omega) (by omega) HH.out.l1 HH.out.l2 HH.out.lc).mono ?_
     rintro _ w4 ⟨rfl,d2,s4,p2,r2⟩
     have S4:Aside _:=s4
     have P2:Aside _:=p2
     have R2:Aside _:=r2
     have hs2:d2.size=d.size:=p2.1.trans hs1
     rw[hs1]
     clear s4 p2 r2 S3
     by_cases hr:mid<e∧e<b
     ·obtain⟨hr1,hr2⟩:=hr
      have zr1:(mid:Int)<(e:Int):=by omega
      have zr2:(e:Int)<(b:Int):=by omega
      obtain⟨k1,k2,k3⟩:=HH.out.keep P2.out g3
      go_wp2_with fail
      clear zr1 zr2
      rw[← hs2]
      refine (IH.out mid e b d2 _ (by omega) (by omega) S4.out hr1 hr2 (by omega) (by omega) k1 k2 k3).mono ?_
      rintro _ w5 ⟨rfl,d3,s5,p3,r3⟩
      have S5:Aside _:=s5
      have P3:Aside _:=p3
      have R3:Aside _:=r3
      clear s5 p3 r3 k1 k2 k3
      rw[hs2]
      go_wp2
      go_end0
      exact⟨rfl,d3,S5.out,Y.halves HP.out hb (by omega) (by omega) HH.out P2.out R2.out P3.out R3.out⟩
     ·have R3:Aside (SortedIn (Y.lx (ltOf cf) lab) mid b d2):=(by obtain⟨k1,k2,k3⟩:=HH.out.keep P2.out g3;exact Y.sorted_none k1 k2 hr g3)
      have fin:Aside (∃ d',SW enc w0 blk off d' w4∧PermIn a b d d'∧SortedIn (Y.lx (ltOf cf) lab) a b d'):=⟨d2,S4.out,Y.halves HP.out hb (by omega) (by omega) HH.out P2.out R2.out (permIn_refl _ _ _) R3.out⟩
      rcases Nat.lt_or_ge mid e with hr0|hr0
      ·exfalso;omega
      ·exfalso;omega
    ·have P2:Aside (PermIn a mid d1 d1):=permIn_refl d1 a mid
     have R2:Aside (SortedIn (Y.lx (ltOf cf) lab) a mid d1):=Y.sorted_none HH.out.l1 HH.out.l2 hl g1
     have hs2:d1.size=d.size:=hs1
     rcases Nat.lt_or_ge a i with hl0|hl0
     ·exfalso;omega
     ·have zl1:¬ (a:Int)<(i:Int):=by omega
      by_cases hr:mid<e∧e<b
      ·obtain⟨hr1,hr2⟩:=hr
       have zr1:(mid:Int)<(e:Int):=by omega
       have zr2:(e:Int)<(b:Int):=by omega
       obtain⟨k1,k2,k3⟩:=HH.out.keep P2.out g3
       go_wp2_with fail
       clear zr1 zr2
       rw[← hs2]
       refine (IH.out mid e b d1 _ (by omega) (by omega) S3.out hr1 hr2 (by omega) (by omega) k1 k2 k3).mono ?_
       rintro _ w5 ⟨rfl,d3,s5,p3,r3⟩
       have S5:Aside _:=s5
       have P3:Aside _:=p3
       have R3:Aside _:=r3
       clear s5 p3 r3 k1 k2 k3
       rw[hs2]
       go_wp2
       go_end0
       exact⟨rfl,d3,S5.out,Y.halves HP.out hb (by omega) (by omega) HH.out P2.out R2.out P3.out R3.out⟩
      ·have R3:Aside (SortedIn (Y.lx (ltOf cf) lab) mid b d1):=(by obtain⟨k1,k2,k3⟩:=HH.out.keep P2.out g3;exact Y.sorted_none k1 k2 hr g3)
       have fin:Aside (∃ d',SW enc w0 blk off d' w3∧PermIn a b d d'∧SortedIn (Y.lx (ltOf cf) lab) a b d'):=⟨d1,S3.out,Y.halves HP.out hb (by omega) (by omega) HH.out P2.out R2.out (permIn_refl _ _ _) R3.out⟩
       rcases Nat.lt_or_ge mid e with hr0|hr0
       ·have zr1:(mid:Int)<(e:Int):=by omega
        have zr2:¬ (e:Int)<(b:Int):=by omega
        go_wp2
        go_end0
        exact⟨rfl,fin.out⟩
       ·exfalso;omega
   ·have V3:Aside (Y.Via (Y.rot i m e) a b d d):=(Y.Via.refl a b d).congr fun x=>(by
     rcases Nat.lt_or_ge i m with h3|h3
     ·rw[show e=m by omega];exact (Y.rot_idr (by omega) x).symm
     ·rw[show i=m by omega];exact (Y.rot_idl x).symm)
    rcases Nat.lt_or_ge i m with hq0|hq0
    ·exfalso;omega
    ·have zq1:¬ (i:Int)<(m:Int):=by omega
     obtain⟨g1,g2,g3,g4,g5,g6,hf⟩:=HF.out d V3.out
     have HH:Aside _:=hf
     have HP:Aside (PermIn a b d d):=V3.out.1
     clear hf HF
     by_cases hl:a<i∧i<mid
     ·obtain⟨hl1,hl2⟩:=hl
      have zl1:(a:Int)<(i:Int):=by omega
      have zl2:(i:Int)<(mid:Int):=by omega
      go_wp2_with fail
      clear zl1 zl2
      refine (IH.out a i mid d _ (by omega) (by omega) S1.out hl1 hl2 (by omega) (by omega) HH.out.l1 HH.out.l2 HH.out.lc).mono ?_
      rintro _ w4 ⟨rfl,d2,s4,p2,r2⟩
      have S4:Aside _:=s4
      have P2:Aside _:=p2
      have R2:Aside _:=r2
      have hs2:d2.size=d.size:=p2.1
      clear s4 p2 r2 S1
      by_cases hr:mid<e∧e<b
      ·exfalso;omega
      ·have R3:Aside (SortedIn (Y.lx (ltOf cf) lab) mid b d2):=(by obtain⟨k1,k2,k3⟩:=HH.out.keep P2.out g3;exact Y.sorted_none k1 k2 hr g3)
       have fin:Aside (∃ d',SW enc w0 blk off d' w4∧PermIn a b d d'∧SortedIn (Y.lx (ltOf cf) lab) a b d'):=⟨d2,S4.out,Y.halves HP.out hb (by omega) (by omega) HH.out P2.out R2.out (permIn_refl _ _ _) R3.out⟩
       rcases Nat.lt_or_ge mid e with hr0|hr0
       ·exfalso;omega
       ·have zr1:¬ (mid:Int)<(e:Int):=by omega
        go_wp2
        go_end0
        exact⟨rfl,fin.out⟩
     ·have P2:Aside (PermIn a mid d d):=permIn_refl d a mid
      have R2:Aside (SortedIn (Y.lx (ltOf cf) lab) a mid d):=Y.sorted_none HH.out.l1 HH.out.l2 hl g1
      rcases Nat.lt_or_ge a i with hl0|hl0
      ·have zl1:(a:Int)<(i:Int):=by omega
       have zl2:¬ (i:Int)<(mid:Int):=by omega
       by_cases hr:mid<e∧e<b
       ·exfalso;omega
       ·have R3:Aside (SortedIn (Y.lx (ltOf cf) lab) mid b d):=(by obtain⟨k1,k2,k3⟩:=HH.out.keep P2.out g3;exact Y.sorted_none k1 k2 hr g3)
        have fin:Aside (∃ d',SW enc w0 blk off d' wr∧PermIn a b d d'∧SortedIn (Y.lx (ltOf cf) lab) a b d'):=⟨d,S1.out,Y.halves HP.out hb (by omega) (by omega) HH.out P2.out R2.out (permIn_refl _ _ _) R3.out⟩
        rcases Nat.lt_or_ge mid e with hr0|hr0
        ·exfalso;omega
        ·have zr1:¬ (mid:Int)<(e:Int):=by omega
         go_wp2
         go_end0
         exact⟨rfl,fin.out⟩
      ·exfalso;omega
end Go.Proofs.YtnkpgmibhpmdhaaGreat
namespace Go.Proofs.YtnkpgmibhpmdhaaGreat
open Go.Shelf Go.RowKit Go.Lib Go.Sort
set_option maxRecDepth 1000000
set_option linter.unusedVariables false
variable {P : Program} {α : Type} [Inhabited α]
theorem symI (LY:LayI P) (Fsw:P.funcs[244]?=some Tryz.f244) (Fro:P.funcs[243]?=some Tryz.f243) (Fsm:P.funcs[241]?=some Tryz.f241) (enc:α→Value) (cf:α→α→Int) (lab:α→Nat) (hL:SWO (Y.lx (ltOf cf) lab)) (g:Nat) (cb:Array Value) (blk off cap:Nat) (d0:Array α) (w0:World)
  (R:Row1 enc w0 blk off d0) (eg:∀ args w,(callFunc g args).run P w=.ok (.enter g args) w) (hcmp:CmpLays1 P g cb enc cf blk off d0.size w0) :
  ∀ (N a m b:Nat) (d:Array α) (w:World),b - a≤N→d0.size=d.size→SW enc w0 blk off d w→a<m→m<b→b≤d.size→d.size<4611686018427387904→SortedIn (Y.lx (ltOf cf) lab) a m d→SortedIn (Y.lx (ltOf cf) lab) m b d→Y.Cross (ltOf cf) lab a m b d →
  Calls P 241 #[.slice (some ⟨blk,off,none⟩) d.size cap,.int .i64 a,.int .i64 m,.int .i64 b,.func (.func g) #[] cb] w fun e w'=>e=.returned (.tuple #[])∧∃ d',SW enc w0 blk off d' w'∧PermIn a b d d'∧SortedIn (Y.lx (ltOf cf) lab) a b d':=by
 intro N
 induction N with
 | zero=>intro a m b d w h1 h2 h3 h4 h5;omega
 | succ N ih =>
  intro a m b d w hN hs S ham hmb hb hsz q1 q2 q3
  by_cases hm1:m≤a+1
  ·exact symI_one LY Fsm enc cf lab hL g cb blk off cap d0 w0 R eg hcmp a m b d w hs S ham hmb hb hsz q1 q2 q3 hm1
  ·by_cases hm2:b≤m+1
   ·exact symI_last LY Fsm enc cf lab hL g cb blk off cap d0 w0 R eg hcmp a m b d w hs S ham hmb hb hsz q1 q2 q3 (by omega) hm2
   ·by_cases hm3:(a+b) / 2<m
    ·exact symI_high LY Fsw Fro Fsm enc cf lab hL g cb blk off cap d0 w0 R eg hcmp a m b d w hs S ham hmb hb hsz q1 q2 q3 (by omega) (by omega) ((a+b) / 2) (by omega) (by omega) hm3 N hN ih
    ·exact symI_low LY Fsw Fro Fsm enc cf lab hL g cb blk off cap d0 w0 R eg hcmp a m b d w hs S ham hmb hb hsz q1 q2 q3 (by omega) (by omega) ((a+b) / 2) (by omega) (by omega) (by omega) N hN ih
end Go.Proofs.YtnkpgmibhpmdhaaGreat
namespace Go.Proofs.YtnkpgmibhpmdhaaGreat
open Go.Shelf Go.RowKit Go.Lib Go.Sort
set_option maxRecDepth 1000000
set_option linter.unusedVariables false
variable {P : Program} {α : Type} [Inhabited α]
set_option maxHeartbeats 16000000 in
theorem stableI (LY:LayI P) (Fsw:P.funcs[244]?=some Tryz.f244) (Fro:P.funcs[243]?=some Tryz.f243) (Fin:P.funcs[240]?=some Tryz.f240) (Fsm:P.funcs[241]?=some Tryz.f241) (Fst:P.funcs[238]?=some Tryz.f238) (enc:α→Value) (cf:α→α→Int) (lab:α→Nat) (hL:SWO (Y.lx (ltOf cf) lab)) (g:Nat) (cb:Array Value) (blk off cap:Nat) (d:Array α) (w:World)
  (R:Row1 enc w blk off d) (eg:∀ args w,(callFunc g args).run P w=.ok (.enter g args) w) (hcmp:CmpLays1 P g cb enc cf blk off d.size w) (n:Nat) (hn:n=d.size) (hsz:n<1152921504606846976) (hlab:∀ i,i<n→lab d[i]! = i) :
  Calls P 238 #[.slice (some ⟨blk,off,none⟩) n cap,.int .i64 n,.func (.func g) #[] cb] w fun e w'=>e=.returned (.tuple #[])∧∃ d',SW enc w blk off d' w'∧PermIn 0 n d d'∧SortedIn (Y.lx (ltOf cf) lab) 0 n d':=by
 have mixed:=LY.mixed;have tUnit:=LY.tUnit;have aUnit:=LY.aUnit;have zUnit:=LY.zUnit;have vUnit:=LY.vUnit;have tInt:=LY.tInt;have aInt:=LY.aInt;have zInt:=LY.zInt;have vInt:=LY.vInt;have tBool:=LY.tBool;have aBool:=LY.aBool;have zBool:=LY.zBool;have vBool:=LY.vBool;have tUint:=LY.tUint;have aUint:=LY.aUint;have zUint:=LY.zUint;have vUint:=LY.vUint;have tSl:=LY.tSl;have aSl:=LY.aSl;have zSl:=LY.zSl;have vSl:=LY.vSl;have tFn:=LY.tFn;have aFn:=LY.aFn;have zFn:=LY.zFn;have vFn:=LY.vFn
 have uSl:=run_underlying LY.tSl
 have HN:Hid (n=d.size):=hn
 have HB:Aside (∀ i,i<n→lab d[i]! = i):=hlab
 have HC:Aside _:=hcmp
 have HR:Aside _:=R
 have ein:∀ args w,(callFunc 240 args).run P w=.ok (.enter 240 args) w:=enters_of Fin (by kernel_rfl) rfl
 have esm:∀ args w,(callFunc 241 args).run P w=.ok (.enter 241 args) w:=enters_of Fsm (by kernel_rfl) rfl
 have S0:Aside (SW enc w blk off d w):=SW.start R.hH
 have P0:Aside (PermIn 0 n d d):=permIn_refl d 0 n
 have B0:Aside (Y.Bl (ltOf cf) lab 20 0 0 d):=Y.Bl.none 20 0 d
 have INS:Aside (∀ (a b:Nat) (dk:Array α) (wk:World),dk.size=n→SW enc w blk off dk wk→a≤b→b≤n→(∀ i,a≤i→i<n→dk[i]! = d[i]!)→Calls P 240 #[.slice (some ⟨blk,off,none⟩) n cap,.int .i64 a,.int .i64 b,.func (.func g) #[] cb] wk fun e w'=>e=.returned (.tuple #[])∧∃ d',SW enc w blk off d' w'∧PermIn a b dk d'∧SortedIn (Y.lx (ltOf cf) lab) a b d'):=fun a b dk wk h1 h2 h3 h4 h5=>by
  have:=insI LY Fin enc cf lab hL g cb blk off cap d w R eg hcmp a b dk wk (by omega) h2 h3 (by omega) (by omega) (fun x y k1 k2 k3=>by rw[h5 x k1 (by omega),h5 y (by omega) (by omega),hlab x (by omega),hlab y (by omega)];exact k2)
  rw[h1] at this
  exact this
 have SYM:Aside (∀ (a m b:Nat) (dk:Array α) (wk:World),dk.size=n→SW enc w blk off dk wk→a<m→m<b→b≤n→SortedIn (Y.lx (ltOf cf) lab) a m dk→SortedIn (Y.lx (ltOf cf) lab) m b dk→Y.Cross (ltOf cf) lab a m b dk→Calls P 241 #[.slice (some ⟨blk,off,none⟩) n cap,.int .i64 a,.int .i64 m,.int .i64 b,.func (.func g) #[] cb] wk fun e w'=>e=.returned (.tuple #[])∧∃ d',SW enc w blk off d' w'∧PermIn a b dk d'∧SortedIn (Y.lx (ltOf cf) lab) a b d'):=fun a m b dk wk h1 h2 h3 h4 h5 h6 h7 h8=>by
  have:=symI LY Fsw Fro Fsm enc cf lab hL g cb blk off cap d w R eg hcmp (b - a) a m b dk wk (Nat.le_refl _) (by omega) h2 h3 h4 (by omega) (by omega) h6 h7 h8
  rw[h1] at this
  exact this
 clear hcmp hL hlab hn R
 go_enter Fst,Tryz.ntmps238
 go_wp2
 go_loopg [7,8] (n+20) (fun kx s7 s8 wr=>∃ (q A B:Nat) (dk:Array α),s7=.int .i64 A∧s8=.int .i64 B∧Hid (A=q*20)∧A+20≤B∧B≤A+20∧A≤n∧n+20 - A≤kx∧dk.size=n∧Aside (SW enc w blk off dk wr)∧Aside (PermIn 0 n d dk)∧Aside (Y.Bl (ltOf cf) lab 20 0 A dk)∧Aside (∀ i,A≤i→i<n→dk[i]! = d[i]!))
 case atStart=>exact⟨0,0,20,d,rfl,rfl,rfl,by omega,by omega,by omega,by omega,HN.out.symm,S0,P0,B0,fun _ _ _=>rfl⟩
 case round =>
  clear S0 P0 B0
  obtain⟨q,A,B,dk,rfl,rfl,hA,hB1,hB2,hAn,hkx,hds,S1,P1,B1,E1⟩:=hrel
  by_cases hle:(B:Int)≤(n:Int)
  ·obtain⟨B2,hC1,hC2⟩:∃ B2,B+20≤B2∧B2≤B+20:=⟨B+20,by omega,by omega⟩
   have zB:(B:Int)+20=(B2:Int):=by omega
   have rB:IntKind.i64.wrap (B2:Int)=(B2:Int):=by rw[IntKind.wrap_i64];omega
   go_wp2_with fail
   refine (INS.out A B dk _ hds S1.out (by omega) (by omega) E1.out).mono ?_
   rintro _ w2 ⟨rfl,d2,s2,p2,r2⟩
   have S2:Aside _:=s2
   have hd2:d2.size=n:=p2.1.trans hds
   have P2:Aside (PermIn 0 n d d2):=permIn_trans d dk d2 0 n P1.out (permIn_mono dk d2 A B 0 n (by omega) (by omega) (by omega) p2)
   have B2':Aside (Y.Bl (ltOf cf) lab 20 0 B d2):=(by
     have h0:=B1.out
     have h1:=h0.keep p2 (Or.inl (Nat.le_refl _))
     have e1:=hA.out
     subst e1
     have h2:=Y.bl_block (lt:=ltOf cf) (lab:=lab) (s:=20) (q:=q) (b:=B) (by omega) (by omega) p2 r2 fun i k1 k2=>by rw[E1.out i k1 (by omega),HB.out i (by omega)];exact Y.div_in k1 (by omega)
     exact h1.join h2 (by omega))
   have E2:Aside (∀ i,B≤i→i<n→d2[i]! = d[i]!):=fun i k1 k2=>by rw[p2.2.1 i (Or.inr k1)];exact E1.out i (by omega) k2
   clear s2 p2 r2 S1 P1 B1 E1
   go_wp2
   go_roundg (n+20 - B)
   case measure=>omega
   case rel=>exact⟨q+1,B,B2,d2,rfl,rfl,(by have:=hA.out;show B=(q+1)*20;omega),by omega,by omega,by omega,Nat.le_refl _,hd2,S2,P2,B2',E2⟩
  ·go_wp2_with fail
   refine (INS.out A n dk _ hds S1.out hAn (Nat.le_refl _) E1.out).mono ?_
   rintro _ w2 ⟨rfl,d2,s2,p2,r2⟩
   have S2:Aside _:=s2
   have hd2:d2.size=n:=p2.1.trans hds
   have P2:Aside (PermIn 0 n d d2):=permIn_trans d dk d2 0 n P1.out (permIn_mono dk d2 A n 0 n (by omega) (by omega) (by omega) p2)
   have B2:Aside (Y.Bl (ltOf cf) lab 20 0 n d2):=(by
     have h1:=B1.out.keep p2 (Or.inl (Nat.le_refl _))
     have e1:=hA.out
     subst e1
     have h2:=Y.bl_block (lt:=ltOf cf) (lab:=lab) (s:=20) (q:=q) (b:=n) (by omega) (by omega) p2 r2 fun i k1 k2=>by rw[E1.out i k1 k2,HB.out i k2];exact Y.div_in k1 (by omega)
     exact h1.join h2 (by omega))
   clear s2 p2 r2 S1 P1 B1 E1 hA
   go_wp2
   go_loopg [6] (n+20) (fun kx s6 wr=>∃ (s:Nat) (dk:Array α),s6=.int .i64 s∧20≤s∧s≤2*n+20∧n+20 - s≤kx∧dk.size=n∧Aside (SW enc w blk off dk wr)∧Aside (PermIn 0 n d dk)∧Aside (Y.Bl (ltOf cf) lab s 0 n dk))
   case atStart=>exact⟨20,d2,rfl,by omega,by omega,by omega,hd2,S2,P2,B2⟩
   case round =>
    clear S2 P2 B2 hd2
    obtain⟨s,dk,rfl,hs1,hs2,hkx,hds,S1,P1,B1⟩:=hrel
    by_cases hlt:(s:Int)<(n:Int)
    ·obtain⟨t,ht1,ht2⟩:∃ t,t≤2*s∧2*s≤t:=⟨2*s,by omega,by omega⟩
     have zt:(2:Int)*(s:Int)=(t:Int):=by omega
     have zt2:(s:Int)*2=(t:Int):=by omega
     have rt:IntKind.i64.wrap (t:Int)=(t:Int):=by rw[IntKind.wrap_i64];omega
     have B0:Aside (Y.Bl (ltOf cf) lab (2*s) 0 0 dk):=Y.Bl.none (2*s) 0 dk
     go_wp2
     go_loopg [7,8] (n+s) (fun kx s7 s8 wr=>∃ (q A B:Nat) (dj:Array α),s7=.int .i64 A∧s8=.int .i64 B∧Hid (A=q*(2*s))∧A+t≤B∧B≤A+t∧A≤n∧n+s - A≤kx∧dj.size=n∧Aside (SW enc w blk off dj wr)∧Aside (PermIn 0 n d dj)∧Aside (Y.Bl (ltOf cf) lab (2*s) 0 A dj)∧Aside (Y.Bl (ltOf cf) lab s A n dj))
     case atStart=>exact⟨0,0,t,dk,rfl,rfl,(show (0:Nat)=0*(2*s) by omega),by omega,by omega,by omega,by omega,hds,S1,P1,B0,B1⟩
     case round =>
      clear S1 P1 B0 B1
      obtain⟨q,A,B,dj,rfl,rfl,hA,hB1,hB2,hAn,hkx,hdj,S2,P2,L2,U2⟩:=hrel
      obtain⟨M,hM1,hM2⟩:∃ M,M≤A+s∧A+s≤M:=⟨A+s,by omega,by omega⟩
      have zM:(A:Int)+(s:Int)=(M:Int):=by omega
      have rM:IntKind.i64.wrap (M:Int)=(M:Int):=by rw[IntKind.wrap_i64];omega
      have MG:Aside (∀ b,M<b→b≤n→b≤B→∀ wk,SW enc w blk off dj wk→Calls P 241 #[.slice (some ⟨blk,off,none⟩) n cap,.int .i64 A,.int .i64 M,.int .i64 b,.func (.func g) #[] cb] wk fun e w'=>e=.returned (.tuple #[])∧∃ d',d'.size=n∧SW enc w blk off d' w'∧PermIn 0 n d d'∧Y.Bl (ltOf cf) lab (2*s) 0 b d'∧Y.Bl (ltOf cf) lab s b n d'):=fun b k1 k2 k3 wk sk=>by
       obtain rfl:M=A+s:=by omega
       have e1:=hA.out
       subst e1
       refine (SYM.out _ _ b dj wk hdj sk (by omega) k1 k2 (Y.bl_left U2.out (by omega)) (Y.bl_right U2.out (by omega) k2) (Y.bl_cross U2.out (by omega) (by omega) k2)).mono ?_
       rintro _ w' ⟨rfl,d3,s3,p3,r3⟩
       exact⟨rfl,d3,p3.1.trans hdj,s3,permIn_trans d dj d3 0 n P2.out (permIn_mono dj d3 _ b 0 n (by omega) k2 (by omega) p3),(L2.out.keep p3 (Or.inl (Nat.le_refl _))).join (Y.bl_merged U2.out (by omega) (by omega) k2 (by omega) p3 r3) (by omega),(U2.out.cut (by omega) (Nat.le_refl _)).keep p3 (Or.inr (Nat.le_refl _))⟩
      by_cases hle:(B:Int)≤(n:Int)
      ·obtain⟨B2,hC1,hC2⟩:∃ B2,B+t≤B2∧B2≤B+t:=⟨B+t,by omega,by omega⟩
       have zB:(B:Int)+(t:Int)=(B2:Int):=by omega
       have rB:IntKind.i64.wrap (B2:Int)=(B2:Int):=by rw[IntKind.wrap_i64];omega
       go_wp2_with fail
       refine (MG.out B (by omega) (by omega) (Nat.le_refl _) _ S2.out).mono ?_
       rintro _ w3 ⟨rfl,d3,hd3,s3,p3,l3,u3⟩
       have S3:Aside _:=s3
       have P3:Aside _:=p3
       have L3:Aside _:=l3
       have U3:Aside _:=u3
       clear s3 p3 l3 u3 S2 P2 L2 U2 MG
       go_wp2
       go_roundg (n+s - B)
       case measure=>omega
       case rel=>exact⟨q+1,B,B2,d3,rfl,rfl,(by have e1:=hA.out;show B=(q+1)*(2*s);rw[Nat.add_mul,Nat.one_mul,← e1];omega),by omega,by omega,by omega,Nat.le_refl _,hd3,S3,P3,L3,U3⟩
      ·by_cases hMn:(M:Int)<(n:Int)
       ·go_wp2_with fail
        refine (MG.out n (by omega) (Nat.le_refl _) (by omega) _ S2.out).mono ?_
        rintro _ w3 ⟨rfl,d3,hd3,s3,p3,l3,u3⟩
        have S3:Aside _:=s3
        have P3:Aside _:=p3
        have L3:Aside (Y.Bl (ltOf cf) lab t 0 n d3):=(by rw[show t=2*s by omega];exact l3)
        clear s3 p3 l3 u3 S2 P2 L2 U2 MG
        go_wp2
        go_roundg (n+20 - t)
        case measure=>omega
        case rel=>exact⟨t,d3,rfl,by omega,by omega,Nat.le_refl _,hd3,S3,P3,L3⟩
       ·have L3:Aside (Y.Bl (ltOf cf) lab t 0 n dj):=(by
         have e1:=hA.out
         rw[show t=2*s by omega]
         have h1:=L2.out
         have h2:=U2.out
         rw[e1] at h1 h2
         exact h1.join (Y.bl_lone h2 (by omega)) (by omega))
        go_wp2
        go_roundg (n+20 - t)
        case measure=>omega
        case rel=>exact⟨t,dj,rfl,by omega,by omega,Nat.le_refl _,hdj,S2,P2,L3⟩
    ·go_wp2
     go_end0
     exact⟨rfl,dk,S1.out,P1.out,Y.bl_all B1.out (by omega)⟩
set_option maxHeartbeats 4000000 in
theorem sortStableI (LY:LayI P) (Fsw:P.funcs[244]?=some Tryz.f244) (Fro:P.funcs[243]?=some Tryz.f243) (Fin:P.funcs[240]?=some Tryz.f240) (Fsm:P.funcs[241]?=some Tryz.f241) (Fst:P.funcs[238]?=some Tryz.f238) (Fss:P.funcs[229]?=some Tryz.f229) (enc:α→Value) (cf:α→α→Int) (lab:α→Nat) (hL:SWO (Y.lx (ltOf cf) lab)) (g:Nat) (cb:Array Value) (blk off cap:Nat) (d:Array α) (w:World)
  (R:Row1 enc w blk off d) (eg:∀ args w,(callFunc g args).run P w=.ok (.enter g args) w) (hcmp:CmpLays1 P g cb enc cf blk off d.size w) (n:Nat) (hn:n=d.size) (hsz:n<1152921504606846976) (hlab:∀ i,i<n→lab d[i]! = i) :
  Calls P 229 #[.slice (some ⟨blk,off,none⟩) n cap,.func (.func g) #[] cb] w fun e w'=>e=.returned (.tuple #[])∧∃ d',SW enc w blk off d' w'∧PermIn 0 n d d'∧SortedIn (Y.lx (ltOf cf) lab) 0 n d':=by
 have mixed:=LY.mixed;have tUnit:=LY.tUnit;have aUnit:=LY.aUnit;have zUnit:=LY.zUnit;have vUnit:=LY.vUnit;have tInt:=LY.tInt;have aInt:=LY.aInt;have zInt:=LY.zInt;have vInt:=LY.vInt;have tBool:=LY.tBool;have aBool:=LY.aBool;have zBool:=LY.zBool;have vBool:=LY.vBool;have tUint:=LY.tUint;have aUint:=LY.aUint;have zUint:=LY.zUint;have vUint:=LY.vUint;have tSl:=LY.tSl;have aSl:=LY.aSl;have zSl:=LY.zSl;have vSl:=LY.vSl;have tFn:=LY.tFn;have aFn:=LY.aFn;have zFn:=LY.zFn;have vFn:=LY.vFn
 have uSl:=run_underlying LY.tSl
 have est:∀ args w,(callFunc 238 args).run P w=.ok (.enter 238 args) w:=enters_of Fst (by kernel_rfl) rfl
 have HS:Aside _:=stableI LY Fsw Fro Fin Fsm Fst enc cf lab hL g cb blk off cap d w R eg hcmp n hn hsz hlab
 clear hcmp hL hlab hn R
 go_enter Fss,Tryz.ntmps229
 go_wp2_with fail
 refine Calls.mono HS.out ?_
 rintro _ w2 ⟨rfl,d2,s2,p2,r2⟩
 have X:Aside _:=s2
 have Z1:Aside _:=p2
 have Z2:Aside _:=r2
 clear s2 p2 r2 HS
 go_wp2
 go_end0
 exact⟨rfl,d2,X.out,Z1.out,Z2.out⟩
end Go.Proofs.YtnkpgmibhpmdhaaGreat
namespace Go.Proofs.YtnkpgmibhpmdhaaGreat
set_option linter.unusedVariables false
set_option maxRecDepth 10000
open Go.RowKit Go.Sort
theorem SlV.at {w:World} {ao:Option Addr} {len cap:Nat} {l:List Z.V} (h:SlV w ao len cap l) {j:Nat} (hj:j<len):∃ b off k i s,ao=some ⟨b,off,none⟩∧b<w.heap.size∧l[j]?=some ⟨k,i,s⟩ ∧
  w.cell? ⟨b,off+j*3,none⟩=some (.int .i64 k)∧w.cell? ⟨b,off+j*3+1,none⟩=some (.int .i64 i)∧w.cell? ⟨b,off+j*3+2,none⟩=some (.string s):=by
 obtain⟨h1,h2,h3,h4,h5⟩:=h
 rcases h5 with h5|⟨b,off,rfl,hlt,h5⟩
 ·omega
 ·obtain⟨⟨k,i,s⟩,hx⟩:∃ x,l[j]?=some x:=⟨l[j]'(by omega),List.getElem?_eq_getElem _⟩
  obtain⟨c1,c2,c3⟩:=h5 j _ hx
  exact⟨b,off,k,i,s,rfl,hlt,hx,c1,c2,c3⟩
def Z.plI (ws:List Z.V) (v:Z.V):Int:=match Z.pl ws v with|some j=>(j:Int)|none => -1
theorem plI_at {ws:List Z.V} {v x:Z.V} {j:Nat} (hx:ws[j]?=some x) (hv:Z.cv x v=0) (h:∀ y∈ws.take j,Z.cv y v≠0):Z.plI ws v=j:=by
 have hj:=(List.getElem?_eq_some_iff.1 hx).1
 have:Z.pl ws v=some j:=by
  unfold Z.pl
  rw[List.findIdx?_eq_some_iff_getElem]
  refine⟨hj,?_,fun i hi=>?_⟩
  ·rw[(List.getElem?_eq_some_iff.1 hx).2];exact decide_eq_true hv
  ·simp only[decide_eq_true_eq]
   exact h _ (List.mem_take_iff_getElem.2 ⟨i,by omega,rfl⟩)
 unfold Z.plI;rw[this]
set_option maxHeartbeats 1000000 in
theorem placesC_any (ao:Option Addr) (len cap bw:Nat) (ws:List Z.V) (i j:Nat) (x y:Z.V) (w:World) (h:SlV w ao len cap ws) (hb:w.cell? ⟨bw,0,none⟩=some (.slice ao len cap)) (hbl:bw<w.heap.size) (hi:ws[i]?=some x) (hj:ws[j]?=some y) (hl:len≤140737488355328) :
  Calls Tryz.prog 230 #[.int .i64 i,.int .i64 j,.pointer (some ⟨bw,0,none⟩)] w fun e w'=>e=.returned (.int .i64 (Z.cv x y))∧∃ q os,w'=grow (w.drewN q) os:=by
 have mixed:=Tryz.mixed
 have hil:i<len:=by rw[← h.1];exact (List.getElem?_eq_some_iff.1 hi).1
 have hjl:j<len:=by rw[← h.1];exact (List.getElem?_eq_some_iff.1 hj).1
 obtain⟨b,off,xk,xi,xs,rfl,hlt,hx,c1,c2,c3⟩:=h.at hil
 obtain⟨b',off',yk,yi,ys,e,_,hy,g1,g2,g3⟩:=h.at hjl
 obtain⟨rfl,rfl⟩:b=b'∧off=off':=by injection e with e;injection e with e1 e2 e3;exact⟨e1,e2⟩
 rw[hx] at hi
 rw[hy] at hj
 obtain rfl:=Option.some.inj hi
 obtain rfl:=Option.some.inj hj
 have d1:=cell_grown hlt c1
 have d2:=cell_grown hlt c2
 have d3:=cell_grown hlt c3
 have f1:=cell_grown hlt g1
 have f2:=cell_grown hlt g2
 have f3:=cell_grown hlt g3
 have hbx:=cell_grown (a:=⟨bw,0,none⟩) hbl hb
 obtain⟨c,hc⟩:∃ c,Z.cv ⟨xk,xi,xs⟩ ⟨yk,yi,ys⟩=c:=⟨_,rfl⟩
 have HC:Hid (∀ m os,Calls Tryz.prog 68 #[.agg #[.int .i64 xk,.int .i64 xi,.string xs],.agg #[.int .i64 yk,.int .i64 yi,.string ys]] (grow (w.drewN m) os) fun e w'=>e=.returned (.int .i64 c)∧∃ q os',w'=grow ((grow (w.drewN m) os).drewN q) os'):=by
  intro m os;rw[← hc]
  refine (vcompare_two xk xi xs yk yi ys _).mono ?_
  rintro e w' ⟨rfl,a,b,rfl⟩
  exact⟨rfl,0,_,two_grow _ _ _⟩
 rw[hc]
 clear hc h hx hy c1 c2 c3 g1 g2 g3 hb e hi hj
 go_enter Tryz.func230,Tryz.ntmps230
 go_wp2_with fail
 go_quiet_grown (first|(go_at_call 68;refine Calls.grown_of (HC.out _ _)))
 go_wp2
 go_ret
 exact⟨rfl,_,_,rfl⟩
end Go.Proofs.YtnkpgmibhpmdhaaGreat

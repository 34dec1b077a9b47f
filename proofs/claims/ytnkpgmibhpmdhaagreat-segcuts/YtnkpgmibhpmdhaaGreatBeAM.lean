/- Contracts and plain facts, one behind the other: YV4c YV4d YV4 -/
import Derived.Test.YtnkpgmibhpmdhaaGreatBeAL
namespace Go.Proofs.YtnkpgmibhpmdhaaGreat
open Go.Shelf Go.RowKit Go.Lib Go.Sort
set_option maxRecDepth 1000000
set_option linter.unusedVariables false
variable {P : Program} {α : Type} [Inhabited α]
set_option maxHeartbeats 16000000 in
theorem symV_high (LY:LayV P) (Fsw:P.funcs[242]?=some Tryz.f242) (Fro:P.funcs[239]?=some Tryz.f239) (Fsm:P.funcs[237]?=some Tryz.f237) (k:Nat) (aE:∀ w,(isAgg 25).run P w=.ok true w) (zE:∀ w,(Go.sizeOf 25).run P w=.ok k w) (enc:α→List Value) (cf:α→α→Int) (lab:α→Nat) (hL:SWO (Y.lx (ltOf cf) lab)) (g:Nat) (cb:Array Value) (blk off cap:Nat) (d0:Array α) (w0:World)
  (R:RowK enc k w0 blk off d0) (eg:∀ args w,(callFunc g args).run P w=.ok (.enter g args) w) (hcmp:CmpLays P g cb enc k cf blk off d0.size w0) (a m b:Nat) (d:Array α) (w:World) (hs:d0.size=d.size) (S:SWK enc k w0 blk off d w) (ham:a<m) (hmb:m<b) (hb:b≤d.size) (hsz:d.size<4611686018427387904) (q1:SortedIn (Y.lx (ltOf cf) lab) a m d) (q2:SortedIn (Y.lx (ltOf cf) lab) m b d) (q3:Y.Cross (ltOf cf) lab a m b d) (hm1:a+2≤m) (hm2:m+2≤b) (mid:Nat) (hmid1:2*mid≤a+b) (hmid2:a+b≤2*mid+1) (hm:mid<m) (N:Nat) (hN:b - a≤N+1) (ih:∀ (a m b:Nat) (d:Array α) (w:World),b - a≤N→d0.size=d.size→SWK enc k w0 blk off d w→a<m→m<b→b≤d.size→d.size<4611686018427387904→SortedIn (Y.lx (ltOf cf) lab) a m d→SortedIn (Y.lx (ltOf cf) lab) m b d→Y.Cross (ltOf cf) lab a m b d →
  Calls P 237 #[.slice (some ⟨blk,off,none⟩) d.size cap,.int .i64 a,.int .i64 m,.int .i64 b,.func (.func g) #[] cb] w fun e w'=>e=.returned (.tuple #[])∧∃ d',SWK enc k w0 blk off d' w'∧PermIn a b d d'∧SortedIn (Y.lx (ltOf cf) lab) a b d') :
  Calls P 237 #[.slice (some ⟨blk,off,none⟩) d.size cap,.int .i64 a,.int .i64 m,.int .i64 b,.func (.func g) #[] cb] w fun e w'=>e=.returned (.tuple #[])∧∃ d',SWK enc k w0 blk off d' w'∧PermIn a b d d'∧SortedIn (Y.lx (ltOf cf) lab) a b d':=by
 have mixed:=LY.mixed;have tUnit:=LY.tUnit;have aUnit:=LY.aUnit;have zUnit:=LY.zUnit;have vUnit:=LY.vUnit;have tInt:=LY.tInt;have aInt:=LY.aInt;have zInt:=LY.zInt;have vInt:=LY.vInt;have tBool:=LY.tBool;have aBool:=LY.aBool;have zBool:=LY.zBool;have vBool:=LY.vBool;have tUint:=LY.tUint;have aUint:=LY.aUint;have zUint:=LY.zUint;have vUint:=LY.vUint;have tSl:=LY.tSl;have aSl:=LY.aSl;have zSl:=LY.zSl;have vSl:=LY.vSl;have tFn:=LY.tFn;have aFn:=LY.aFn;have zFn:=LY.zFn;have vFn:=LY.vFn
 have uSl:=run_underlying LY.tSl
 have HC:Aside _:=hcmp
 have HL:Aside (SWO (Y.lx (ltOf cf) lab)):=hL
 have S0:Aside (SWK enc k w0 blk off d w):=S
 have HA:Aside (SortedIn (Y.lx (ltOf cf) lab) a m d):=q1
 have HB:Aside (SortedIn (Y.lx (ltOf cf) lab) m b d):=q2
 have HX:Aside (Y.Cross (ltOf cf) lab a m b d):=q3
 clear hcmp hL S q1 q2 q3
 have IH:Aside _:=ih
 clear ih
 have ero:∀ args w,(callFunc 239 args).run P w=.ok (.enter 239 args) w:=enters_of Fro (by kernel_rfl) rfl
 have esm:∀ args w,(callFunc 237 args).run P w=.ok (.enter 237 args) w:=enters_of Fsm (by kernel_rfl) rfl
 have z1:((m:Int) - (a:Int)==1)=false:=beq_eq_false_iff_ne.2 (by omega)
 have rma:IntKind.i64.wrap ((m:Int) - (a:Int))=(m:Int) - (a:Int):=by rw[IntKind.wrap_i64];omega
 have z2:((b:Int) - (m:Int)==1)=false:=beq_eq_false_iff_ne.2 (by omega)
 have rbm:IntKind.i64.wrap ((b:Int) - (m:Int))=(b:Int) - (m:Int):=by rw[IntKind.wrap_i64];omega
 have hmid:Hid (mid=(a+b) / 2):=(by omega:mid=(a+b) / 2)
 have zmid:((a:Int)+(b:Int)) / 2=(mid:Int):=by omega
 have rab:IntKind.i64.wrap ((a:Int)+(b:Int))=(a:Int)+(b:Int):=by rw[IntKind.wrap_i64];omega
 obtain⟨n,hn1,hn2⟩:∃ n,n≤mid+m∧mid+m≤n:=⟨mid+m,by omega,by omega⟩
 have zn:(mid:Int)+(m:Int)=(n:Int):=by omega
 have rn:IntKind.i64.wrap (n:Int)=(n:Int):=by rw[IntKind.wrap_i64];omega
 obtain⟨p,hp⟩:∃ p,p+1=n:=⟨n - 1,by omega⟩
 have zp:(n:Int) - 1=(p:Int):=by omega
 have rp:IntKind.i64.wrap (p:Int)=(p:Int):=by rw[IntKind.wrap_i64];omega
 have hgt:(mid:Int)<(m:Int):=by omega
 obtain⟨lo,hlo⟩:∃ lo,lo+b=n:=⟨n - b,by omega⟩
 have zlo:(n:Int) - (b:Int)=(lo:Int):=by omega
 have rlo:IntKind.i64.wrap (lo:Int)=(lo:Int):=by rw[IntKind.wrap_i64];omega
 go_enter Fsm,Tryz.ntmps237
 go_wp2
 clear z1 z2 rma rbm zmid rab zn rn zp rp zlo rlo
 go_loopg [20,21] (mid - lo) (fun kx sA sB wr=>∃ (i j:Nat),sA=.int .i64 i∧sB=.int .i64 j∧lo≤i∧i≤j∧j≤mid∧j - i≤kx∧Aside (SWK enc k w0 blk off d wr)∧Aside (∀ x,lo≤x→x<i→(ltOf cf d[p - x]! d[x]!)=false)∧Aside (∀ x,j≤x→x<mid→(ltOf cf d[p - x]! d[x]!)=true))
 case atStart=>exact⟨lo,mid,rfl,rfl,Nat.le_refl _,by omega,Nat.le_refl _,Nat.le_refl _,S0,fun x h1 h2=>by omega,fun x h1 h2=>by omega⟩
 case round =>
  clear S0
  obtain⟨i,j,rfl,rfl,hli,hij,hjh,hkx,S1,A1,A2⟩:=hrel
  by_cases hlt:(i:Int)<(j:Int)
  ·obtain⟨h,hh1,hh2⟩:∃ h,2*h≤i+j∧i+j≤2*h+1:=⟨(i+j) / 2,by omega,by omega⟩
   have zh:((i:Int)+(j:Int)) / 2=(h:Int):=by omega
   have rij:IntKind.i64.wrap ((i:Int)+(j:Int))=(i:Int)+(j:Int):=by rw[IntKind.wrap_i64];omega
   have hih:i≤h:=by omega
   have hhj:h<j:=by omega
   obtain⟨q,hq⟩:∃ q,q+h=p:=⟨p - h,by omega⟩
   have zq:(p:Int) - (h:Int)=(q:Int):=by omega
   have rq:IntKind.i64.wrap (q:Int)=(q:Int):=by rw[IntKind.wrap_i64];omega
   cases hlv:ltOf cf d[q]! d[h]! with
   | true =>
    have ea7:((q:Int)).toNat=q:=by omega
    have pa7:(0:Int)≤(q:Int):=by omega
    have ba7:(q:Int)<(d.size:Int):=by omega
    have ra7:IntKind.i64.wrap ((q:Int))=(q:Int):=by rw[IntKind.wrap_i64];omega
    have ec7:((h:Int)).toNat=h:=by omega
    have pc7:(0:Int)≤(h:Int):=by omega
    have bc7:(h:Int)<(d.size:Int):=by omega
    have rc7:IntKind.i64.wrap ((h:Int))=(h:Int):=by rw[IntKind.wrap_i64];omega
    obtain⟨x7,hx7⟩:∃ x,x=d[q]! := ⟨_,rfl⟩
    obtain⟨y7,hy7⟩:∃ x,x=d[h]! := ⟨_,rfl⟩
    have l7a:=S1.out.ld R (by omega) P (q) (by omega)
    have l7b:=S1.out.ld R (by omega) P (h) (by omega)
    rw[← hx7] at l7a
    rw[← hy7] at l7b
    have hc7:=S1.out.cmp HC.out (by omega) x7 y7
    have hv7:cf x7 y7<0:=by rw[hx7,hy7];exact of_decide_eq_true hlv
    have hd7:decide (cf x7 y7<0)=true:=decide_eq_true hv7
    clear hx7 hy7
    go_wp2_with fail
    go_quiet_grown (first|(go_at_fn g;refine Calls.grown_of (hc7 _ _)))
    have S2:Aside (SWK enc k w0 blk off d (grow (wr.drewN nq) osq)):=S1.out.grown nq osq
    clear l7a l7b hc7 S1
    generalize grow (wr.drewN nq) osq=w2 at S2 ⊢
    clear nq osq
    clear ea7 ec7
    go_wp2
    go_roundg (h - i)
    case measure=>omega
    case rel=>exact⟨i,h,rfl,by first|rfl|go_num|(congr 1;omega),hli,hih,by omega,Nat.le_refl _,S2,A1.out,fun x h1 h2=>(by
     rcases Nat.lt_or_ge x j with h3|h3
     ·exact Y.mono3 HL.out HA.out HB.out HX.out (p:=p) (x:=h) (y:=x) (by omega) h1 (by omega) (by omega) (by omega) (by rw[show p - h=q by omega];exact hlv)
     ·exact A2.out x h3 h2)⟩
   | false =>
    have ea8:((q:Int)).toNat=q:=by omega
    have pa8:(0:Int)≤(q:Int):=by omega
    have ba8:(q:Int)<(d.size:Int):=by omega
    have ra8:IntKind.i64.wrap ((q:Int))=(q:Int):=by rw[IntKind.wrap_i64];omega
    have ec8:((h:Int)).toNat=h:=by omega
    have pc8:(0:Int)≤(h:Int):=by omega
    have bc8:(h:Int)<(d.size:Int):=by omega
    have rc8:IntKind.i64.wrap ((h:Int))=(h:Int):=by rw[IntKind.wrap_i64];omega
    obtain⟨x8,hx8⟩:∃ x,x=d[q]! := ⟨_,rfl⟩
    obtain⟨y8,hy8⟩:∃ x,x=d[h]! := ⟨_,rfl⟩
    have l8a:=S1.out.ld R (by omega) P (q) (by omega)
    have l8b:=S1.out.ld R (by omega) P (h) (by omega)
    rw[← hx8] at l8a
    rw[← hy8] at l8b
    have hc8:=S1.out.cmp HC.out (by omega) x8 y8
    have hv8:¬ cf x8 y8<0:=by rw[hx8,hy8];exact of_decide_eq_false hlv
    have hd8:decide (cf x8 y8<0)=false:=decide_eq_false hv8
    clear hx8 hy8
    go_wp2_with fail
    go_quiet_grown (first|(go_at_fn g;refine Calls.grown_of (hc8 _ _)))
    have S2:Aside (SWK enc k w0 blk off d (grow (wr.drewN nq) osq)):=S1.out.grown nq osq
    clear l8a l8b hc8 S1
    generalize grow (wr.drewN nq) osq=w2 at S2 ⊢
    clear nq osq
    clear ea8 ec8
    go_wp2
    go_roundg (j - (h+1))
    case measure=>omega
    case rel=>exact⟨h+1,j,by first|rfl|go_num|(congr 1;omega),rfl,by omega,by omega,hjh,Nat.le_refl _,S2,fun x h1 h2=>(by
     rcases Nat.lt_or_ge x i with h3|h3
     ·exact A1.out x h1 h3
     ·cases hz:ltOf cf d[p - x]! d[x]! with
      | false=>rfl
      | true=>rw[show q=p - h by omega,Y.mono3 HL.out HA.out HB.out HX.out (p:=p) (x:=x) (y:=h) (by omega) (by omega) (by omega) (by omega) (by omega) hz] at hlv;cases hlv),A2.out⟩
  ·obtain rfl:i=j:=by omega
   have FD:Aside (Y.Found (fun x=>(ltOf cf d[p - x]! d[x]!)) lo mid i):=⟨hli,hjh,A1.out,A2.out⟩
   clear A1 A2
   obtain⟨e,he⟩:∃ e,e+i=n:=⟨n - i,by omega⟩
   have ze:(n:Int) - (i:Int)=(e:Int):=by omega
   have re:IntKind.i64.wrap (e:Int)=(e:Int):=by rw[IntKind.wrap_i64];omega
   have HF:Aside _:=fun (d1:Array α) (hv:Y.Via (Y.rot i m e) a b d d1)=>Y.half_of HL.out HA.out HB.out HX.out ham hmb hb hmid.out (show e+i=mid+m by omega) (show Y.Found (fun c=>ltOf cf d[mid+m - 1 - c]! d[c]!) (if m>mid then mid+m - b else a) (if m>mid then mid else m) i by rw[if_pos (by omega),if_pos (by omega)];have h0:=FD.out;rw[show p=mid+m - 1 by omega,show lo=mid+m - b by omega] at h0;exact h0) hv
   clear FD
   by_cases hrot:i<m∧m<e
   ·obtain⟨hr1,hr2⟩:=hrot
    have zq1:(i:Int)<(m:Int):=by omega
    have zq2:(m:Int)<(e:Int):=by omega
    go_wp2_with fail
    clear ze re zq1 zq2
    refine (rotateV LY Fsw Fro k aE zE enc g cb blk off cap i m e d0 d w0 _ R (by omega) S1.out hr1 hr2 (by omega) (by omega)).mono ?_
    rintro _ w3 ⟨rfl,d1,s3,v3⟩
    have S3:Aside _:=s3
    have V3:Aside (Y.Via (Y.rot i m e) a b d d1):=v3.mono (by omega) (by omega) hb
    clear s3 v3 S1
    obtain⟨g1,g2,g3,g4,g5,g6,hf⟩:=HF.out d1 V3.out
    have HH:Aside _:=hf
    have HP:Aside (PermIn a b d d1):=V3.out.1
    have hs1:d1.size=d.size:=HP.out.1
    clear hf HF
    by_cases hl:a<i∧i<mid
    ·obtain⟨hl1,hl2⟩:=hl
     have zl1:(a:Int)<(i:Int):=by omega
     have zl2:(i:Int)<(mid:Int):=by omega
     go_wp2_with fail
     clear zl1 zl2
     rw[← hs1]
     refine (IH.out a i mid d1 _ (by omega) (by omega) S3.out hl1 hl2 (by omega) (by omega) HH.out.l1 HH.out.l2 HH.out.lc).mono ?_
     rintro _ w4 ⟨rfl,d2,s4,p2,r2⟩
     have S4:Aside _:=s4
     have P2:Aside _:=p2
     have R2:Aside _:=r2
     have hs2:d2.size=d.size:=p2.1.trans hs1
     rw[hs1]
     clear s4 p2 r2 S3
     by_cases hr:mid<e∧e<b
     ·obtain⟨hr1,hr2⟩:=hr
      have zr1:(mid:Int)<(e:Int):=by omega
      have zr2:(e:Int)<(b:Int):=by omega
      obtain⟨k1,k2,k3⟩:=HH.out.keep P2.out g3
      go_wp2_with fail
      clear zr1 zr2
      rw[← hs2]
      refine (IH.out mid e b d2 _ (by omega) (by omega) S4.out hr1 hr2 (by omega) (by omega) k1 k2 k3).mono ?_
      rintro _ w5 ⟨rfl,d3,s5,p3,r3⟩
      have S5:Aside _:=s5
      have P3:Aside _:=p3
      have R3:Aside _:=r3
      clear s5 p3 r3 k1 k2 k3
      rw[hs2]
      go_wp2
      go_end0
      exact⟨rfl,d3,S5.out,Y.halves HP.out hb (by omega) (by omega) HH.out P2.out R2.out P3.out R3.out⟩
     ·have R3:Aside (SortedIn (Y.lx (ltOf cf) lab) mid b d2):=(by obtain⟨k1,k2,k3⟩:=HH.out.keep P2.out g3;exact Y.sorted_none k1 k2 hr g3)
      have fin:Aside (∃ d',SWK enc k w0 blk off d' w4∧PermIn a b d d'∧SortedIn (Y.lx (ltOf cf) lab) a b d'):=⟨d2,S4.out,Y.halves HP.out hb (by omega) (by omega) HH.out P2.out R2.out (permIn_refl _ _ _) R3.out⟩
      rcases Nat.lt_or_ge mid e with hr0|hr0
      ·have zr1:(mid:Int)<(e:Int):=by omega
       have zr2:¬ (e:Int)<(b:Int):=by omega
       go_wp2
       go_end0
       exact⟨rfl,fin.out⟩
      ·exfalso;omega
    ·have P2:Aside (PermIn a mid d1 d1):=permIn_refl d1 a mid
     have R2:Aside (SortedIn (Y.lx (ltOf cf) lab) a mid d1):=Y.sorted_none HH.out.l1 HH.out.l2 hl g1
     have hs2:d1.size=d.size:=hs1
     rcases Nat.lt_or_ge a i with hl0|hl0
     ·exfalso;omega
     ·have zl1:¬ (a:Int)<(i:Int):=by omega
      by_cases hr:mid<e∧e<b
      ·exfalso;omega
      ·have R3:Aside (SortedIn (Y.lx (ltOf cf) lab) mid b d1):=(by obtain⟨k1,k2,k3⟩:=HH.out.keep P2.out g3;exact Y.sorted_none k1 k2 hr g3)
       have fin:Aside (∃ d',SWK enc k w0 blk off d' w3∧PermIn a b d d'∧SortedIn (Y.lx (ltOf cf) lab) a b d'):=⟨d1,S3.out,Y.halves HP.out hb (by omega) (by omega) HH.out P2.out R2.out (permIn_refl _ _ _) R3.out⟩
       rcases Nat.lt_or_ge mid e with hr0|hr0
       ·have zr1:(mid:Int)<(e:Int):=by omega
        have zr2:¬ (e:Int)<(b:Int):=by omega
        go_wp2
        go_end0
        exact⟨rfl,fin.out⟩
       ·exfalso;omega
   ·have V3:Aside (Y.Via (Y.rot i m e) a b d d):=(Y.Via.refl a b d).congr fun x=>(by
     rcases Nat.lt_or_ge i m with h3|h3
     ·rw[show e=m by omega];exact (Y.rot_idr (by omega) x).symm
     ·rw[show i=m by omega];exact (Y.rot_idl x).symm)
    rcases Nat.lt_or_ge i m with hq0|hq0
    ·have zq1:(i:Int)<(m:Int):=by omega
     have zq2:¬ (m:Int)<(e:Int):=by omega
     obtain⟨g1,g2,g3,g4,g5,g6,hf⟩:=HF.out d V3.out
     have HH:Aside _:=hf
     have HP:Aside (PermIn a b d d):=V3.out.1
     clear hf HF
     by_cases hl:a<i∧i<mid
     ·exfalso;omega
     ·have P2:Aside (PermIn a mid d d):=permIn_refl d a mid
      have R2:Aside (SortedIn (Y.lx (ltOf cf) lab) a mid d):=Y.sorted_none HH.out.l1 HH.out.l2 hl g1
      rcases Nat.lt_or_ge a i with hl0|hl0
      ·have zl1:(a:Int)<(i:Int):=by omega
       have zl2:¬ (i:Int)<(mid:Int):=by omega
       by_cases hr:mid<e∧e<b
       ·obtain⟨hr1,hr2⟩:=hr
        have zr1:(mid:Int)<(e:Int):=by omega
        have zr2:(e:Int)<(b:Int):=by omega
        obtain⟨k1,k2,k3⟩:=HH.out.keep P2.out g3
        go_wp2_with fail
        clear zr1 zr2
        refine (IH.out mid e b d _ (by omega) (by omega) S1.out hr1 hr2 (by omega) (by omega) k1 k2 k3).mono ?_
        rintro _ w5 ⟨rfl,d3,s5,p3,r3⟩
        have S5:Aside _:=s5
        have P3:Aside _:=p3
        have R3:Aside _:=r3
        clear s5 p3 r3 k1 k2 k3
        go_wp2
        go_end0
        exact⟨rfl,d3,S5.out,Y.halves HP.out hb (by omega) (by omega) HH.out P2.out R2.out P3.out R3.out⟩
       ·have R3:Aside (SortedIn (Y.lx (ltOf cf) lab) mid b d):=(by obtain⟨k1,k2,k3⟩:=HH.out.keep P2.out g3;exact Y.sorted_none k1 k2 hr g3)
        have fin:Aside (∃ d',SWK enc k w0 blk off d' wr∧PermIn a b d d'∧SortedIn (Y.lx (ltOf cf) lab) a b d'):=⟨d,S1.out,Y.halves HP.out hb (by omega) (by omega) HH.out P2.out R2.out (permIn_refl _ _ _) R3.out⟩
        rcases Nat.lt_or_ge mid e with hr0|hr0
        ·exfalso;omega
        ·exfalso;omega
      ·exfalso;omega
    ·exfalso;omega
end Go.Proofs.YtnkpgmibhpmdhaaGreat
namespace Go.Proofs.YtnkpgmibhpmdhaaGreat
open Go.Shelf Go.RowKit Go.Lib Go.Sort
set_option maxRecDepth 1000000
set_option linter.unusedVariables false
variable {P : Program} {α : Type} [Inhabited α]
set_option maxHeartbeats 16000000 in
theorem symV_low (LY:LayV P) (Fsw:P.funcs[242]?=some Tryz.f242) (Fro:P.funcs[239]?=some Tryz.f239) (Fsm:P.funcs[237]?=some Tryz.f237) (k:Nat) (aE:∀ w,(isAgg 25).run P w=.ok true w) (zE:∀ w,(Go.sizeOf 25).run P w=.ok k w) (enc:α→List Value) (cf:α→α→Int) (lab:α→Nat) (hL:SWO (Y.lx (ltOf cf) lab)) (g:Nat) (cb:Array Value) (blk off cap:Nat) (d0:Array α) (w0:World)
  (R:RowK enc k w0 blk off d0) (eg:∀ args w,(callFunc g args).run P w=.ok (.enter g args) w) (hcmp:CmpLays P g cb enc k cf blk off d0.size w0) (a m b:Nat) (d:Array α) (w:World) (hs:d0.size=d.size) (S:SWK enc k w0 blk off d w) (ham:a<m) (hmb:m<b) (hb:b≤d.size) (hsz:d.size<4611686018427387904) (q1:SortedIn (Y.lx (ltOf cf) lab) a m d) (q2:SortedIn (Y.lx (ltOf cf) lab) m b d) (q3:Y.Cross (ltOf cf) lab a m b d) (hm1:a+2≤m) (hm2:m+2≤b) (mid:Nat) (hmid1:2*mid≤a+b) (hmid2:a+b≤2*mid+1) (hm:m≤mid) (N:Nat) (hN:b - a≤N+1) (ih:∀ (a m b:Nat) (d:Array α) (w:World),b - a≤N→d0.size=d.size→SWK enc k w0 blk off d w→a<m→m<b→b≤d.size→d.size<4611686018427387904→SortedIn (Y.lx (ltOf cf) lab) a m d→SortedIn (Y.lx (ltOf cf) lab) m b d→Y.Cross (ltOf cf) lab a m b d →
  Calls P 237 #[.slice (some ⟨blk,off,none⟩) d.size cap,.int .i64 a,.int .i64 m,.int .i64 b,.func (.func g) #[] cb] w fun e w'=>e=.returned (.tuple #[])∧∃ d',SWK enc k w0 blk off d' w'∧PermIn a b d d'∧SortedIn (Y.lx (ltOf cf) lab) a b d') :
  Calls P 237 #[.slice (some ⟨blk,off,none⟩) d.size cap,.int .i64 a,.int .i64 m,.int .i64 b,.func (.func g) #[] cb] w fun e w'=>e=.returned (.tuple #[])∧∃ d',SWK enc k w0 blk off d' w'∧PermIn a b d d'∧SortedIn (Y.lx (ltOf cf) lab) a b d':=by
 have mixed:=LY.mixed;have tUnit:=LY.tUnit;have aUnit:=LY.aUnit;have zUnit:=LY.zUnit;have vUnit:=LY.vUnit;have tInt:=LY.tInt;have aInt:=LY.aInt;have zInt:=LY.zInt;have vInt:=LY.vInt;have tBool:=LY.tBool;have aBool:=LY.aBool;have zBool:=LY.zBool;have vBool:=LY.vBool;have tUint:=LY.tUint;have aUint:=LY.aUint;have zUint:=LY.zUint;have vUint:=LY.vUint;have tSl:=LY.tSl;have aSl:=LY.aSl;have zSl:=LY.zSl;have vSl:=LY.vSl;have tFn:=LY.tFn;have aFn:=LY.aFn;have zFn:=LY.zFn;have vFn:=LY.vFn
 have uSl:=run_underlying LY.tSl
 have HC:Aside _:=hcmp
 have HL:Aside (SWO (Y.lx (ltOf cf) lab)):=hL
 have S0:Aside (SWK enc k w0 blk off d w):=S
 have HA:Aside (SortedIn (Y.lx (ltOf cf) lab) a m d):=q1
 have HB:Aside (SortedIn (Y.lx (ltOf cf) lab) m b d):=q2
 have HX:Aside (Y.Cross (ltOf cf) lab a m b d):=q3
 clear hcmp hL S q1 q2 q3
 have IH:Aside _:=ih
 clear ih
 have ero:∀ args w,(callFunc 239 args).run P w=.ok (.enter 239 args) w:=enters_of Fro (by kernel_rfl) rfl
 have esm:∀ args w,(callFunc 237 args).run P w=.ok (.enter 237 args) w:=enters_of Fsm (by kernel_rfl) rfl
 have z1:((m:Int) - (a:Int)==1)=false:=beq_eq_false_iff_ne.2 (by omega)
 have rma:IntKind.i64.wrap ((m:Int) - (a:Int))=(m:Int) - (a:Int):=by rw[IntKind.wrap_i64];omega
 have z2:((b:Int) - (m:Int)==1)=false:=beq_eq_false_iff_ne.2 (by omega)
 have rbm:IntKind.i64.wrap ((b:Int) - (m:Int))=(b:Int) - (m:Int):=by rw[IntKind.wrap_i64];omega
 have hmid:Hid (mid=(a+b) / 2):=(by omega:mid=(a+b) / 2)
 have zmid:((a:Int)+(b:Int)) / 2=(mid:Int):=by omega
 have rab:IntKind.i64.wrap ((a:Int)+(b:Int))=(a:Int)+(b:Int):=by rw[IntKind.wrap_i64];omega
 obtain⟨n,hn1,hn2⟩:∃ n,n≤mid+m∧mid+m≤n:=⟨mid+m,by omega,by omega⟩
 have zn:(mid:Int)+(m:Int)=(n:Int):=by omega
 have rn:IntKind.i64.wrap (n:Int)=(n:Int):=by rw[IntKind.wrap_i64];omega
 obtain⟨p,hp⟩:∃ p,p+1=n:=⟨n - 1,by omega⟩
 have zp:(n:Int) - 1=(p:Int):=by omega
 have rp:IntKind.i64.wrap (p:Int)=(p:Int):=by rw[IntKind.wrap_i64];omega
 have hgt:¬ (mid:Int)<(m:Int):=by omega
 go_enter Fsm,Tryz.ntmps237
 go_wp2
 clear z1 z2 rma rbm zmid rab zn rn zp rp
 go_loopg [20,21] (m - a) (fun kx sA sB wr=>∃ (i j:Nat),sA=.int .i64 i∧sB=.int .i64 j∧a≤i∧i≤j∧j≤m∧j - i≤kx∧Aside (SWK enc k w0 blk off d wr)∧Aside (∀ x,a≤x→x<i→(ltOf cf d[p - x]! d[x]!)=false)∧Aside (∀ x,j≤x→x<m→(ltOf cf d[p - x]! d[x]!)=true))
 case atStart=>exact⟨a,m,rfl,rfl,Nat.le_refl _,by omega,Nat.le_refl _,Nat.le_refl _,S0,fun x h1 h2=>by omega,fun x h1 h2=>by omega⟩
 case round =>
  clear S0
  obtain⟨i,j,rfl,rfl,hli,hij,hjh,hkx,S1,A1,A2⟩:=hrel
  by_cases hlt:(i:Int)<(j:Int)
  ·obtain⟨h,hh1,hh2⟩:∃ h,2*h≤i+j∧i+j≤2*h+1:=⟨(i+j) / 2,by omega,by omega⟩
   have zh:((i:Int)+(j:Int)) / 2=(h:Int):=by omega
   have rij:IntKind.i64.wrap ((i:Int)+(j:Int))=(i:Int)+(j:Int):=by rw[IntKind.wrap_i64];omega
   have hih:i≤h:=by omega
   have hhj:h<j:=by omega
   obtain⟨q,hq⟩:∃ q,q+h=p:=⟨p - h,by omega⟩
   have zq:(p:Int) - (h:Int)=(q:Int):=by omega
   have rq:IntKind.i64.wrap (q:Int)=(q:Int):=by rw[IntKind.wrap_i64];omega
   cases hlv:ltOf cf d[q]! d[h]! with
   | true =>
    have ea9:((q:Int)).toNat=q:=by omega
    have pa9:(0:Int)≤(q:Int):=by omega
    have ba9:(q:Int)<(d.size:Int):=by omega
    have ra9:IntKind.i64.wrap ((q:Int))=(q:Int):=by rw[IntKind.wrap_i64];omega
    have ec9:((h:Int)).toNat=h:=by omega
    have pc9:(0:Int)≤(h:Int):=by omega
    have bc9:(h:Int)<(d.size:Int):=by omega
    have rc9:IntKind.i64.wrap ((h:Int))=(h:Int):=by rw[IntKind.wrap_i64];omega
    obtain⟨x9,hx9⟩:∃ x,x=d[q]! := ⟨_,rfl⟩
    obtain⟨y9,hy9⟩:∃ x,x=d[h]! := ⟨_,rfl⟩
    have l9a:=S1.out.ld R (by omega) P (q) (by omega)
    have l9b:=S1.out.ld R (by omega) P (h) (by omega)
    rw[← hx9] at l9a
    rw[← hy9] at l9b
    have hc9:=S1.out.cmp HC.out (by omega) x9 y9
    have hv9:cf x9 y9<0:=by rw[hx9,hy9];exact of_decide_eq_true hlv
    have hd9:decide (cf x9 y9<0)=true:=decide_eq_true hv9
    clear hx9 hy9
    go_wp2_with fail
    go_quiet_grown (first|(go_at_fn g;refine Calls.grown_of (hc9 _ _)))
    have S2:Aside (SWK enc k w0 blk off d (grow (wr.drewN nq) osq)):=S1.out.grown nq osq
    clear l9a l9b hc9 S1
    generalize grow (wr.drewN nq) osq=w2 at S2 ⊢
    clear nq osq
    clear ea9 ec9
    go_wp2
    go_roundg (h - i)
    case measure=>omega
    case rel=>exact⟨i,h,rfl,by first|rfl|go_num|(congr 1;omega),hli,hih,by omega,Nat.le_refl _,S2,A1.out,fun x h1 h2=>(by
     rcases Nat.lt_or_ge x j with h3|h3
     ·exact Y.mono3 HL.out HA.out HB.out HX.out (p:=p) (x:=h) (y:=x) (by omega) h1 (by omega) (by omega) (by omega) (by rw[show p - h=q by omega];exact hlv)
     ·exact A2.out x h3 h2)⟩
   | false =>
    have ea10:((q:Int)).toNat=q:=by omega
    have pa10:(0:Int)≤(q:Int):=by omega
    have ba10:(q:Int)<(d.size:Int):=by omega
    have ra10:IntKind.i64.wrap ((q:Int))=(q:Int):=by rw[IntKind.wrap_i64];omega
    have ec10:((h:Int)).toNat=h:=by omega
    have pc10:(0:Int)≤(h:Int):=by omega
    have bc10:(h:Int)<(d.size:Int):=by omega
    have rc10:IntKind.i64.wrap ((h:Int))=(h:Int):=by rw[IntKind.wrap_i64];omega
    obtain⟨x10,hx10⟩:∃ x,x=d[q]! := ⟨_,rfl⟩
    obtain⟨y10,hy10⟩:∃ x,x=d[h]! := ⟨_,rfl⟩
    have l10a:=S1.out.ld R (by omega) P (q) (by omega)
    have l10b:=S1.out.ld R (by omega) P (h) (by omega)
    rw[← hx10] at l10a
    rw[← hy10] at l10b
    have hc10:=S1.out.cmp HC.out (by omega) x10 y10
    have hv10:¬ cf x10 y10<0:=by rw[hx10,hy10];exact of_decide_eq_false hlv
    have hd10:decide (cf x10 y10<0)=false:=decide_eq_false hv10
    clear hx10 hy10
    go_wp2_with fail
    go_quiet_grown (first|(go_at_fn g;refine Calls.grown_of (hc10 _ _)))
    have S2:Aside (SWK enc k w0 blk off d (grow (wr.drewN nq) osq)):=S1.out.grown nq osq
    clear l10a l10b hc10 S1
    generalize grow (wr.drewN nq) osq=w2 at S2 ⊢
    clear nq osq
    clear ea10 ec10
    go_wp2
    go_roundg (j - (h+1))
    case measure=>omega
    case rel=>exact⟨h+1,j,by first|rfl|go_num|(congr 1;omega),rfl,by omega,by omega,hjh,Nat.le_refl _,S2,fun x h1 h2=>(by
     rcases Nat.lt_or_ge x i with h3|h3
     ·exact A1.out x h1 h3
     ·cases hz:ltOf cf d[p - x]! d[x]! with
      | false=>rfl
      | true=>rw[show q=p - h by omega,Y.mono3 HL.out HA.out HB.out HX.out (p:=p) (x:=x) (y:=h) (by omega) (by omega) (by omega) (by omega) (by omega) hz] at hlv;cases hlv),A2.out⟩
  ·obtain rfl:i=j:=by omega
   have FD:Aside (Y.Found (fun x=>(ltOf cf d[p - x]! d[x]!)) a m i):=⟨hli,hjh,A1.out,A2.out⟩
   clear A1 A2
   obtain⟨e,he⟩:∃ e,e+i=n:=⟨n - i,by omega⟩
   have ze:(n:Int) - (i:Int)=(e:Int):=by omega
   have re:IntKind.i64.wrap (e:Int)=(e:Int):=by rw[IntKind.wrap_i64];omega
   have HF:Aside _:=fun (d1:Array α) (hv:Y.Via (Y.rot i m e) a b d d1)=>Y.half_of HL.out HA.out HB.out HX.out ham hmb hb hmid.out (show e+i=mid+m by omega) (show Y.Found (fun c=>ltOf cf d[mid+m - 1 - c]! d[c]!) (if m>mid then mid+m - b else a) (if m>mid then mid else m) i by rw[if_neg (by omega),if_neg (by omega)];have h0:=FD.out;rw[show p=mid+m - 1 by omega] at h0;exact h0) hv
   clear FD
   by_cases hrot:i<m∧m<e
   ·obtain⟨hr1,hr2⟩:=hrot
    have zq1:(i:Int)<(m:Int):=by omega
    have zq2:(m:Int)<(e:Int):=by omega
    go_wp2_with fail
    clear ze re zq1 zq2
    refine (rotateV LY Fsw Fro k aE zE enc g cb blk off cap i m e d0 d w0 _ R (by omega) S1.out hr1 hr2 (by omega) (by omega)).mono ?_
    rintro _ w3 ⟨rfl,d1,s3,v3⟩
    have S3:Aside _:=s3
    have V3:Aside (Y.Via (Y.rot i m e) a b d d1):=v3.mono (by omega) (by omega) hb
    clear s3 v3 S1
    obtain⟨g1,g2,g3,g4,g5,g6,hf⟩:=HF.out d1 V3.out
    have HH:Aside _:=hf
    have HP:Aside (PermIn a b d d1):=V3.out.1
    have hs1:d1.size=d.size:=HP.out.1
    clear hf HF
    by_cases hl:a<i∧i<mid
    ·obtain⟨hl1,hl2⟩:=hl
     have zl1:(a:Int)<(i:Int):=by omega
     have zl2:(i:Int)<(mid:Int):=by omega
     go_wp2_with fail
     clear zl1 zl2
     rw[← hs1]
     refine (IH.out a i mid d1 _ (by omega) (by omega) S3.out hl1 hl2 (by omega) (by omega) HH.out.l1 HH.out.l2 HH.out.lc).mono ?_
     rintro _ w4 ⟨rfl,d2,s4,p2,r2⟩
     have S4:Aside _:=s4
     have P2:Aside _:=p2
     have R2:Aside _:=r2
     have hs2:d2.size=d.size:=p2.1.trans hs1
     rw[hs1]
     clear s4 p2 r2 S3
     by_cases hr:mid<e∧e<b
     ·obtain⟨hr1,hr2⟩:=hr
      have zr1:(mid:Int)<(e:Int):=by omega
      have zr2:(e:Int)<(b:Int):=by omega
      obtain⟨k1,k2,k3⟩:=HH.out.keep P2.out g3
      go_wp2_with fail
      clear zr1 zr2
      rw[← hs2]
      refine (IH.out mid e b d2 _ (by omega) (by omega) S4.out hr1 hr2 (by omega) (by omega) k1 k2 k3).mono ?_
      rintro _ w5 ⟨rfl,d3,s5,p3,r3⟩
      have S5:Aside _:=s5
      have P3:Aside _:=p3
      have R3:Aside _:=r3
      clear s5 p3 r3 k1 k2 k3
      rw[hs2]
      go_wp2
      go_end0
      exact⟨rfl,d3,S5.out,Y.halves HP.out hb (by omega) (by omega) HH.out P2.out R2.out P3.out R3.out⟩
     ·have R3:Aside (SortedIn (Y.lx (ltOf cf) lab) mid b d2):=(by obtain⟨k1,k2,k3⟩:=HH.out.keep P2.out g3;exact Y.sorted_none k1 k2 hr g3)
      have fin:Aside (∃ d',SWK enc k w0 blk off d' w4∧PermIn a b d d'∧SortedIn (Y.lx (ltOf cf) lab) a b d'):=⟨d2,S4.out,Y.halves HP.out hb (by omega) (by omega) HH.out P2.out R2.out (permIn_refl _ _ _) R3.out⟩
      rcases Nat.lt_or_ge mid e with hr0|hr0
      ·exfalso;omega
      ·exfalso;omega
    ·have P2:Aside (PermIn a mid d1 d1):=permIn_refl d1 a mid
     have R2:Aside (SortedIn (Y.lx (ltOf cf) lab) a mid d1):=Y.sorted_none HH.out.l1 HH.out.l2 hl g1
     have hs2:d1.size=d.size:=hs1
     rcases Nat.lt_or_ge a i with hl0|hl0
     ·exfalso;omega
     ·have zl1:¬ (a:Int)<(i:Int):=by omega
      by_cases hr:mid<e∧e<b
      ·obtain⟨hr1,hr2⟩:=hr
       have zr1:(mid:Int)<(e:Int):=by omega
       have zr2:(e:Int)<(b:Int):=by omega
       obtain⟨k1,k2,k3⟩:=HH.out.keep P2.out g3
       go_wp2_with fail
       clear zr1 zr2
       rw[← hs2]
       refine (IH.out mid e b d1 _ (by omega) (by omega) S3.out hr1 hr2 (by omega) (by omega) k1 k2 k3).mono ?_
       rintro _ w5 ⟨rfl,d3,s5,p3,r3⟩
       have S5:Aside _:=s5
       have P3:Aside _:=p3
       have R3:Aside _:=r3
       clear s5 p3 r3 k1 k2 k3
       rw[hs2]
       go_wp2
       go_end0
       exact⟨rfl,d3,S5.out,Y.halves HP.out hb (by omega) (by omega) HH.out P2.out R2.out P3.out R3.out⟩
      ·have R3:Aside (SortedIn (Y.lx (ltOf cf) lab) mid b d1):=(by obtain⟨k1,k2,k3⟩:=HH.out.keep P2.out g3;exact Y.sorted_none k1 k2 hr g3)
       have fin:Aside (∃ d',SWK enc k w0 blk off d' w3∧PermIn a b d d'∧SortedIn (Y.lx (ltOf cf) lab) a b d'):=⟨d1,S3.out,Y.halves HP.out hb (by omega) (by omega) HH.out P2.out R2.out (permIn_refl _ _ _) R3.out⟩
       rcases Nat.lt_or_ge mid e with hr0|hr0
       ·have zr1:(mid:Int)<(e:Int):=by omega
        have zr2:¬ (e:Int)<(b:Int):=by omega
        go_wp2
        go_end0
        exact⟨rfl,fin.out⟩
       ·exfalso;omega
   ·have V3:Aside (Y.Via (Y.rot i m e) a b d d):=(Y.Via.refl a b d).congr fun x=>(by
     rcases Nat.lt_or_ge i m with h3|h3
     ·rw[show e=m by omega];exact (Y.rot_idr (by omega) x).symm
     ·rw[show i=m by omega];exact (Y.rot_idl x).symm)
    rcases Nat.lt_or_ge i m with hq0|hq0
    ·exfalso;omega
    ·have zq1:¬ (i:Int)<(m:Int):=by omega
     obtain⟨g1,g2,g3,g4,g5,g6,hf⟩:=HF.out d V3.out
     have HH:Aside _:=hf
     have HP:Aside (PermIn a b d d):=V3.out.1
     clear hf HF
     by_cases hl:a<i∧i<mid
     ·obtain⟨hl1,hl2⟩:=hl
      have zl1:(a:Int)<(i:Int):=by omega
      have zl2:(i:Int)<(mid:Int):=by omega
      go_wp2_with fail
      clear zl1 zl2
      refine (IH.out a i mid d _ (by omega) (by omega) S1.out hl1 hl2 (by omega) (by omega) HH.out.l1 HH.out.l2 HH.out.lc).mono ?_
      rintro _ w4 ⟨rfl,d2,s4,p2,r2⟩
      have S4:Aside _:=s4
      have P2:Aside _:=p2
      have R2:Aside _:=r2
      have hs2:d2.size=d.size:=p2.1
      clear s4 p2 r2 S1
      by_cases hr:mid<e∧e<b
      ·exfalso;omega
      ·have R3:Aside (SortedIn (Y.lx (ltOf cf) lab) mid b d2):=(by obtain⟨k1,k2,k3⟩:=HH.out.keep P2.out g3;exact Y.sorted_none k1 k2 hr g3)
       have fin:Aside (∃ d',SWK enc k w0 blk off d' w4∧PermIn a b d d'∧SortedIn (Y.lx (ltOf cf) lab) a b d'):=⟨d2,S4.out,Y.halves HP.out hb (by omega) (by omega) HH.out P2.out R2.out (permIn_refl _ _ _) R3.out⟩
       rcases Nat.lt_or_ge mid e with hr0|hr0
       ·exfalso;omega
       ·have zr1:¬ (mid:Int)<(e:Int):=by omega
        go_wp2
        go_end0
        exact⟨rfl,fin.out⟩
     ·have P2:Aside (PermIn a mid d d):=permIn_refl d a mid
      have R2:Aside (SortedIn (Y.lx (ltOf cf) lab) a mid d):=Y.sorted_none HH.out.l1 HH.out.l2 hl g1
      rcases Nat.lt_or_ge a i with hl0|hl0
      ·have zl1:(a:Int)<(i:Int):=by omega
       have zl2:¬ (i:Int)<(mid:Int):=by omega
       by_cases hr:mid<e∧e<b
       ·exfalso;omega
       ·have R3:Aside (SortedIn (Y.lx (ltOf cf) lab) mid b d):=(by obtain⟨k1,k2,k3⟩:=HH.out.keep P2.out g3;exact Y.sorted_none k1 k2 hr g3)
        have fin:Aside (∃ d',SWK enc k w0 blk off d' wr∧PermIn a b d d'∧SortedIn (Y.lx (ltOf cf) lab) a b d'):=⟨d,S1.out,Y.halves HP.out hb (by omega) (by omega) HH.out P2.out R2.out (permIn_refl _ _ _) R3.out⟩
        rcases Nat.lt_or_ge mid e with hr0|hr0
        ·exfalso;omega
        ·have zr1:¬ (mid:Int)<(e:Int):=by omega
         go_wp2
         go_end0
         exact⟨rfl,fin.out⟩
      ·exfalso;omega
end Go.Proofs.YtnkpgmibhpmdhaaGreat
namespace Go.Proofs.YtnkpgmibhpmdhaaGreat
open Go.Shelf Go.RowKit Go.Lib Go.Sort
set_option maxRecDepth 1000000
set_option linter.unusedVariables false
variable {P : Program} {α : Type} [Inhabited α]
theorem symV (LY:LayV P) (Fsw:P.funcs[242]?=some Tryz.f242) (Fro:P.funcs[239]?=some Tryz.f239) (Fsm:P.funcs[237]?=some Tryz.f237) (k:Nat) (aE:∀ w,(isAgg 25).run P w=.ok true w) (zE:∀ w,(Go.sizeOf 25).run P w=.ok k w) (enc:α→List Value) (cf:α→α→Int) (lab:α→Nat) (hL:SWO (Y.lx (ltOf cf) lab)) (g:Nat) (cb:Array Value) (blk off cap:Nat) (d0:Array α) (w0:World)
  (R:RowK enc k w0 blk off d0) (eg:∀ args w,(callFunc g args).run P w=.ok (.enter g args) w) (hcmp:CmpLays P g cb enc k cf blk off d0.size w0) :
  ∀ (N a m b:Nat) (d:Array α) (w:World),b - a≤N→d0.size=d.size→SWK enc k w0 blk off d w→a<m→m<b→b≤d.size→d.size<4611686018427387904→SortedIn (Y.lx (ltOf cf) lab) a m d→SortedIn (Y.lx (ltOf cf) lab) m b d→Y.Cross (ltOf cf) lab a m b d →
  Calls P 237 #[.slice (some ⟨blk,off,none⟩) d.size cap,.int .i64 a,.int .i64 m,.int .i64 b,.func (.func g) #[] cb] w fun e w'=>e=.returned (.tuple #[])∧∃ d',SWK enc k w0 blk off d' w'∧PermIn a b d d'∧SortedIn (Y.lx (ltOf cf) lab) a b d':=by
 intro N
 induction N with
 | zero=>intro a m b d w h1 h2 h3 h4 h5;omega
 | succ N ih =>
  intro a m b d w hN hs S ham hmb hb hsz q1 q2 q3
  by_cases hm1:m≤a+1
  ·exact symV_one LY Fsm k aE zE enc cf lab hL g cb blk off cap d0 w0 R eg hcmp a m b d w hs S ham hmb hb hsz q1 q2 q3 hm1
  ·by_cases hm2:b≤m+1
   ·exact symV_last LY Fsm k aE zE enc cf lab hL g cb blk off cap d0 w0 R eg hcmp a m b d w hs S ham hmb hb hsz q1 q2 q3 (by omega) hm2
   ·by_cases hm3:(a+b) / 2<m
    ·exact symV_high LY Fsw Fro Fsm k aE zE enc cf lab hL g cb blk off cap d0 w0 R eg hcmp a m b d w hs S ham hmb hb hsz q1 q2 q3 (by omega) (by omega) ((a+b) / 2) (by omega) (by omega) hm3 N hN ih
    ·exact symV_low LY Fsw Fro Fsm k aE zE enc cf lab hL g cb blk off cap d0 w0 R eg hcmp a m b d w hs S ham hmb hb hsz q1 q2 q3 (by omega) (by omega) ((a+b) / 2) (by omega) (by omega) (by omega) N hN ih
end Go.Proofs.YtnkpgmibhpmdhaaGreat

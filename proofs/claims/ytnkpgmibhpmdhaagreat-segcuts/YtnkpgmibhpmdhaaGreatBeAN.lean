/- Contracts and plain facts, one behind the other: YV5 WA YD N2 -/
import Derived.Test.YtnkpgmibhpmdhaaGreatRows
import Derived.WalkKit
import Derived.WalkSpells
import Derived.WalkLawsBesides
import Derived.Test.YtnkpgmibhpmdhaaGreatBeAM
namespace Go.Proofs.YtnkpgmibhpmdhaaGreat
open Go.Shelf Go.RowKit Go.Lib Go.Sort
set_option maxRecDepth 1000000
set_option linter.unusedVariables false
variable {P : Program} {α : Type} [Inhabited α]
set_option maxHeartbeats 16000000 in
theorem stableV (LY:LayV P) (Fsw:P.funcs[242]?=some Tryz.f242) (Fro:P.funcs[239]?=some Tryz.f239) (Fin:P.funcs[236]?=some Tryz.f236) (Fsm:P.funcs[237]?=some Tryz.f237) (Fst:P.funcs[228]?=some Tryz.f228) (k:Nat) (aE:∀ w,(isAgg 25).run P w=.ok true w) (zE:∀ w,(Go.sizeOf 25).run P w=.ok k w) (enc:α→List Value) (cf:α→α→Int) (lab:α→Nat) (hL:SWO (Y.lx (ltOf cf) lab)) (g:Nat) (cb:Array Value) (blk off cap:Nat) (d:Array α) (w:World)
  (R:RowK enc k w blk off d) (eg:∀ args w,(callFunc g args).run P w=.ok (.enter g args) w) (hcmp:CmpLays P g cb enc k cf blk off d.size w) (n:Nat) (hn:n=d.size) (hsz:n<1152921504606846976) (hlab:∀ i,i<n→lab d[i]! = i) :
  Calls P 228 #[.slice (some ⟨blk,off,none⟩) n cap,.int .i64 n,.func (.func g) #[] cb] w fun e w'=>e=.returned (.tuple #[])∧∃ d',SWK enc k w blk off d' w'∧PermIn 0 n d d'∧SortedIn (Y.lx (ltOf cf) lab) 0 n d':=by
 have mixed:=LY.mixed;have tUnit:=LY.tUnit;have aUnit:=LY.aUnit;have zUnit:=LY.zUnit;have vUnit:=LY.vUnit;have tInt:=LY.tInt;have aInt:=LY.aInt;have zInt:=LY.zInt;have vInt:=LY.vInt;have tBool:=LY.tBool;have aBool:=LY.aBool;have zBool:=LY.zBool;have vBool:=LY.vBool;have tUint:=LY.tUint;have aUint:=LY.aUint;have zUint:=LY.zUint;have vUint:=LY.vUint;have tSl:=LY.tSl;have aSl:=LY.aSl;have zSl:=LY.zSl;have vSl:=LY.vSl;have tFn:=LY.tFn;have aFn:=LY.aFn;have zFn:=LY.zFn;have vFn:=LY.vFn
 have uSl:=run_underlying LY.tSl
 have HN:Hid (n=d.size):=hn
 have HB:Aside (∀ i,i<n→lab d[i]! = i):=hlab
 have HC:Aside _:=hcmp
 have HR:Aside _:=R
 have ein:∀ args w,(callFunc 236 args).run P w=.ok (.enter 236 args) w:=enters_of Fin (by kernel_rfl) rfl
 have esm:∀ args w,(callFunc 237 args).run P w=.ok (.enter 237 args) w:=enters_of Fsm (by kernel_rfl) rfl
 have S0:Aside (SWK enc k w blk off d w):=SWK.start R.hH
 have P0:Aside (PermIn 0 n d d):=permIn_refl d 0 n
 have B0:Aside (Y.Bl (ltOf cf) lab 20 0 0 d):=Y.Bl.none 20 0 d
 have INS:Aside (∀ (a b:Nat) (dk:Array α) (wk:World),dk.size=n→SWK enc k w blk off dk wk→a≤b→b≤n→(∀ i,a≤i→i<n→dk[i]! = d[i]!)→Calls P 236 #[.slice (some ⟨blk,off,none⟩) n cap,.int .i64 a,.int .i64 b,.func (.func g) #[] cb] wk fun e w'=>e=.returned (.tuple #[])∧∃ d',SWK enc k w blk off d' w'∧PermIn a b dk d'∧SortedIn (Y.lx (ltOf cf) lab) a b d'):=fun a b dk wk h1 h2 h3 h4 h5=>by
  have:=insV LY Fin k aE zE enc cf lab hL g cb blk off cap d w R eg hcmp a b dk wk (by omega) h2 h3 (by omega) (by omega) (fun x y k1 k2 k3=>by rw[h5 x k1 (by omega),h5 y (by omega) (by omega),hlab x (by omega),hlab y (by omega)];exact k2)
  rw[h1] at this
  exact this
 have SYM:Aside (∀ (a m b:Nat) (dk:Array α) (wk:World),dk.size=n→SWK enc k w blk off dk wk→a<m→m<b→b≤n→SortedIn (Y.lx (ltOf cf) lab) a m dk→SortedIn (Y.lx (ltOf cf) lab) m b dk→Y.Cross (ltOf cf) lab a m b dk→Calls P 237 #[.slice (some ⟨blk,off,none⟩) n cap,.int .i64 a,.int .i64 m,.int .i64 b,.func (.func g) #[] cb] wk fun e w'=>e=.returned (.tuple #[])∧∃ d',SWK enc k w blk off d' w'∧PermIn a b dk d'∧SortedIn (Y.lx (ltOf cf) lab) a b d'):=fun a m b dk wk h1 h2 h3 h4 h5 h6 h7 h8=>by
  have:=symV LY Fsw Fro Fsm k aE zE enc cf lab hL g cb blk off cap d w R eg hcmp (b - a) a m b dk wk (Nat.le_refl _) (by omega) h2 h3 h4 (by omega) (by omega) h6 h7 h8
  rw[h1] at this
  exact this
 clear hcmp hL hlab hn R
 go_enter Fst,Tryz.ntmps228
 go_wp2
 go_loopg [7,8] (n+20) (fun kx s7 s8 wr=>∃ (q A B:Nat) (dk:Array α),s7=.int .i64 A∧s8=.int .i64 B∧Hid (A=q*20)∧A+20≤B∧B≤A+20∧A≤n∧n+20 - A≤kx∧dk.size=n∧Aside (SWK enc k w blk off dk wr)∧Aside (PermIn 0 n d dk)∧Aside (Y.Bl (ltOf cf) lab 20 0 A dk)∧Aside (∀ i,A≤i→i<n→dk[i]! = d[i]!))
 case atStart=>exact⟨0,0,20,d,rfl,rfl,rfl,by omega,by omega,by omega,by omega,HN.out.symm,S0,P0,B0,fun _ _ _=>rfl⟩
 case round =>
  clear S0 P0 B0
  obtain⟨q,A,B,dk,rfl,rfl,hA,hB1,hB2,hAn,hkx,hds,S1,P1,B1,E1⟩:=hrel
  by_cases hle:(B:Int)≤(n:Int)
  ·obtain⟨B2,hC1,hC2⟩:∃ B2,B+20≤B2∧B2≤B+20:=⟨B+20,by omega,by omega⟩
   have zB:(B:Int)+20=(B2:Int):=by omega
   have rB:IntKind.i64.wrap (B2:Int)=(B2:Int):=by rw[IntKind.wrap_i64];omega
   go_wp2_with fail
   refine (INS.out A B dk _ hds S1.out (by omega) (by omega) E1.out).mono ?_
   rintro _ w2 ⟨rfl,d2,s2,p2,r2⟩
   have S2:Aside _:=s2
   have hd2:d2.size=n:=p2.1.trans hds
   have P2:Aside (PermIn 0 n d d2):=permIn_trans d dk d2 0 n P1.out (permIn_mono dk d2 A B 0 n (by omega) (by omega) (by omega) p2)
   have B2':Aside (Y.Bl (ltOf cf) lab 20 0 B d2):=(by
     have h0:=B1.out
     have h1:=h0.keep p2 (Or.inl (Nat.le_refl _))
     have e1:=hA.out
     subst e1
     have h2:=Y.bl_block (lt:=ltOf cf) (lab:=lab) (s:=20) (q:=q) (b:=B) (by omega) (by omega) p2 r2 fun i k1 k2=>by rw[E1.out i k1 (by omega),HB.out i (by omega)];exact Y.div_in k1 (by omega)
     exact h1.join h2 (by omega))
   have E2:Aside (∀ i,B≤i→i<n→d2[i]! = d[i]!):=fun i k1 k2=>by rw[p2.2.1 i (Or.inr k1)];exact E1.out i (by omega) k2
   clear s2 p2 r2 S1 P1 B1 E1
   go_wp2
   go_roundg (n+20 - B)
   case measure=>omega
   case rel=>exact⟨q+1,B,B2,d2,rfl,rfl,(by have:=hA.out;show B=(q+1)*20;omega),by omega,by omega,by omega,Nat.le_refl _,hd2,S2,P2,B2',E2⟩
  ·go_wp2_with fail
   refine (INS.out A n dk _ hds S1.out hAn (Nat.le_refl _) E1.out).mono ?_
   rintro _ w2 ⟨rfl,d2,s2,p2,r2⟩
   have S2:Aside _:=s2
   have hd2:d2.size=n:=p2.1.trans hds
   have P2:Aside (PermIn 0 n d d2):=permIn_trans d dk d2 0 n P1.out (permIn_mono dk d2 A n 0 n (by omega) (by omega) (by omega) p2)
   have B2:Aside (Y.Bl (ltOf cf) lab 20 0 n d2):=(by
     have h1:=B1.out.keep p2 (Or.inl (Nat.le_refl _))
     have e1:=hA.out
     subst e1
     have h2:=Y.bl_block (lt:=ltOf cf) (lab:=lab) (s:=20) (q:=q) (b:=n) (by omega) (by omega) p2 r2 fun i k1 k2=>by rw[E1.out i k1 k2,HB.out i k2];exact Y.div_in k1 (by omega)
     exact h1.join h2 (by omega))
   clear s2 p2 r2 S1 P1 B1 E1 hA
   go_wp2
   go_loopg [6] (n+20) (fun kx s6 wr=>∃ (s:Nat) (dk:Array α),s6=.int .i64 s∧20≤s∧s≤2*n+20∧n+20 - s≤kx∧dk.size=n∧Aside (SWK enc k w blk off dk wr)∧Aside (PermIn 0 n d dk)∧Aside (Y.Bl (ltOf cf) lab s 0 n dk))
   case atStart=>exact⟨20,d2,rfl,by omega,by omega,by omega,hd2,S2,P2,B2⟩
   case round =>
    clear S2 P2 B2 hd2
    obtain⟨s,dk,rfl,hs1,hs2,hkx,hds,S1,P1,B1⟩:=hrel
    by_cases hlt:(s:Int)<(n:Int)
    ·obtain⟨t,ht1,ht2⟩:∃ t,t≤2*s∧2*s≤t:=⟨2*s,by omega,by omega⟩
     have zt:(2:Int)*(s:Int)=(t:Int):=by omega
     have zt2:(s:Int)*2=(t:Int):=by omega
     have rt:IntKind.i64.wrap (t:Int)=(t:Int):=by rw[IntKind.wrap_i64];omega
     have B0:Aside (Y.Bl (ltOf cf) lab (2*s) 0 0 dk):=Y.Bl.none (2*s) 0 dk
     go_wp2
     go_loopg [7,8] (n+s) (fun kx s7 s8 wr=>∃ (q A B:Nat) (dj:Array α),s7=.int .i64 A∧s8=.int .i64 B∧Hid (A=q*(2*s))∧A+t≤B∧B≤A+t∧A≤n∧n+s - A≤kx∧dj.size=n∧Aside (SWK enc k w blk off dj wr)∧Aside (PermIn 0 n d dj)∧Aside (Y.Bl (ltOf cf) lab (2*s) 0 A dj)∧Aside (Y.Bl (ltOf cf) lab s A n dj))
     case atStart=>exact⟨0,0,t,dk,rfl,rfl,(show (0:Nat)=0*(2*s) by omega),by omega,by omega,by omega,by omega,hds,S1,P1,B0,B1⟩
     case round =>
      clear S1 P1 B0 B1
      obtain⟨q,A,B,dj,rfl,rfl,hA,hB1,hB2,hAn,hkx,hdj,S2,P2,L2,U2⟩:=hrel
      obtain⟨M,hM1,hM2⟩:∃ M,M≤A+s∧A+s≤M:=⟨A+s,by omega,by omega⟩
      have zM:(A:Int)+(s:Int)=(M:Int):=by omega
      have rM:IntKind.i64.wrap (M:Int)=(M:Int):=by rw[IntKind.wrap_i64];omega
      have MG:Aside (∀ b,M<b→b≤n→b≤B→∀ wk,SWK enc k w blk off dj wk→Calls P 237 #[.slice (some ⟨blk,off,none⟩) n cap,.int .i64 A,.int .i64 M,.int .i64 b,.func (.func g) #[] cb] wk fun e w'=>e=.returned (.tuple #[])∧∃ d',d'.size=n∧SWK enc k w blk off d' w'∧PermIn 0 n d d'∧Y.Bl (ltOf cf) lab (2*s) 0 b d'∧Y.Bl (ltOf cf) lab s b n d'):=fun b k1 k2 k3 wk sk=>by
       obtain rfl:M=A+s:=by omega
       have e1:=hA.out
       subst e1
       refine (SYM.out _ _ b dj wk hdj sk (by omega) k1 k2 (Y.bl_left U2.out (by omega)) (Y.bl_right U2.out (by omega) k2) (Y.bl_cross U2.out (by omega) (by omega) k2)).mono ?_
       rintro _ w' ⟨rfl,d3,s3,p3,r3⟩
       exact⟨rfl,d3,p3.1.trans hdj,s3,permIn_trans d dj d3 0 n P2.out (permIn_mono dj d3 _ b 0 n (by omega) k2 (by omega) p3),(L2.out.keep p3 (Or.inl (Nat.le_refl _))).join (Y.bl_merged U2.out (by omega) (by omega) k2 (by omega) p3 r3) (by omega),(U2.out.cut (by omega) (Nat.le_refl _)).keep p3 (Or.inr (Nat.le_refl _))⟩
      by_cases hle:(B:Int)≤(n:Int)
      ·obtain⟨B2,hC1,hC2⟩:∃ B2,B+t≤B2∧B2≤B+t:=⟨B+t,by omega,by omega⟩
       have zB:(B:Int)+(t:Int)=(B2:Int):=by omega
       have rB:IntKind.i64.wrap (B2:Int)=(B2:Int):=by rw[IntKind.wrap_i64];omega
       go_wp2_with fail
       refine (MG.out B (by omega) (by omega) (Nat.le_refl _) _ S2.out).mono ?_
       rintro _ w3 ⟨rfl,d3,hd3,s3,p3,l3,u3⟩
       have S3:Aside _:=s3
       have P3:Aside _:=p3
       have L3:Aside _:=l3
       have U3:Aside _:=u3
       clear s3 p3 l3 u3 S2 P2 L2 U2 MG
       go_wp2
       go_roundg (n+s - B)
       case measure=>omega
       case rel=>exact⟨q+1,B,B2,d3,rfl,rfl,(by have e1:=hA.out;show B=(q+1)*(2*s);rw[Nat.add_mul,Nat.one_mul,← e1];omega),by omega,by omega,by omega,Nat.le_refl _,hd3,S3,P3,L3,U3⟩
      ·by_cases hMn:(M:Int)<(n:Int)
       ·go_wp2_with fail
        refine (MG.out n (by omega) (Nat.le_refl _) (by omega) _ S2.out).mono ?_
        rintro _ w3 ⟨rfl,d3,hd3,s3,p3,l3,u3⟩
        have S3:Aside _:=s3
        have P3:Aside _:=p3
        have L3:Aside (Y.Bl (ltOf cf) lab t 0 n d3):=(by rw[show t=2*s by omega];exact l3)
        clear s3 p3 l3 u3 S2 P2 L2 U2 MG
        go_wp2
        go_roundg (n+20 - t)
        case measure=>omega
        case rel=>exact⟨t,d3,rfl,by omega,by omega,Nat.le_refl _,hd3,S3,P3,L3⟩
       ·have L3:Aside (Y.Bl (ltOf cf) lab t 0 n dj):=(by
         have e1:=hA.out
         rw[show t=2*s by omega]
         have h1:=L2.out
         have h2:=U2.out
         rw[e1] at h1 h2
         exact h1.join (Y.bl_lone h2 (by omega)) (by omega))
        go_wp2
        go_roundg (n+20 - t)
        case measure=>omega
        case rel=>exact⟨t,dj,rfl,by omega,by omega,Nat.le_refl _,hdj,S2,P2,L3⟩
    ·go_wp2
     go_end0
     exact⟨rfl,dk,S1.out,P1.out,Y.bl_all B1.out (by omega)⟩
set_option maxHeartbeats 4000000 in
theorem sortStableV (LY:LayV P) (Fsw:P.funcs[242]?=some Tryz.f242) (Fro:P.funcs[239]?=some Tryz.f239) (Fin:P.funcs[236]?=some Tryz.f236) (Fsm:P.funcs[237]?=some Tryz.f237) (Fst:P.funcs[228]?=some Tryz.f228) (Fss:P.funcs[203]?=some Tryz.f203) (k:Nat) (aE:∀ w,(isAgg 25).run P w=.ok true w) (zE:∀ w,(Go.sizeOf 25).run P w=.ok k w) (enc:α→List Value) (cf:α→α→Int) (lab:α→Nat) (hL:SWO (Y.lx (ltOf cf) lab)) (g:Nat) (cb:Array Value) (blk off cap:Nat) (d:Array α) (w:World)
  (R:RowK enc k w blk off d) (eg:∀ args w,(callFunc g args).run P w=.ok (.enter g args) w) (hcmp:CmpLays P g cb enc k cf blk off d.size w) (n:Nat) (hn:n=d.size) (hsz:n<1152921504606846976) (hlab:∀ i,i<n→lab d[i]! = i) :
  Calls P 203 #[.slice (some ⟨blk,off,none⟩) n cap,.func (.func g) #[] cb] w fun e w'=>e=.returned (.tuple #[])∧∃ d',SWK enc k w blk off d' w'∧PermIn 0 n d d'∧SortedIn (Y.lx (ltOf cf) lab) 0 n d':=by
 have mixed:=LY.mixed;have tUnit:=LY.tUnit;have aUnit:=LY.aUnit;have zUnit:=LY.zUnit;have vUnit:=LY.vUnit;have tInt:=LY.tInt;have aInt:=LY.aInt;have zInt:=LY.zInt;have vInt:=LY.vInt;have tBool:=LY.tBool;have aBool:=LY.aBool;have zBool:=LY.zBool;have vBool:=LY.vBool;have tUint:=LY.tUint;have aUint:=LY.aUint;have zUint:=LY.zUint;have vUint:=LY.vUint;have tSl:=LY.tSl;have aSl:=LY.aSl;have zSl:=LY.zSl;have vSl:=LY.vSl;have tFn:=LY.tFn;have aFn:=LY.aFn;have zFn:=LY.zFn;have vFn:=LY.vFn
 have uSl:=run_underlying LY.tSl
 have est:∀ args w,(callFunc 228 args).run P w=.ok (.enter 228 args) w:=enters_of Fst (by kernel_rfl) rfl
 have HS:Aside _:=stableV LY Fsw Fro Fin Fsm Fst k aE zE enc cf lab hL g cb blk off cap d w R eg hcmp n hn hsz hlab
 clear hcmp hL hlab hn R
 go_enter Fss,Tryz.ntmps203
 go_wp2_with fail
 refine Calls.mono HS.out ?_
 rintro _ w2 ⟨rfl,d2,s2,p2,r2⟩
 have X:Aside _:=s2
 have Z1:Aside _:=p2
 have Z2:Aside _:=r2
 clear s2 p2 r2 HS
 go_wp2
 go_end0
 exact⟨rfl,d2,X.out,Z1.out,Z2.out⟩
end Go.Proofs.YtnkpgmibhpmdhaaGreat
namespace Go.Proofs.YtnkpgmibhpmdhaaGreat
set_option linter.unusedVariables false
open Go.RowKit
theorem cv_anti (a b:Z.V):Z.cv b a = -Z.cv a b:=(Z.cv_ord a b b).1
theorem cv_lt_lt {a b c:Z.V} (h1:Z.cv a b<0) (h2:Z.cv b c<0):Z.cv a c<0:=by
 have:=(Z.cv_ord a b c).2.2
 omega
theorem cv_le_le {a b c:Z.V} (h1:Z.cv a b≤0) (h2:Z.cv b c≤0):Z.cv a c≤0:=by
 have:=(Z.cv_ord a b c).2.1
 omega
theorem cv_le_lt {a b c:Z.V} (h1:Z.cv a b≤0) (h2:Z.cv b c<0):Z.cv a c<0:=by
 rcases Int.lt_or_le (Z.cv a c) 0 with h|h
 ·exact h
 ·have h3:Z.cv c a≤0:=by have:=cv_anti a c;omega
  have h4:=cv_le_le h3 h1
  have:=cv_anti b c
  omega
theorem cv_lt_le {a b c:Z.V} (h1:Z.cv a b<0) (h2:Z.cv b c≤0):Z.cv a c<0:=by
 rcases Int.lt_or_le (Z.cv a c) 0 with h|h
 ·exact h
 ·have h3:Z.cv c a≤0:=by have:=cv_anti a c;omega
  have h4:=cv_le_le h2 h3
  have:=cv_anti a b
  omega
theorem cv_eq_sym {a b:Z.V} (h:Z.cv a b=0):Z.cv b a=0:=by rw[cv_anti,h];rfl
theorem cv_eq_trans {a b c:Z.V} (h1:Z.cv a b=0) (h2:Z.cv b c=0):Z.cv a c=0:=by
 have h3:=cv_le_le (Int.le_of_eq h1) (Int.le_of_eq h2)
 have h4:=cv_le_le (Int.le_of_eq (cv_eq_sym h2)) (Int.le_of_eq (cv_eq_sym h1))
 have:=cv_anti a c
 omega
theorem cv_left {a b:Z.V} (h:Z.cv a b=0) (c:Z.V):Z.cv a c=Z.cv b c:=by
 rcases Z.cv_range b c with h1|h1|h1
 ·have h2:Z.cv a c<0:=cv_le_lt (Int.le_of_eq h) (by omega)
  rcases Z.cv_range a c with h3|h3|h3<;>omega
 ·rw[cv_eq_trans h h1,h1]
 ·have h2:Z.cv c a<0:=cv_lt_le (b:=b) (by have:=cv_anti b c;omega) (Int.le_of_eq (cv_eq_sym h))
  have h4:=cv_anti c a
  rcases Z.cv_range a c with h3|h3|h3<;>omega
theorem cv_right {a b:Z.V} (h:Z.cv a b=0) (c:Z.V):Z.cv c a=Z.cv c b:=by rw[cv_anti a c,cv_anti b c,cv_left h c]
def Z.Rise (ws:List Z.V):Prop:=ws.Pairwise fun a b=>Z.cv a b<0
def Z.blw (ws:List Z.V) (v:Z.V):Nat:=ws.countP fun x=>decide (Z.cv x v<0)
def Z.has (ws:List Z.V) (v:Z.V):Bool:=ws.any fun x=>decide (Z.cv x v=0)
theorem blw_le (ws:List Z.V) (v:Z.V):Z.blw ws v≤ws.length:=List.countP_le_length
theorem has_iff {ws:List Z.V} {v:Z.V}:Z.has ws v=true↔∃ y∈ws,Z.cv y v=0:=by
 unfold Z.has
 simp
theorem rise_cut:∀ {ws:List Z.V},Z.Rise ws→∀ v,(∀ x∈ws.take (Z.blw ws v),Z.cv x v<0)∧(∀ x∈ws.drop (Z.blw ws v),0≤Z.cv x v)
 | [],_,v=>by simp
 | y :: ws,h,v=>by
  obtain⟨h1,h2⟩:=List.pairwise_cons.1 h
  obtain⟨i1,i2⟩:=rise_cut h2 v
  by_cases hy:Z.cv y v<0
  ·have e:Z.blw (y :: ws) v=Z.blw ws v+1:=by unfold Z.blw;rw[List.countP_cons];simp[hy]
   rw[e,List.take_succ_cons,List.drop_succ_cons]
   refine⟨fun x hx=>?_,i2⟩
   rcases List.mem_cons.1 hx with rfl|hx
   ·exact hy
   ·exact i1 x hx
  ·have hz:Z.blw ws v=0:=by
    unfold Z.blw
    rw[List.countP_eq_zero]
    intro x hx
    simp only[decide_eq_true_eq]
    intro hxv
    exact hy (cv_lt_lt (h1 x hx) hxv)
   have e:Z.blw (y :: ws) v=0:=by
    have e0:Z.blw (y :: ws) v=Z.blw ws v:=by unfold Z.blw;rw[List.countP_cons];simp[hy]
    rw[e0,hz]
   rw[e,List.take_zero,List.drop_zero]
   refine⟨by simp,fun x hx=>?_⟩
   rcases List.mem_cons.1 hx with rfl|hx
   ·omega
   ·have h3:=i2
    rw[hz,List.drop_zero] at h3
    exact h3 x hx
def Z.ins (ws:List Z.V) (x:Z.V):List Z.V:=if Z.has ws x=true then ws else ws.take (Z.blw ws x)++x :: ws.drop (Z.blw ws x)
theorem ins_has {ws:List Z.V} {x:Z.V} (h:Z.has ws x=true):Z.ins ws x=ws:=by unfold Z.ins;rw[if_pos h]
theorem ins_new {ws:List Z.V} {x:Z.V} (h:Z.has ws x=false):Z.ins ws x=ws.take (Z.blw ws x)++x :: ws.drop (Z.blw ws x):=by
 unfold Z.ins;rw[if_neg (by rw[h];decide)]
theorem rise_ins {ws:List Z.V} (h:Z.Rise ws) (x:Z.V):Z.Rise (Z.ins ws x):=by
 cases hx:Z.has ws x with
 | true=>rw[ins_has hx];exact h
 | false =>
  rw[ins_new hx]
  obtain⟨h1,h2⟩:=rise_cut h x
  have h0:∀ y∈ws,Z.cv y x≠0:=fun y hy e=>by
   rw[has_iff.2 ⟨y,hy,e⟩] at hx
   exact absurd hx (by decide)
  have hw:=h
  unfold Z.Rise at hw ⊢
  rw[← List.take_append_drop (Z.blw ws x) ws,List.pairwise_append] at hw
  obtain⟨a1,a2,a3⟩:=hw
  rw[List.pairwise_append,List.pairwise_cons]
  refine⟨a1,⟨fun y hy=>?_,a2⟩,fun y hy z hz=>?_⟩
  ·have h3:=h2 y hy
   have h4:=h0 y (List.mem_of_mem_drop hy)
   have:=cv_anti x y
   omega
  ·rcases List.mem_cons.1 hz with rfl|hz
   ·exact h1 y hy
   ·exact a3 y hy z hz
theorem mem_ins {ws:List Z.V} {x y:Z.V}:y∈Z.ins ws x→y∈ws∨(y=x∧Z.has ws x=false):=by
 cases hx:Z.has ws x with
 | true=>rw[ins_has hx];exact .inl
 | false =>
  rw[ins_new hx]
  intro hy
  rcases List.mem_append.1 hy with hy|hy
  ·exact .inl (List.mem_of_mem_take hy)
  ·rcases List.mem_cons.1 hy with rfl|hy
   ·exact .inr ⟨rfl,rfl⟩
   ·exact .inl (List.mem_of_mem_drop hy)
theorem old_ins {ws:List Z.V} {x y:Z.V} (hy:y∈ws):y∈Z.ins ws x:=by
 cases hx:Z.has ws x with
 | true=>rw[ins_has hx];exact hy
 | false =>
  rw[ins_new hx]
  rw[← List.take_append_drop (Z.blw ws x) ws] at hy
  rcases List.mem_append.1 hy with hy|hy
  ·exact List.mem_append.2 (.inl hy)
  ·exact List.mem_append.2 (.inr (List.mem_cons_of_mem _ hy))
theorem has_ins (ws:List Z.V) (x:Z.V):∃ y∈Z.ins ws x,Z.cv y x=0:=by
 cases hx:Z.has ws x with
 | true=>rw[ins_has hx];exact has_iff.1 hx
 | false =>
  rw[ins_new hx]
  exact⟨x,List.mem_append.2 (.inr (by simp)),Z.cv_refl x⟩
def Z.wds (l:List Z.V):List Z.V:=l.foldl Z.ins []
theorem wds_snoc (l:List Z.V) (x:Z.V):Z.wds (l++[x])=Z.ins (Z.wds l) x:=by simp[Z.wds]
structure Z.Words (l ws:List Z.V):Prop where
 rise:Z.Rise ws
 all:∀ x∈l,∃ y∈ws,Z.cv y x=0
 first:∀ y∈ws,l.find? (fun x=>decide (Z.cv x y=0))=some y
theorem words_nil:Z.Words [] []:=⟨List.Pairwise.nil,by simp,by simp⟩
theorem words_snoc {l ws:List Z.V} (h:Z.Words l ws) (x:Z.V):Z.Words (l++[x]) (Z.ins ws x):=by
 refine⟨rise_ins h.rise x,fun y hy=>?_,fun y hy=>?_⟩
 ·rcases List.mem_append.1 hy with hy|hy
  ·obtain⟨z,hz,hv⟩:=h.all y hy
   exact⟨z,old_ins hz,hv⟩
  ·obtain rfl:y=x:=by simpa using hy
   exact has_ins ws y
 ·rcases mem_ins hy with hy|⟨rfl,hx⟩
  ·rw[List.find?_append,h.first y hy];rfl
  ·have hn:l.find? (fun z=>decide (Z.cv z y=0))=none:=by
    rw[List.find?_eq_none]
    intro z hz
    simp only[decide_eq_true_eq]
    intro e
    obtain⟨u,hu,hv⟩:=h.all z hz
    rw[has_iff.2 ⟨u,hu,cv_eq_trans hv e⟩] at hx
    exact absurd hx (by decide)
   rw[List.find?_append,hn]
   simp[Z.cv_refl]
theorem words_rev:∀ l:List Z.V,Z.Words l.reverse (Z.wds l.reverse)
 | []=>words_nil
 | x :: l=>by
  rw[List.reverse_cons,wds_snoc]
  exact words_snoc (words_rev l) x
theorem words_of (l:List Z.V):Z.Words l (Z.wds l):=by
 have:=words_rev l.reverse
 rwa [List.reverse_reverse] at this
theorem words_mem {l ws:List Z.V} (h:Z.Words l ws) {y:Z.V} (hy:y∈ws):y∈l:=List.mem_of_find?_eq_some (h.first y hy)
theorem rise_ext:∀ {a b:List Z.V},Z.Rise a→Z.Rise b→(∀ x,x∈a↔x∈b)→a=b
 | [],[],_,_,_=>rfl
 | [],y :: b,_,_,h=>absurd ((h y).2 (by simp)) (by simp)
 | x :: a,[],_,_,h=>absurd ((h x).1 (by simp)) (by simp)
 | x :: a,y :: b,ha,hb,h=>by
  obtain⟨a1,a2⟩:=List.pairwise_cons.1 ha
  obtain⟨b1,b2⟩:=List.pairwise_cons.1 hb
  have hxy:x=y:=by
   rcases List.mem_cons.1 ((h x).1 (by simp)) with e|hx
   ·exact e
   ·rcases List.mem_cons.1 ((h y).2 (by simp)) with e|hy
    ·exact e.symm
    ·have h1:=b1 x hx
     have h2:=a1 y hy
     have:=cv_anti x y
     omega
  subst hxy
  congr 1
  refine rise_ext a2 b2 fun z=>⟨fun hz=>?_,fun hz=>?_⟩
  ·rcases List.mem_cons.1 ((h z).1 (List.mem_cons_of_mem _ hz)) with e|h1
   ·subst e
    have:=a1 z hz
    rw[Z.cv_refl] at this
    omega
   ·exact h1
  ·rcases List.mem_cons.1 ((h z).2 (List.mem_cons_of_mem _ hz)) with e|h1
   ·subst e
    have:=b1 z hz
    rw[Z.cv_refl] at this
    omega
   ·exact h1
theorem words_sub {l ws vs:List Z.V} (h:Z.Words l ws) (k:Z.Words l vs) {y:Z.V} (hy:y∈ws):y∈vs:=by
 obtain⟨z,hz,hv⟩:=k.all y (words_mem h hy)
 have e1:=h.first y hy
 have e2:=k.first z hz
 have e3:(fun x=>decide (Z.cv x z=0))=fun x=>decide (Z.cv x y=0):=by
  funext x
  rw[cv_right hv x]
 rw[e3,e1] at e2
 rw[Option.some.inj e2]
 exact hz
theorem words_uniq {l ws vs:List Z.V} (h:Z.Words l ws) (k:Z.Words l vs):ws=vs:=rise_ext h.rise k.rise fun x=>⟨words_sub h k,words_sub k h⟩
theorem rise_place {ws:List Z.V} (h:Z.Rise ws) {i j:Nat} {x y:Z.V} (hi:ws[i]?=some x) (hj:ws[j]?=some y) (hv:Z.cv x y=0):i=j:=by
 obtain⟨hi1,hi2⟩:=List.getElem?_eq_some_iff.1 hi
 obtain⟨hj1,hj2⟩:=List.getElem?_eq_some_iff.1 hj
 have hp:=List.pairwise_iff_getElem.1 h
 rcases Nat.lt_trichotomy i j with h1|h1|h1
 ·have:=hp i j hi1 hj1 h1
  rw[hi2,hj2] at this
  omega
 ·exact h1
 ·have:=hp j i hj1 hi1 h1
  rw[hi2,hj2] at this
  have:=cv_anti x y
  omega
theorem wds_rise (l:List Z.V):Z.Rise (Z.wds l):=(words_of l).rise
theorem wds_len (l:List Z.V):(Z.wds l).length≤l.length:=by
 have key:∀ l:List Z.V,(Z.wds l.reverse).length≤l.length:=by
  intro l
  induction l with
  | nil=>exact Nat.le_refl _
  | cons x l ih =>
   rw[List.reverse_cons,wds_snoc,List.length_cons]
   cases hx:Z.has (Z.wds l.reverse) x with
   | true=>rw[ins_has hx];omega
   | false =>
    rw[ins_new hx,List.length_append,List.length_cons,List.length_take,List.length_drop]
    have:=blw_le (Z.wds l.reverse) x
    omega
 have:=key l.reverse
 rwa [List.reverse_reverse,List.length_reverse] at this
end Go.Proofs.YtnkpgmibhpmdhaaGreat
namespace Go.Proofs.YtnkpgmibhpmdhaaGreat
open Go.RowKit Go.Sort
theorem vcompare_two (ak ai:Int) (az:ByteArray) (bk bi:Int) (bz:ByteArray) (w:World) :
  Calls Tryz.prog 68 #[.agg #[.int .i64 ak,.int .i64 ai,.string az],.agg #[.int .i64 bk,.int .i64 bi,.string bz]] w fun e w'=>e=.returned (.int .i64 (Z.cv ⟨ak,ai,az⟩ ⟨bk,bi,bz⟩))∧∃ a b,w'=(w.alloc a).alloc b:=by
 by_cases hk:ak=bk
 ·subst hk
  have h0:=ci_self ak
  by_cases k1:ak=1
  ·subst k1
   go_enter Tryz.func68,Tryz.ntmps68
   go_wp2_with fail
   refine (cmpi_any _ _ _).mono ?_
   rintro e w1 ⟨rfl,rfl⟩
   rw[h0]
   clear h0
   go_wp2_with fail
   refine (cmpl_any _ _ _).mono ?_
   rintro e w2 ⟨rfl,rfl⟩
   go_wp2
   go_ret
   exact⟨by rw[cv_int];rfl,_,_,rfl⟩
  ·by_cases k2:ak=2
   ·subst k2
    have HA:Hid (IntKind.u64.wrap ai=Z.u ai):=u64_wrap ai
    have HB:Hid (IntKind.u64.wrap bi=Z.u bi):=u64_wrap bi
    have HI:=Z.u_in ai
    have HJ:=Z.u_in bi
    go_enter Tryz.func68,Tryz.ntmps68
    go_wp2_with fail
    refine (cmpi_any _ _ _).mono ?_
    rintro e w1 ⟨rfl,rfl⟩
    rw[h0]
    clear h0
    go_wp2_with fail
    rw[HA.out,HB.out]
    refine (compare_any _ _ _ HI.1 HI.2 HJ.1 HJ.2).mono ?_
    rintro e w2 ⟨rfl,rfl⟩
    go_wp2
    go_ret
    exact⟨by rw[cv_float];rfl,_,_,rfl⟩
   ·by_cases k3:ak=3
    ·subst k3
     go_enter Tryz.func68,Tryz.ntmps68
     go_wp2_with fail
     refine (cmpi_any _ _ _).mono ?_
     rintro e w1 ⟨rfl,rfl⟩
     rw[h0]
     clear h0
     go_wp2_with fail
     refine (strcmp_any _ _ _).mono ?_
     rintro e w2 ⟨rfl,rfl⟩
     go_wp2
     go_ret
     exact⟨by rw[cv_text];rfl,_,_,rfl⟩
    ·go_enter Tryz.func68,Tryz.ntmps68
     go_wp2_with fail
     refine (cmpi_any _ _ _).mono ?_
     rintro e w1 ⟨rfl,rfl⟩
     rw[h0]
     clear h0
     go_wp2
     go_ret
     exact⟨by rw[cv_else k1 k2 k3];rfl,_,_,rfl⟩
 ·have h0:=ci_ne hk
  have HV:Hid (Z.cv ⟨ak,ai,az⟩ ⟨bk,bi,bz⟩=Z.ci ak bk):=cv_kind hk
  go_enter Tryz.func68,Tryz.ntmps68
  go_wp2_with fail
  refine (cmpi_any _ _ _).mono ?_
  rintro e w1 ⟨rfl,rfl⟩
  obtain⟨c,hc⟩:∃ c,Z.ci ak bk=c:=⟨_,rfl⟩
  rw[hc] at h0 HV ⊢
  clear hc
  go_wp2
  go_ret
  exact⟨by rw[HV.out];rfl,_,_,rfl⟩
def Z.o:Z.V:=⟨0,0,⟨#[]⟩⟩
def encV (x:Z.V):List Value:=[.int .i64 x.k,.int .i64 x.i,.string x.s]
def encL (l:List Z.V) (i:Nat):List Value:=encV (l.getD i Z.o)
def cfL (l:List Z.V) (i j:Nat):Int:=Z.cv (l.getD i Z.o) (l.getD j Z.o)
theorem cfL_swo (l:List Z.V):SWO (ltOf (cfL l)):=by
 refine⟨fun x=>decide_eq_false ?_,fun x y z h1 h2=>decide_eq_true (cv_lt_lt (of_decide_eq_true h1) (of_decide_eq_true h2)),fun x y z h1 h2=>decide_eq_false ?_⟩
 ·have:=cv_anti (l.getD x Z.o) (l.getD x Z.o)
  unfold cfL;omega
 ·have h1:=of_decide_eq_false h1
  have h2:=of_decide_eq_false h2
  unfold cfL at *
  have e1:=cv_anti (l.getD x Z.o) (l.getD y Z.o)
  have e2:=cv_anti (l.getD y Z.o) (l.getD z Z.o)
  have e3:=cv_anti (l.getD x Z.o) (l.getD z Z.o)
  have:=cv_le_le (a:=l.getD z Z.o) (b:=l.getD y Z.o) (c:=l.getD x Z.o) (by omega) (by omega)
  omega
theorem two_grow (w:World) (a b:Obj):(w.alloc a).alloc b=grow (w.drewN 0) #[a,b]:=by
 rw[alloc_eq_grow,alloc_eq_grow,grow_grow];rfl
theorem cmp_lays (l:List Z.V) (blk off size:Nat) (w:World):CmpLays Tryz.prog 68 #[] (encL l) 3 (cfL l) blk off size w:=fun m os dk hs x y=>by
 refine (vcompare_two (l.getD x Z.o).k (l.getD x Z.o).i (l.getD x Z.o).s (l.getD y Z.o).k (l.getD y Z.o).i (l.getD y Z.o).s _).mono ?_
 rintro e w' ⟨rfl,a,b,rfl⟩
 exact⟨rfl,0,#[a,b],two_grow _ a b⟩
def rd (l:List Z.V) (dk:Array Nat):List Z.V:=dk.toList.map fun i=>l.getD i Z.o
theorem rd_length (l:List Z.V) (dk:Array Nat):(rd l dk).length=dk.size:=by simp[rd]
theorem encL_length (l:List Z.V) (i:Nat):(encL l i).length=3:=rfl
theorem rd_get (l:List Z.V) (dk:Array Nat) (i:Nat) (h:i<dk.size):(rd l dk)[i]?=some (l.getD dk[i]! Z.o):=by
 simp[rd,h]
theorem rd_range (l:List Z.V):rd l (Array.range l.length)=l:=by
 apply List.ext_getElem?
 intro i
 by_cases h:i<l.length
 ·rw[rd_get _ _ _ (by simpa using h),List.getElem?_eq_getElem h]
  simp[h]
 ·rw[List.getElem?_eq_none (by rw[rd_length];simp;omega),List.getElem?_eq_none (by omega)]
theorem flat_cells (l:List Z.V) (dk:Array Nat):(flatK (encL l) 3 dk).toList=cellsV (rd l dk):=by
 apply List.ext_getElem?
 intro t
 by_cases h:t<dk.size*3
 ·have hx:=rd_get l dk (t / 3) (by omega)
  obtain⟨g0,g1,g2⟩:=cellsV_get _ _ _ hx
  have e:(flatK (encL l) 3 dk).toList[t]?=some (flatK (encL l) 3 dk)[t]! := by
   rw[Array.getElem?_toList,Array.getElem?_eq_getElem (by simpa using h),getElem!_pos _ t (by simpa using h)]
  rw[e,get_flatK _ _ _ _ h]
  have hr:t=t / 3*3∨t=t / 3*3+1∨t=t / 3*3+2:=by omega
  have c:∀ q,t / 3=q→(cellsV (rd l dk))[q*3]?=some (.int .i64 (l.getD dk[q]! Z.o).k)∧(cellsV (rd l dk))[q*3+1]?=some (.int .i64 (l.getD dk[q]! Z.o).i)∧(cellsV (rd l dk))[q*3+2]?=some (.string (l.getD dk[q]! Z.o).s):=fun q hq=>by subst hq;exact⟨g0,g1,g2⟩
  obtain⟨q,hq⟩:∃ q,t / 3=q:=⟨_,rfl⟩
  obtain⟨c0,c1,c2⟩:=c q hq
  rw[hq] at hr ⊢
  rcases hr with hr|hr|hr
  ·rw[hr,c0,show q*3%3=0 by omega];rfl
  ·rw[hr,c1,show (q*3+1)%3=1 by omega];rfl
  ·rw[hr,c2,show (q*3+2)%3=2 by omega];rfl
 ·rw[List.getElem?_eq_none (by simp;omega),List.getElem?_eq_none (by rw[cellsV_length,rd_length];omega)]
theorem row_of_own {w:World} {B g cap:Nat} {l:List Z.V} (h:OwnV w B (.slice (some ⟨g,0,none⟩) l.length cap) l):RowK (encL l) 3 w g 0 (Array.range l.length):=by
 have h0:=h
 rcases h.2 with ⟨h1,h2⟩|⟨g',cap',cur,hv,hg,hh,hc,hm,hsz,ht⟩
 ·cases h1
 ·injection hv with e1 e2 e3
  injection Option.some.inj e1 with e4 e5 e6
  subst e4
  refine⟨encL_length l,fun x v hv=>?_,fun j hj=>?_,lt_of_block hh⟩
  ·simp[encL,encV] at hv
   rcases hv with rfl|rfl|rfl<;>rfl
  ·have hj':j<l.length*3:=by simpa using hj
   have hlen:l.length*3≤cur.size:=by rw[hsz];omega
   refine⟨?_,by simp[World.frozen?,hh]⟩
   have e:cur.toList[j]?=(cellsV l)[j]?:=by
    rw[← ht,List.getElem?_take_of_lt hj']
   have e2:(flatK (encL l) 3 (Array.range l.length)).toList[j]?=(cellsV l)[j]?:=by rw[flat_cells,rd_range]
   have e3:(flatK (encL l) 3 (Array.range l.length)).toList[j]?=some (flatK (encL l) 3 (Array.range l.length))[j]! := by
    rw[Array.getElem?_toList,Array.getElem?_eq_getElem hj,getElem!_pos _ j hj]
   simp only[World.cell?,hh,Nat.zero_add,Option.isSome_none,Bool.false_eq_true,if_false,id]
   rw[← Array.getElem?_toList,e,← e2,e3]
theorem own_sorted {w w2:World} {B g cap:Nat} {l l0:List Z.V} {dk:Array Nat} (h:OwnV w B (.slice (some ⟨g,0,none⟩) l0.length cap) l0) (hs:dk.size=l0.length) (hw:SWK (encL l) 3 w g 0 dk w2) :
  OwnV w2 B (.slice (some ⟨g,0,none⟩) l0.length cap) (rd l dk)∧Kept (fun b=>b=g) w w2:=by
 obtain⟨m,os,rfl⟩:=hw
 rcases h.2 with ⟨h1,h2⟩|⟨g',cap',cur,hv,hg,hh,hc,hm,hsz,ht⟩
 ·cases h1
 ·injection hv with e1 e2 e3
  injection Option.some.inj e1 with e4 e5 e6
  subst e4;subst e3
  have hlt:g<w.heap.size:=lt_of_block hh
  have hF:(flatK (encL l) 3 dk).size=l0.length*3:=by simp[hs]
  have hlen:l0.length*3≤cur.size:=by rw[hsz];omega
  have hblk:(sortWorldK (encL l) 3 w g 0 m dk os).heap[g]?=some (.cells (putCells id 0 (flatK (encL l) 3 dk) cur) 25 (0,0)):=by
   unfold sortWorldK putRowK
   have:(grow (putRow id (Sort.ahead w m) g 0 (flatK (encL l) 3 dk)) os).heap[g]?=(putRow id (Sort.ahead w m) g 0 (flatK (encL l) 3 dk)).heap[g]?:=by
    simp only[grow];rw[Array.getElem?_append_left (by simpa using hlt)]
   rw[this]
   simp[putRow,mapBlock,Sort.ahead,Array.getElem?_modify,hh,onCells]
  refine⟨⟨by rw[cellsV_length],.inr ⟨g,cap,_,by rw[rd_length,hs],hg,hblk,by rw[rd_length,hs];exact hc,hm,by simp[putCells,hsz],?_⟩⟩,rfl,rfl,rfl,?_,fun b hb hne=>?_⟩
  ·rw[rd_length,hs,← flat_cells]
   apply List.ext_getElem?
   intro j
   by_cases hj:j<l0.length*3
   ·rw[List.getElem?_take_of_lt hj,Array.getElem?_toList,Array.getElem?_toList]
    have hj2:j<(flatK (encL l) 3 dk).size:=by omega
    simp only[putCells,Array.getElem?_mapIdx]
    rw[Array.getElem?_eq_getElem (show j<cur.size by omega),Option.map_some,if_pos ⟨by omega,by omega⟩,Array.getElem?_eq_getElem hj2,Nat.sub_zero,getElem!_pos _ j hj2];rfl
   ·rw[List.getElem?_take_eq_none (by omega),List.getElem?_eq_none (by simp;omega)]
  ·unfold sortWorldK putRowK;rw[size_grow,size_putRow];show w.heap.size≤w.heap.size+_;omega
  ·unfold sortWorldK putRowK
   have:(grow (putRow id (Sort.ahead w m) g 0 (flatK (encL l) 3 dk)) os).heap[b]?=(putRow id (Sort.ahead w m) g 0 (flatK (encL l) 3 dk)).heap[b]?:=by
    simp only[grow];rw[Array.getElem?_append_left (by simpa using hb)]
   rw[this]
   simp[putRow,mapBlock,Sort.ahead,Array.getElem?_modify,Ne.symm hne]
end Go.Proofs.YtnkpgmibhpmdhaaGreat
namespace Go.Proofs.YtnkpgmibhpmdhaaGreat
set_option linter.unusedVariables false
open Go.RowKit
theorem rparts_any (b:Int) (w:World) (h0:0≤b) (h1:b<18446744073709551616) :
  Calls Tryz.prog 121 #[.int .u64 b] w fun e w'=>e=.returned (.tuple #[.bool (decide (9223372036854775808≤b)),.int .u64 (b / 4503599627370496%2048),.int .u64 (b%4503599627370496)])∧w'=w:=by
 go_enter Tryz.func121,Tryz.ntmps121
 go_wp2
 go_ret3
 exact⟨rfl,rfl⟩
theorem risnan_any (b:Int) (w:World) (h0:0≤b) (h1:b<18446744073709551616) :
  Calls Tryz.prog 169 #[.int .u64 b] w fun e w'=>e=.returned (.bool (D.isN b))∧w'=w:=by
 go_enter Tryz.func169,Tryz.ntmps169
 go_wp2_with fail
 refine (rparts_any b w h0 h1).mono ?_
 rintro e w1 ⟨rfl,rfl⟩
 obtain⟨E,hE⟩:∃ E,b / 4503599627370496%2048=E:=⟨_,rfl⟩
 obtain⟨F,hF⟩:∃ F,b%4503599627370496=F:=⟨_,rfl⟩
 rw[hE,hF]
 have hI:Hid (D.isN b=((E==2047)&&(F != 0))):=by show _=_;unfold D.isN;rw[hE,hF]
 clear hE hF
 cases hb:(E==2047) with
 | false =>
  go_wp2
  go_ret
  exact⟨by rw[hI.out,hb];rfl,rfl⟩
 | true =>
  go_wp2
  go_ret
  exact⟨by rw[hI.out,hb];rfl,rfl⟩
theorem rclean_any (b:Int) (w:World) (h0:0≤b) (h1:b<18446744073709551616) :
  Calls Tryz.prog 120 #[.int .u64 b] w fun e w'=>e=.returned (.int .u64 (D.cl b))∧w'=w:=by
 go_enter Tryz.func120,Tryz.ntmps120
 go_wp2_with fail
 refine (risnan_any b w h0 h1).mono ?_
 rintro e w1 ⟨rfl,rfl⟩
 cases hb:D.isN b with
 | false =>
  have HC:Hid (D.cl b=b):=D.cl_num hb
  go_wp2
  go_ret
  exact⟨by rw[HC.out];rfl,rfl⟩
 | true =>
  have HC:Hid (D.cl b=9221120237041090560):=D.cl_nan hb
  go_wp2
  go_ret
  exact⟨by rw[HC.out];rfl,rfl⟩
theorem rkey_any (b:Int) (w:World) (h0:0≤b) (h1:b<18446744073709551616) :
  Calls Tryz.prog 78 #[.int .u64 b] w fun e w'=>e=.returned (.int .u64 (D.ky b))∧w'=w:=by
 have hc:=D.cl_in (b:=b) ⟨h0,h1⟩
 go_enter Tryz.func78,Tryz.ntmps78
 go_wp2_with fail
 refine (rclean_any b w h0 h1).mono ?_
 rintro e w1 ⟨rfl,rfl⟩
 obtain⟨c,hce⟩:∃ c,D.cl b=c:=⟨_,rfl⟩
 rw[hce] at hc ⊢
 have HK:Hid (D.ky b=if 9223372036854775808≤c then 18446744073709551615 - c else c+9223372036854775808):=by show _=_;unfold D.ky;rw[hce]
 obtain⟨hc0,hc1⟩:=hc
 clear hce
 by_cases hs:9223372036854775808≤c
 ·go_wp2_with fail
  refine (rparts_any c w1 hc0 hc1).mono ?_
  rintro e w2 ⟨rfl,rfl⟩
  have hd:decide (9223372036854775808≤c)=true:=by simp[hs]
  rw[hd]
  go_wp2
  go_ret
  exact⟨by rw[HK.out,if_pos hs];rfl,rfl⟩
 ·go_wp2_with fail
  refine (rparts_any c w1 hc0 hc1).mono ?_
  rintro e w2 ⟨rfl,rfl⟩
  have hd:decide (9223372036854775808≤c)=false:=by simp;omega
  rw[hd]
  go_wp2
  go_ret
  exact⟨by rw[HK.out,if_neg (by omega)];rfl,rfl⟩
theorem rcompare_any (a b:Int) (w:World) (h0:0≤a) (h1:a<18446744073709551616) (h2:0≤b) (h3:b<18446744073709551616) :
  Calls Tryz.prog 39 #[.int .u64 a,.int .u64 b] w fun e w'=>e=.returned (.int .i64 (D.cp a b))∧w'=w:=by
 have hk:=fun w=>rkey_any a w h0 h1
 have hl:=fun w=>rkey_any b w h2 h3
 have HC:Hid (D.cp a b=if D.ky a<D.ky b then -1 else if D.ky b<D.ky a then 1 else 0):=by show _=_;rfl
 obtain⟨x,hx⟩:∃ x,D.ky a=x:=⟨_,rfl⟩
 obtain⟨y,hy⟩:∃ y,D.ky b=y:=⟨_,rfl⟩
 simp only[hx] at hk HC
 simp only[hy] at hl HC
 have HK:Hid (∀ w,Calls Tryz.prog 78 #[.int .u64 a] w fun e w'=>e=.returned (.int .u64 x)∧w'=w):=hk
 have HL:Hid (∀ w,Calls Tryz.prog 78 #[.int .u64 b] w fun e w'=>e=.returned (.int .u64 y)∧w'=w):=hl
 clear hk hl hx hy
 generalize D.cp a b=cpv at HC ⊢
 go_enter Tryz.func39,Tryz.ntmps39
 go_wp2_with fail
 refine (HK.out _).mono ?_
 rintro e w1 ⟨rfl,rfl⟩
 go_wp2_with fail
 refine (HL.out _).mono ?_
 rintro e w2 ⟨rfl,rfl⟩
 by_cases c1:x<y
 ·have HV:Hid (cpv = -1):=by show _=_;rw[HC.out,if_pos c1]
  go_wp2
  go_ret
  exact⟨by rw[HV.out];rfl,rfl⟩
 ·have HX:Hid (cpv=if y<x then 1 else 0):=by show _=_;rw[HC.out,if_neg c1]
  go_wp2_with fail
  refine (HK.out _).mono ?_
  rintro e w3 ⟨rfl,rfl⟩
  go_wp2_with fail
  refine (HL.out _).mono ?_
  rintro e w4 ⟨rfl,rfl⟩
  by_cases c2:y<x
  ·have HV:Hid (cpv=1):=by show _=_;rw[HX.out,if_pos c2]
   go_wp2
   go_ret
   exact⟨by rw[HV.out];rfl,rfl⟩
  ·have HV:Hid (cpv=0):=by show _=_;rw[HX.out,if_neg c2]
   go_wp2
   go_ret
   exact⟨by rw[HV.out];rfl,rfl⟩
end Go.Proofs.YtnkpgmibhpmdhaaGreat

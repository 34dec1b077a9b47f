/- Contracts and plain facts, one behind the other: YC YV3 YV4a YV4b -/
import Derived.Test.YtnkpgmibhpmdhaaGreatBeAK
namespace Go.Proofs.YtnkpgmibhpmdhaaGreat
set_option linter.unusedVariables false
open Go.Sort
namespace Y
variable {α : Type} [Inhabited α] {lt : α → α → Bool} {lab : α → Nat}
def Asc (lab:α→Nat) (a b:Nat) (d:Array α):Prop:=∀ x y,a≤x→x<y→y<b→lab d[x]! < lab d[y]!
def Top (lab:α→Nat) (a j i:Nat) (d:Array α):Prop:=∀ q,a≤q→q≤i→q≠j→lab d[q]! < lab d[j]!
theorem Top.test {a j i:Nat} {d:Array α} (h:Top lab a (j+1) i d) (haj:a≤j) (hji:j+1≤i):lx lt lab d[j+1]! d[j]! = lt d[j+1]! d[j]! := lx_right (h j haj (by omega) (by omega))
theorem Top.step {a j i:Nat} {d:Array α} (h:Top lab a (j+1) i d) (haj:a≤j) (hji:j+1≤i) (hsz:i<d.size):Top lab a j i (swp d (j+1) j):=by
 intro q h1 h2 h3
 have g:=swp_get d (show j+1<d.size by omega) (show j<d.size by omega)
 rw[g,g,if_neg h3,if_pos rfl]
 by_cases hq:q=j+1
 ·rw[if_pos hq];exact h j haj (by omega) (by omega)
 ·rw[if_neg hq];exact h q h1 h2 hq
theorem top_start {a i b:Nat} {d dk:Array α} (hasc:Asc lab a b d) (hp:PermIn a i d dk) (hib:i<b) (hai:a<i) (hb:b≤d.size):Top lab a i i dk:=by
 intro q h1 h2 h3
 have e:dk[i]! = d[i]! := hp.2.1 i (Or.inr (Nat.le_refl _))
 rw[e]
 exact permIn_all d dk a i (fun z=>lab z<lab d[i]!) (by omega) hp (fun x x1 x2=>hasc x i x1 x2 hib) q h1 (by omega)
theorem ins_start {a i:Nat} {d:Array α} (h:SortedIn (lx lt lab) a i d):Ins (lx lt lab) a i i d:=⟨fun p q hap hpq hqi _ hq=>h p q hap hpq (by omega),fun q h1 h2=>by omega⟩
structure Bl (lt:α→α→Bool) (lab:α→Nat) (s lo hi:Nat) (d:Array α):Prop where
 srt:∀ i j,lo≤i→i<j→j<hi→i / s=j / s→lx lt lab d[j]! d[i]! = false
 lb:∀ i,lo≤i→i<hi→lab d[i]! / s=i / s
theorem Bl.none (s lo:Nat) (d:Array α):Bl lt lab s lo lo d:=⟨fun i j h1 h2 h3=>by omega,fun i h1 h2=>by omega⟩
theorem div_in {s q i:Nat} (h1:q*s≤i) (h2:i<q*s+s):i / s=q:=by
 have hs:0<s:=by omega
 exact Nat.div_eq_of_lt_le h1 (by rw[Nat.add_mul,Nat.one_mul];exact h2)
theorem Bl.join {s lo hi q:Nat} {d:Array α} (h1:Bl lt lab s lo (q*s) d) (h2:Bl lt lab s (q*s) hi d) (hs:0<s):Bl lt lab s lo hi d:=by
 refine⟨fun i j k1 k2 k3 k4=>?_,fun i k1 k2=>?_⟩
 ·by_cases hj:j<q*s
  ·exact h1.srt i j k1 k2 hj k4
  ·by_cases hi':i<q*s
   ·exfalso
    have e1:i / s<q:=(Nat.div_lt_iff_lt_mul hs).2 hi'
    have e2:q≤j / s:=(Nat.le_div_iff_mul_le hs).2 (by omega)
    omega
   ·exact h2.srt i j (by omega) k2 k3 k4
 ·by_cases hi':i<q*s
  ·exact h1.lb i k1 hi'
  ·exact h2.lb i (by omega) k2
theorem Bl.keep {s lo hi a b:Nat} {d d':Array α} (h:Bl lt lab s lo hi d) (hp:PermIn a b d d') (hd:hi≤a∨b≤lo):Bl lt lab s lo hi d':=by
 refine⟨fun i j k1 k2 k3 k4=>?_,fun i k1 k2=>?_⟩
 ·rw[hp.2.1 i (by omega),hp.2.1 j (by omega)];exact h.srt i j k1 k2 k3 k4
 ·rw[hp.2.1 i (by omega)];exact h.lb i k1 k2
theorem Bl.cut {s lo hi hi' lo':Nat} {d:Array α} (h:Bl lt lab s lo hi d) (h1:lo≤lo') (h2:hi'≤hi):Bl lt lab s lo' hi' d :=
 ⟨fun i j k1 k2 k3 k4=>h.srt i j (by omega) k2 (by omega) k4,fun i k1 k2=>h.lb i (by omega) (by omega)⟩
theorem bl_block {s q b:Nat} {d d':Array α} (hb:b≤q*s+s) (hbs:b≤d.size) (hp:PermIn (q*s) b d d') (hs:SortedIn (lx lt lab) (q*s) b d') (hl:∀ i,q*s≤i→i<b→lab d[i]! / s=q):Bl lt lab s (q*s) b d':=by
 refine⟨fun i j k1 k2 k3 _=>hs i j k1 k2 k3,fun i k1 k2=>?_⟩
 rw[div_in k1 (by omega)]
 exact permIn_all d d' (q*s) b (fun z=>lab z / s=q) hbs hp hl i k1 k2
theorem bl_left {s q n:Nat} {d:Array α} (h:Bl lt lab s (q*(2*s)) n d) (hn:q*(2*s)+s≤n):SortedIn (lx lt lab) (q*(2*s)) (q*(2*s)+s) d:=by
 intro i j k1 k2 k3
 have e:q*(2*s)=(2*q)*s:=by rw[Nat.mul_comm 2 q,Nat.mul_assoc]
 exact h.srt i j k1 k2 (by omega) (by rw[div_in (q:=2*q) (by omega) (by omega),div_in (q:=2*q) (by omega) (by omega)])
theorem bl_right {s q b n:Nat} {d:Array α} (h:Bl lt lab s (q*(2*s)) n d) (hb:b≤q*(2*s)+2*s) (hbn:b≤n):SortedIn (lx lt lab) (q*(2*s)+s) b d:=by
 intro i j k1 k2 k3
 have e:q*(2*s)+s=(2*q+1)*s:=by rw[Nat.add_mul,Nat.mul_comm 2 q,Nat.mul_assoc,Nat.one_mul]
 exact h.srt i j (by omega) k2 (by omega) (by rw[div_in (q:=2*q+1) (by omega) (by omega),div_in (q:=2*q+1) (by omega) (by omega)])
theorem bl_cross {s q b n:Nat} {d:Array α} (h:Bl lt lab s (q*(2*s)) n d) (hs:0<s) (hb:b≤q*(2*s)+2*s) (hbn:b≤n):Cross lt lab (q*(2*s)) (q*(2*s)+s) b d:=by
 intro x y k1 k2 k3 k4
 have e:q*(2*s)=(2*q)*s:=by rw[Nat.mul_comm 2 q,Nat.mul_assoc]
 have e2:(2*q+1)*s=(2*q)*s+s:=by rw[Nat.add_mul,Nat.one_mul]
 have l1:=h.lb x k1 (by omega)
 have l2:=h.lb y (by omega) (by omega)
 rw[div_in (q:=2*q) (i:=x) (by omega) (by omega)] at l1
 rw[div_in (q:=2*q+1) (i:=y) (by omega) (by omega)] at l2
 have g1:lab d[x]! < (2*q+1)*s:=(Nat.div_lt_iff_lt_mul hs).1 (by omega)
 have g2:(2*q+1)*s≤lab d[y]! := (Nat.le_div_iff_mul_le hs).1 (by omega)
 omega
theorem half_div (x s:Nat):x / (2*s)=x / s / 2:=by rw[Nat.mul_comm,Nat.div_div_eq_div_mul]
theorem bl_merged {s q b n:Nat} {d d':Array α} (h:Bl lt lab s (q*(2*s)) n d) (hs:0<s) (hb:b≤q*(2*s)+2*s) (hbn:b≤n) (hbs:b≤d.size) (hp:PermIn (q*(2*s)) b d d') (hst:SortedIn (lx lt lab) (q*(2*s)) b d'):Bl lt lab (2*s) (q*(2*s)) b d' :=
 bl_block hb hbs hp hst fun i k1 k2=>by
  rw[half_div,h.lb i k1 (by omega),← half_div];exact div_in k1 (by omega)
theorem bl_lone {s q n:Nat} {d:Array α} (h:Bl lt lab s (q*(2*s)) n d) (hn:n≤q*(2*s)+s):Bl lt lab (2*s) (q*(2*s)) n d:=by
 have e:q*(2*s)=(2*q)*s:=by rw[Nat.mul_comm 2 q,Nat.mul_assoc]
 refine⟨fun i j k1 k2 k3 _=>h.srt i j k1 k2 k3 (by rw[div_in (q:=2*q) (by omega) (by omega),div_in (q:=2*q) (by omega) (by omega)]),fun i k1 k2=>by rw[half_div,h.lb i k1 k2,← half_div]⟩
theorem bl_all {s n:Nat} {d:Array α} (h:Bl lt lab s 0 n d) (hn:n≤s):SortedIn (lx lt lab) 0 n d:=fun i j k1 k2 k3=>h.srt i j k1 k2 k3 (by rw[Nat.div_eq_of_lt (by omega),Nat.div_eq_of_lt (by omega)])
end Y
end Go.Proofs.YtnkpgmibhpmdhaaGreat
namespace Go.Proofs.YtnkpgmibhpmdhaaGreat
open Go.Shelf Go.RowKit Go.Lib Go.Sort
set_option maxRecDepth 1000000
set_option linter.unusedVariables false
variable {P : Program} {α : Type} [Inhabited α]
set_option maxHeartbeats 16000000 in
theorem insV (LY:LayV P) (Fin:P.funcs[236]?=some Tryz.f236) (k:Nat) (aE:∀ w,(isAgg 25).run P w=.ok true w) (zE:∀ w,(Go.sizeOf 25).run P w=.ok k w) (enc:α→List Value) (cf:α→α→Int) (lab:α→Nat) (hL:SWO (Y.lx (ltOf cf) lab)) (g:Nat) (cb:Array Value) (blk off cap:Nat) (d0:Array α) (w0:World)
  (R:RowK enc k w0 blk off d0) (eg:∀ args w,(callFunc g args).run P w=.ok (.enter g args) w) (hcmp:CmpLays P g cb enc k cf blk off d0.size w0) (a b:Nat) (d:Array α) (w:World) (hs:d0.size=d.size) (S:SWK enc k w0 blk off d w) (hab:a≤b) (hb:b≤d.size) (hsz:d.size<4611686018427387904) (hasc:Y.Asc lab a b d) :
  Calls P 236 #[.slice (some ⟨blk,off,none⟩) d.size cap,.int .i64 a,.int .i64 b,.func (.func g) #[] cb] w fun e w'=>e=.returned (.tuple #[])∧∃ d',SWK enc k w0 blk off d' w'∧PermIn a b d d'∧SortedIn (Y.lx (ltOf cf) lab) a b d':=by
 have mixed:=LY.mixed;have tUnit:=LY.tUnit;have aUnit:=LY.aUnit;have zUnit:=LY.zUnit;have vUnit:=LY.vUnit;have tInt:=LY.tInt;have aInt:=LY.aInt;have zInt:=LY.zInt;have vInt:=LY.vInt;have tBool:=LY.tBool;have aBool:=LY.aBool;have zBool:=LY.zBool;have vBool:=LY.vBool;have tUint:=LY.tUint;have aUint:=LY.aUint;have zUint:=LY.zUint;have vUint:=LY.vUint;have tSl:=LY.tSl;have aSl:=LY.aSl;have zSl:=LY.zSl;have vSl:=LY.vSl;have tFn:=LY.tFn;have aFn:=LY.aFn;have zFn:=LY.zFn;have vFn:=LY.vFn
 have uSl:=run_underlying LY.tSl
 have HC:Aside _:=hcmp
 have HL:Aside (SWO (Y.lx (ltOf cf) lab)):=hL
 have HX:Aside (Y.Asc lab a b d):=hasc
 have S0:Aside (SWK enc k w0 blk off d w):=S
 have P0:Aside (PermIn a (a+1) d d):=permIn_refl d a (a+1)
 have R0:Aside (SortedIn (Y.lx (ltOf cf) lab) a (a+1) d):=fun i j h1 h2 h3=>by omega
 clear hcmp hL hasc S
 have ra1:IntKind.i64.wrap ((a:Int)+1)=(a:Int)+1:=by rw[IntKind.wrap_i64];omega
 go_enter Fin,Tryz.ntmps236
 go_wp2
 go_loopg [8] (b - a) (fun g1 vi wr=>∃ (i:Nat) (dk:Array α),vi=.int .i64 i∧a<i∧(i≤b∨b≤a)∧b - i≤g1∧dk.size=d.size∧Aside (SWK enc k w0 blk off dk wr)∧Aside (PermIn a i d dk)∧Aside (SortedIn (Y.lx (ltOf cf) lab) a i dk)∧Aside (b≤a→dk=d))
 case atStart=>exact⟨a+1,d,by first|rfl|go_num,by omega,by omega,by omega,rfl,S0,P0,R0,fun _=>rfl⟩
 case round =>
  clear S0 P0 R0
  obtain⟨i,dk,rfl,hai,hib,hg1,hsk,S1,P1,R1,E1⟩:=hrel
  by_cases hlt:(i:Int)<(b:Int)
  ·have hlt2:i<b:=by omega
   have I0:Aside (Ins (Y.lx (ltOf cf) lab) a i i dk):=Y.ins_start R1.out
   have T0:Aside (Y.Top lab a i i dk):=Y.top_start HX.out P1.out hlt2 hai hb
   have Q0:Aside (PermIn a (i+1) d dk):=permIn_mono d dk a i a (i+1) (Nat.le_refl _) (by omega) (by omega) P1.out
   clear P1 R1 E1
   go_wp2
   go_loopg [9] i (fun g2 vj wr2=>∃ (j:Nat) (dj:Array α),vj=.int .i64 j∧a≤j∧j≤i∧j≤g2∧dj.size=d.size∧Aside (SWK enc k w0 blk off dj wr2)∧Aside (PermIn a (i+1) d dj)∧Aside (Ins (Y.lx (ltOf cf) lab) a j i dj)∧Aside (Y.Top lab a j i dj))
   case atStart=>exact⟨i,dk,rfl,by omega,Nat.le_refl _,Nat.le_refl _,hsk,S1,Q0,I0,T0⟩
   case round =>
    clear S1 Q0 I0 T0
    obtain⟨j,dj,rfl,haj,hji,hg2,hsj,S2,Q2,I2,T2⟩:=hrel
    by_cases hja:(a:Int)<(j:Int)
    ·obtain⟨r,hr⟩:∃ r,r+1=j:=⟨j - 1,by omega⟩
     have zr:(j:Int) - 1=(r:Int):=by omega
     have hjad:decide ((j:Int)>(a:Int))=true:=decide_eq_true hja
     cases hlv:ltOf cf dj[j]! dj[r]! with
     | true =>
      have ea1:((j:Int)).toNat=j:=by omega
      have pa1:(0:Int)≤(j:Int):=by omega
      have ba1:(j:Int)<(d.size:Int):=by omega
      have ra1:IntKind.i64.wrap ((j:Int))=(j:Int):=by rw[IntKind.wrap_i64];omega
      have ec1:((r:Int)).toNat=r:=by omega
      have pc1:(0:Int)≤(r:Int):=by omega
      have bc1:(r:Int)<(d.size:Int):=by omega
      have rc1:IntKind.i64.wrap ((r:Int))=(r:Int):=by rw[IntKind.wrap_i64];omega
      obtain⟨x1,hx1⟩:∃ x,x=dj[j]! := ⟨_,rfl⟩
      obtain⟨y1,hy1⟩:∃ x,x=dj[r]! := ⟨_,rfl⟩
      have l1a:=S2.out.ld R (by omega) P (j) (by omega)
      have l1b:=S2.out.ld R (by omega) P (r) (by omega)
      rw[← hx1] at l1a
      rw[← hy1] at l1b
      have hc1:=S2.out.cmp HC.out (by omega) x1 y1
      have hv1:cf x1 y1<0:=by rw[hx1,hy1];exact of_decide_eq_true hlv
      have hd1:decide (cf x1 y1<0)=true:=decide_eq_true hv1
      clear hx1 hy1
      go_wp2_with fail
      go_quiet_grown (first|(go_at_fn g;refine Calls.grown_of (hc1 _ _)))
      have S3:Aside (SWK enc k w0 blk off dj (grow (wr.drewN nq) osq)):=S2.out.grown nq osq
      clear l1a l1b hc1 S2
      generalize grow (wr.drewN nq) osq=w3 at S3 ⊢
      clear nq osq
      clear ea1 ec1
      go_wp2_with fail
      have ea2:((j:Int)).toNat=j:=by omega
      have pa2:(0:Int)≤(j:Int):=by omega
      have ba2:(j:Int)<(d.size:Int):=by omega
      have ra2:IntKind.i64.wrap ((j:Int))=(j:Int):=by rw[IntKind.wrap_i64];omega
      have ec2:((r:Int)).toNat=r:=by omega
      have pc2:(0:Int)≤(r:Int):=by omega
      have bc2:(r:Int)<(d.size:Int):=by omega
      have rc2:IntKind.i64.wrap ((r:Int))=(r:Int):=by rw[IntKind.wrap_i64];omega
      have S4:Aside (SWK enc k w0 blk off (swp dj (j) (r)) ((w3.drew.setCells blk (off+(j)*k) (enc dj[r]!)).setCells blk (off+(r)*k) (enc dj[j]!))):=S3.out.swapped R (j) (r) (by omega) (by omega)
      have l2a:=S3.out.ld1 R (by omega) P (j) (by omega)
      have l2b:=S3.out.ld1 R (by omega) P (r) (by omega)
      have s2a:=S3.out.st1 R (by omega) P (j) (by omega) dj[r]!
      have s2b:=S3.out.st2 R (by omega) P (j) (r) (by omega) (by omega) dj[r]! dj[j]!
      have n2a:(enc dj[j]!).length=k:=R.hk _
      have n2b:(enc dj[r]!).length=k:=R.hk _
      generalize enc dj[j]! = cI2 at S4 l2a s2b n2a
      generalize enc dj[r]! = cJ2 at S4 l2b s2a s2b n2b
      clear S3
      go_wp2_with fail
      go_big_region_o
      clear l2a l2b s2a s2b
      generalize (w3.drew.setCells blk (off+(j)*k) cJ2).setCells blk (off+(r)*k) cI2=w4 at S4 ⊢
      clear ea2 ec2
      have hf:PermIn a (i+1) d (swp dj j r)∧Ins (Y.lx (ltOf cf) lab) a r i (swp dj j r)∧Y.Top lab a r i (swp dj j r):=by
       refine⟨permIn_trans _ _ _ a (i+1) Q2.out (swp_permIn dj a (i+1) j r (by omega) (by omega) (by omega) (by omega) (by omega)),?_⟩
       have h0:=I2.out
       have t0:=T2.out
       rw[← hr] at h0 t0 hlv ⊢
       exact⟨h0.step (by rw[t0.test (by omega) (by omega)];exact hlv) (by omega) (by omega),t0.step (by omega) (by omega) (by omega)⟩
      have Q3:Aside _:=hf.1
      have I3:Aside _:=hf.2.1
      have T3:Aside _:=hf.2.2
      clear hf Q2 I2 T2
      go_wp2
      go_roundg r
      case measure=>omega
      case rel=>exact⟨r,swp dj j r,by first|rfl|go_num|(congr 1;omega),by omega,by omega,Nat.le_refl _,by rw[size_swp];exact hsj,S4,Q3,I3,T3⟩
     | false =>
      have ea3:((j:Int)).toNat=j:=by omega
      have pa3:(0:Int)≤(j:Int):=by omega
      have ba3:(j:Int)<(d.size:Int):=by omega
      have ra3:IntKind.i64.wrap ((j:Int))=(j:Int):=by rw[IntKind.wrap_i64];omega
      have ec3:((r:Int)).toNat=r:=by omega
      have pc3:(0:Int)≤(r:Int):=by omega
      have bc3:(r:Int)<(d.size:Int):=by omega
      have rc3:IntKind.i64.wrap ((r:Int))=(r:Int):=by rw[IntKind.wrap_i64];omega
      obtain⟨x3,hx3⟩:∃ x,x=dj[j]! := ⟨_,rfl⟩
      obtain⟨y3,hy3⟩:∃ x,x=dj[r]! := ⟨_,rfl⟩
      have l3a:=S2.out.ld R (by omega) P (j) (by omega)
      have l3b:=S2.out.ld R (by omega) P (r) (by omega)
      rw[← hx3] at l3a
      rw[← hy3] at l3b
      have hc3:=S2.out.cmp HC.out (by omega) x3 y3
      have hv3:¬ cf x3 y3<0:=by rw[hx3,hy3];exact of_decide_eq_false hlv
      have hd3:decide (cf x3 y3<0)=false:=decide_eq_false hv3
      clear hx3 hy3
      go_wp2_with fail
      go_quiet_grown (first|(go_at_fn g;refine Calls.grown_of (hc3 _ _)))
      have S3:Aside (SWK enc k w0 blk off dj (grow (wr.drewN nq) osq)):=S2.out.grown nq osq
      clear l3a l3b hc3 S2
      generalize grow (wr.drewN nq) osq=w3 at S3 ⊢
      clear nq osq
      clear ea3 ec3
      have R3:Aside (SortedIn (Y.lx (ltOf cf) lab) a (i+1) dj):=I2.out.stop HL.out (Or.inr (by have t0:=T2.out;rw[← hr] at t0 hlv ⊢;rw[Nat.add_sub_cancel,t0.test (by omega) (by omega)];exact hlv))
      clear I2 T2
      go_wp2
      go_roundg (b - (i+1))
      case measure=>omega
      case rel=>exact⟨i+1,dj,by first|rfl|go_num,by omega,by omega,Nat.le_refl _,hsj,S3,Q2,R3,fun h=>by omega⟩
    ·have hjn:¬ a<j:=by omega
     have hjad:decide ((j:Int)>(a:Int))=false:=decide_eq_false (by omega)
     have R3:Aside (SortedIn (Y.lx (ltOf cf) lab) a (i+1) dj):=I2.out.stop HL.out (Or.inl (by omega))
     clear I2 T2
     go_wp2_with fail
     go_big_region_o
     have S3:Aside (SWK enc k w0 blk off dj wr.drew):=S2.out.drew
     clear S2
     generalize wr.drew=w3 at S3 ⊢
     go_wp2
     go_roundg (b - (i+1))
     case measure=>omega
     case rel=>exact⟨i+1,dj,by first|rfl|go_num,by omega,by omega,Nat.le_refl _,hsj,S3,Q2,R3,fun h=>by omega⟩
  ·go_wp2
   go_end0
   refine⟨rfl,dk,S1.out,?_⟩
   by_cases hz:b≤a
   ·rw[E1.out hz]
    exact⟨permIn_refl d a b,fun i j h1 h2 h3=>by omega⟩
   ·obtain rfl:i=b:=by omega
    exact⟨P1.out,R1.out⟩
end Go.Proofs.YtnkpgmibhpmdhaaGreat
namespace Go.Proofs.YtnkpgmibhpmdhaaGreat
open Go.Shelf Go.RowKit Go.Lib Go.Sort
set_option maxRecDepth 1000000
set_option linter.unusedVariables false
variable {P : Program} {α : Type} [Inhabited α]
set_option maxHeartbeats 16000000 in
theorem symV_one (LY:LayV P) (Fsm:P.funcs[237]?=some Tryz.f237) (k:Nat) (aE:∀ w,(isAgg 25).run P w=.ok true w) (zE:∀ w,(Go.sizeOf 25).run P w=.ok k w) (enc:α→List Value) (cf:α→α→Int) (lab:α→Nat) (hL:SWO (Y.lx (ltOf cf) lab)) (g:Nat) (cb:Array Value) (blk off cap:Nat) (d0:Array α) (w0:World)
  (R:RowK enc k w0 blk off d0) (eg:∀ args w,(callFunc g args).run P w=.ok (.enter g args) w) (hcmp:CmpLays P g cb enc k cf blk off d0.size w0) (a m b:Nat) (d:Array α) (w:World) (hs:d0.size=d.size) (S:SWK enc k w0 blk off d w) (ham:a<m) (hmb:m<b) (hb:b≤d.size) (hsz:d.size<4611686018427387904) (q1:SortedIn (Y.lx (ltOf cf) lab) a m d) (q2:SortedIn (Y.lx (ltOf cf) lab) m b d) (q3:Y.Cross (ltOf cf) lab a m b d) (hm1:m≤a+1) :
  Calls P 237 #[.slice (some ⟨blk,off,none⟩) d.size cap,.int .i64 a,.int .i64 m,.int .i64 b,.func (.func g) #[] cb] w fun e w'=>e=.returned (.tuple #[])∧∃ d',SWK enc k w0 blk off d' w'∧PermIn a b d d'∧SortedIn (Y.lx (ltOf cf) lab) a b d':=by
 have mixed:=LY.mixed;have tUnit:=LY.tUnit;have aUnit:=LY.aUnit;have zUnit:=LY.zUnit;have vUnit:=LY.vUnit;have tInt:=LY.tInt;have aInt:=LY.aInt;have zInt:=LY.zInt;have vInt:=LY.vInt;have tBool:=LY.tBool;have aBool:=LY.aBool;have zBool:=LY.zBool;have vBool:=LY.vBool;have tUint:=LY.tUint;have aUint:=LY.aUint;have zUint:=LY.zUint;have vUint:=LY.vUint;have tSl:=LY.tSl;have aSl:=LY.aSl;have zSl:=LY.zSl;have vSl:=LY.vSl;have tFn:=LY.tFn;have aFn:=LY.aFn;have zFn:=LY.zFn;have vFn:=LY.vFn
 have uSl:=run_underlying LY.tSl
 have HC:Aside _:=hcmp
 have HL:Aside (SWO (Y.lx (ltOf cf) lab)):=hL
 have S0:Aside (SWK enc k w0 blk off d w):=S
 have HA:Aside (SortedIn (Y.lx (ltOf cf) lab) a m d):=q1
 have HB:Aside (SortedIn (Y.lx (ltOf cf) lab) m b d):=q2
 have HX:Aside (Y.Cross (ltOf cf) lab a m b d):=q3
 clear hcmp hL S q1 q2 q3
 have z1:(m:Int) - (a:Int)=1:=by omega
 have M1:Hid (m=a+1):=(by omega:m=a+1)
 go_enter Fsm,Tryz.ntmps237
 go_wp2
 clear z1
 go_loopg [10,11] (b - m) (fun kx sA sB wr=>∃ (i j:Nat),sA=.int .i64 i∧sB=.int .i64 j∧m≤i∧i≤j∧j≤b∧j - i≤kx∧Aside (SWK enc k w0 blk off d wr)∧Aside (∀ x,m≤x→x<i→(!ltOf cf d[x]! d[a]!)=false)∧Aside (∀ x,j≤x→x<b→(!ltOf cf d[x]! d[a]!)=true))
 case atStart=>exact⟨m,b,rfl,rfl,Nat.le_refl _,by omega,Nat.le_refl _,Nat.le_refl _,S0,fun x h1 h2=>by omega,fun x h1 h2=>by omega⟩
 case round =>
  clear S0
  obtain⟨i,j,rfl,rfl,hli,hij,hjh,hkx,S1,A1,A2⟩:=hrel
  by_cases hlt:(i:Int)<(j:Int)
  ·obtain⟨h,hh1,hh2⟩:∃ h,2*h≤i+j∧i+j≤2*h+1:=⟨(i+j) / 2,by omega,by omega⟩
   have zh:((i:Int)+(j:Int)) / 2=(h:Int):=by omega
   have rij:IntKind.i64.wrap ((i:Int)+(j:Int))=(i:Int)+(j:Int):=by rw[IntKind.wrap_i64];omega
   have hih:i≤h:=by omega
   have hhj:h<j:=by omega
   cases hlv:ltOf cf d[h]! d[a]! with
   | true =>
    have ea1:((h:Int)).toNat=h:=by omega
    have pa1:(0:Int)≤(h:Int):=by omega
    have ba1:(h:Int)<(d.size:Int):=by omega
    have ra1:IntKind.i64.wrap ((h:Int))=(h:Int):=by rw[IntKind.wrap_i64];omega
    have ec1:((a:Int)).toNat=a:=by omega
    have pc1:(0:Int)≤(a:Int):=by omega
    have bc1:(a:Int)<(d.size:Int):=by omega
    have rc1:IntKind.i64.wrap ((a:Int))=(a:Int):=by rw[IntKind.wrap_i64];omega
    obtain⟨x1,hx1⟩:∃ x,x=d[h]! := ⟨_,rfl⟩
    obtain⟨y1,hy1⟩:∃ x,x=d[a]! := ⟨_,rfl⟩
    have l1a:=S1.out.ld R (by omega) P (h) (by omega)
    have l1b:=S1.out.ld R (by omega) P (a) (by omega)
    rw[← hx1] at l1a
    rw[← hy1] at l1b
    have hc1:=S1.out.cmp HC.out (by omega) x1 y1
    have hv1:cf x1 y1<0:=by rw[hx1,hy1];exact of_decide_eq_true hlv
    have hd1:decide (cf x1 y1<0)=true:=decide_eq_true hv1
    clear hx1 hy1
    go_wp2_with fail
    go_quiet_grown (first|(go_at_fn g;refine Calls.grown_of (hc1 _ _)))
    have S2:Aside (SWK enc k w0 blk off d (grow (wr.drewN nq) osq)):=S1.out.grown nq osq
    clear l1a l1b hc1 S1
    generalize grow (wr.drewN nq) osq=w2 at S2 ⊢
    clear nq osq
    clear ea1 ec1
    go_wp2
    go_roundg (j - (h+1))
    case measure=>omega
    case rel=>exact⟨h+1,j,by first|rfl|go_num|(congr 1;omega),rfl,by omega,by omega,hjh,Nat.le_refl _,S2,fun x h1 h2=>(by
     rcases Nat.lt_or_ge x i with h3|h3
     ·exact A1.out x h1 h3
     ·have:=Y.mono1 HL.out HB.out HX.out ham (x:=x) (y:=h) h1 (by omega) (by omega) hlv;simp[this]),A2.out⟩
   | false =>
    have ea2:((h:Int)).toNat=h:=by omega
    have pa2:(0:Int)≤(h:Int):=by omega
    have ba2:(h:Int)<(d.size:Int):=by omega
    have ra2:IntKind.i64.wrap ((h:Int))=(h:Int):=by rw[IntKind.wrap_i64];omega
    have ec2:((a:Int)).toNat=a:=by omega
    have pc2:(0:Int)≤(a:Int):=by omega
    have bc2:(a:Int)<(d.size:Int):=by omega
    have rc2:IntKind.i64.wrap ((a:Int))=(a:Int):=by rw[IntKind.wrap_i64];omega
    obtain⟨x2,hx2⟩:∃ x,x=d[h]! := ⟨_,rfl⟩
    obtain⟨y2,hy2⟩:∃ x,x=d[a]! := ⟨_,rfl⟩
    have l2a:=S1.out.ld R (by omega) P (h) (by omega)
    have l2b:=S1.out.ld R (by omega) P (a) (by omega)
    rw[← hx2] at l2a
    rw[← hy2] at l2b
    have hc2:=S1.out.cmp HC.out (by omega) x2 y2
    have hv2:¬ cf x2 y2<0:=by rw[hx2,hy2];exact of_decide_eq_false hlv
    have hd2:decide (cf x2 y2<0)=false:=decide_eq_false hv2
    clear hx2 hy2
    go_wp2_with fail
    go_quiet_grown (first|(go_at_fn g;refine Calls.grown_of (hc2 _ _)))
    have S2:Aside (SWK enc k w0 blk off d (grow (wr.drewN nq) osq)):=S1.out.grown nq osq
    clear l2a l2b hc2 S1
    generalize grow (wr.drewN nq) osq=w2 at S2 ⊢
    clear nq osq
    clear ea2 ec2
    go_wp2
    go_roundg (h - i)
    case measure=>omega
    case rel=>exact⟨i,h,rfl,by first|rfl|go_num|(congr 1;omega),hli,hih,by omega,Nat.le_refl _,S2,A1.out,fun x h1 h2=>(by
     rcases Nat.lt_or_ge x j with h3|h3
     ·cases hz:ltOf cf d[x]! d[a]! with
      | false=>rfl
      | true=>rw[Y.mono1 HL.out HB.out HX.out ham (x:=h) (y:=x) (by omega) h1 h2 hz] at hlv;cases hlv
     ·exact A2.out x h3 h2)⟩
  ·obtain rfl:i=j:=by omega
   have FD:Aside (Y.Found (fun x=>(!ltOf cf d[x]! d[a]!)) m b i):=⟨hli,hjh,A1.out,A2.out⟩
   clear A1 A2
   have V0:Aside (Y.Via (Y.rot a (a+1) (a+1)) a b d d):=(Y.Via.refl a b d).congr fun x=>(Y.rot_one x).symm
   obtain⟨t,ht⟩:∃ t,t+1=i:=⟨i - 1,by omega⟩
   have zt:(i:Int) - 1=(t:Int):=by omega
   have rt:IntKind.i64.wrap (t:Int)=(t:Int):=by rw[IntKind.wrap_i64];omega
   go_wp2
   go_loopg [13] (t - a) (fun kx sA wr2=>∃ (q:Nat) (dk:Array α),sA=.int .i64 q∧a≤q∧q≤t∧t - q≤kx∧dk.size=d.size∧Aside (SWK enc k w0 blk off dk wr2)∧Aside (Y.Via (Y.rot a (a+1) (q+1)) a b d dk))
   case atStart=>exact⟨a,d,rfl,Nat.le_refl _,by omega,Nat.le_refl _,rfl,S1,V0⟩
   case round =>
    clear S1 V0
    obtain⟨q,dk,rfl,haq,hqt,hkq,hdk,S2,V2⟩:=hrel
    by_cases hqlt:(q:Int)<(t:Int)
    ·go_wp2_with fail
     have ea3:((q:Int)).toNat=q:=by omega
     have pa3:(0:Int)≤(q:Int):=by omega
     have ba3:(q:Int)<(d.size:Int):=by omega
     have ra3:IntKind.i64.wrap ((q:Int))=(q:Int):=by rw[IntKind.wrap_i64];omega
     have ec3:((q:Int)+1).toNat=q+1:=by omega
     have pc3:(0:Int)≤(q:Int)+1:=by omega
     have bc3:(q:Int)+1<(d.size:Int):=by omega
     have rc3:IntKind.i64.wrap ((q:Int)+1)=(q:Int)+1:=by rw[IntKind.wrap_i64];omega
     have S3:Aside (SWK enc k w0 blk off (swp dk (q) (q+1)) ((wr.drew.setCells blk (off+(q)*k) (enc dk[q+1]!)).setCells blk (off+(q+1)*k) (enc dk[q]!))):=S2.out.swapped R (q) (q+1) (by omega) (by omega)
     have l3a:=S2.out.ld1 R (by omega) P (q) (by omega)
     have l3b:=S2.out.ld1 R (by omega) P (q+1) (by omega)
     have s3a:=S2.out.st1 R (by omega) P (q) (by omega) dk[q+1]!
     have s3b:=S2.out.st2 R (by omega) P (q) (q+1) (by omega) (by omega) dk[q+1]! dk[q]!
     have n3a:(enc dk[q]!).length=k:=R.hk _
     have n3b:(enc dk[q+1]!).length=k:=R.hk _
     generalize enc dk[q]! = cI3 at S3 l3a s3b n3a
     generalize enc dk[q+1]! = cJ3 at S3 l3b s3a s3b n3b
     clear S2
     go_wp2_with fail
     go_big_region_o
     clear l3a l3b s3a s3b
     generalize (wr.drew.setCells blk (off+(q)*k) cJ3).setCells blk (off+(q+1)*k) cI3=w3 at S3 ⊢
     clear ea3 ec3
     have V3:Aside (Y.Via (Y.rot a (a+1) (q+2)) a b d (swp dk q (q+1))):=(V2.out.trans (Y.via_swp dk haq (by omega) (by omega) (by omega) (by omega))).congr fun x=>Y.rot_up haq x
     clear V2
     go_wp2
     go_roundg (t - (q+1))
     case measure=>omega
     case rel=>exact⟨q+1,swp dk q (q+1),by first|rfl|go_num|simp,by omega,by omega,Nat.le_refl _,by rw[size_swp];exact hdk,S3,V3⟩
    ·obtain rfl:q=t:=by omega
     go_wp2
     (try simp only[Exit.inBlock,Exit.then]);refine bodyPost_ret (results_none rfl _ _ _) rfl ?_
     exact⟨rfl,dk,S2.out,Y.merge1 HL.out HB.out HX.out M1.out hb FD.out (by have:=V2.out;rw[← M1.out,ht] at this;exact this)⟩
end Go.Proofs.YtnkpgmibhpmdhaaGreat
namespace Go.Proofs.YtnkpgmibhpmdhaaGreat
open Go.Shelf Go.RowKit Go.Lib Go.Sort
set_option maxRecDepth 1000000
set_option linter.unusedVariables false
variable {P : Program} {α : Type} [Inhabited α]
set_option maxHeartbeats 16000000 in
theorem symV_last (LY:LayV P) (Fsm:P.funcs[237]?=some Tryz.f237) (k:Nat) (aE:∀ w,(isAgg 25).run P w=.ok true w) (zE:∀ w,(Go.sizeOf 25).run P w=.ok k w) (enc:α→List Value) (cf:α→α→Int) (lab:α→Nat) (hL:SWO (Y.lx (ltOf cf) lab)) (g:Nat) (cb:Array Value) (blk off cap:Nat) (d0:Array α) (w0:World)
  (R:RowK enc k w0 blk off d0) (eg:∀ args w,(callFunc g args).run P w=.ok (.enter g args) w) (hcmp:CmpLays P g cb enc k cf blk off d0.size w0) (a m b:Nat) (d:Array α) (w:World) (hs:d0.size=d.size) (S:SWK enc k w0 blk off d w) (ham:a<m) (hmb:m<b) (hb:b≤d.size) (hsz:d.size<4611686018427387904) (q1:SortedIn (Y.lx (ltOf cf) lab) a m d) (q2:SortedIn (Y.lx (ltOf cf) lab) m b d) (q3:Y.Cross (ltOf cf) lab a m b d) (hm1:a+2≤m) (hm2:b≤m+1) :
  Calls P 237 #[.slice (some ⟨blk,off,none⟩) d.size cap,.int .i64 a,.int .i64 m,.int .i64 b,.func (.func g) #[] cb] w fun e w'=>e=.returned (.tuple #[])∧∃ d',SWK enc k w0 blk off d' w'∧PermIn a b d d'∧SortedIn (Y.lx (ltOf cf) lab) a b d':=by
 have mixed:=LY.mixed;have tUnit:=LY.tUnit;have aUnit:=LY.aUnit;have zUnit:=LY.zUnit;have vUnit:=LY.vUnit;have tInt:=LY.tInt;have aInt:=LY.aInt;have zInt:=LY.zInt;have vInt:=LY.vInt;have tBool:=LY.tBool;have aBool:=LY.aBool;have zBool:=LY.zBool;have vBool:=LY.vBool;have tUint:=LY.tUint;have aUint:=LY.aUint;have zUint:=LY.zUint;have vUint:=LY.vUint;have tSl:=LY.tSl;have aSl:=LY.aSl;have zSl:=LY.zSl;have vSl:=LY.vSl;have tFn:=LY.tFn;have aFn:=LY.aFn;have zFn:=LY.zFn;have vFn:=LY.vFn
 have uSl:=run_underlying LY.tSl
 have HC:Aside _:=hcmp
 have HL:Aside (SWO (Y.lx (ltOf cf) lab)):=hL
 have S0:Aside (SWK enc k w0 blk off d w):=S
 have HA:Aside (SortedIn (Y.lx (ltOf cf) lab) a m d):=q1
 have HB:Aside (SortedIn (Y.lx (ltOf cf) lab) m b d):=q2
 have HX:Aside (Y.Cross (ltOf cf) lab a m b d):=q3
 clear hcmp hL S q1 q2 q3
 have z1:((m:Int) - (a:Int)==1)=false:=beq_eq_false_iff_ne.2 (by omega)
 have rma:IntKind.i64.wrap ((m:Int) - (a:Int))=(m:Int) - (a:Int):=by rw[IntKind.wrap_i64];omega
 have z2:(b:Int) - (m:Int)=1:=by omega
 have M2:Hid (b=m+1):=(by omega:b=m+1)
 go_enter Fsm,Tryz.ntmps237
 go_wp2
 clear z1 z2 rma
 go_loopg [14,15] (m - a) (fun kx sA sB wr=>∃ (i j:Nat),sA=.int .i64 i∧sB=.int .i64 j∧a≤i∧i≤j∧j≤m∧j - i≤kx∧Aside (SWK enc k w0 blk off d wr)∧Aside (∀ x,a≤x→x<i→(ltOf cf d[m]! d[x]!)=false)∧Aside (∀ x,j≤x→x<m→(ltOf cf d[m]! d[x]!)=true))
 case atStart=>exact⟨a,m,rfl,rfl,Nat.le_refl _,by omega,Nat.le_refl _,Nat.le_refl _,S0,fun x h1 h2=>by omega,fun x h1 h2=>by omega⟩
 case round =>
  clear S0
  obtain⟨i,j,rfl,rfl,hli,hij,hjh,hkx,S1,A1,A2⟩:=hrel
  by_cases hlt:(i:Int)<(j:Int)
  ·obtain⟨h,hh1,hh2⟩:∃ h,2*h≤i+j∧i+j≤2*h+1:=⟨(i+j) / 2,by omega,by omega⟩
   have zh:((i:Int)+(j:Int)) / 2=(h:Int):=by omega
   have rij:IntKind.i64.wrap ((i:Int)+(j:Int))=(i:Int)+(j:Int):=by rw[IntKind.wrap_i64];omega
   have hih:i≤h:=by omega
   have hhj:h<j:=by omega
   cases hlv:ltOf cf d[m]! d[h]! with
   | true =>
    have ea4:((m:Int)).toNat=m:=by omega
    have pa4:(0:Int)≤(m:Int):=by omega
    have ba4:(m:Int)<(d.size:Int):=by omega
    have ra4:IntKind.i64.wrap ((m:Int))=(m:Int):=by rw[IntKind.wrap_i64];omega
    have ec4:((h:Int)).toNat=h:=by omega
    have pc4:(0:Int)≤(h:Int):=by omega
    have bc4:(h:Int)<(d.size:Int):=by omega
    have rc4:IntKind.i64.wrap ((h:Int))=(h:Int):=by rw[IntKind.wrap_i64];omega
    obtain⟨x4,hx4⟩:∃ x,x=d[m]! := ⟨_,rfl⟩
    obtain⟨y4,hy4⟩:∃ x,x=d[h]! := ⟨_,rfl⟩
    have l4a:=S1.out.ld R (by omega) P (m) (by omega)
    have l4b:=S1.out.ld R (by omega) P (h) (by omega)
    rw[← hx4] at l4a
    rw[← hy4] at l4b
    have hc4:=S1.out.cmp HC.out (by omega) x4 y4
    have hv4:cf x4 y4<0:=by rw[hx4,hy4];exact of_decide_eq_true hlv
    have hd4:decide (cf x4 y4<0)=true:=decide_eq_true hv4
    clear hx4 hy4
    go_wp2_with fail
    go_quiet_grown (first|(go_at_fn g;refine Calls.grown_of (hc4 _ _)))
    have S2:Aside (SWK enc k w0 blk off d (grow (wr.drewN nq) osq)):=S1.out.grown nq osq
    clear l4a l4b hc4 S1
    generalize grow (wr.drewN nq) osq=w2 at S2 ⊢
    clear nq osq
    clear ea4 ec4
    go_wp2
    go_roundg (h - i)
    case measure=>omega
    case rel=>exact⟨i,h,rfl,by first|rfl|go_num|(congr 1;omega),hli,hih,by omega,Nat.le_refl _,S2,A1.out,fun x h1 h2=>(by
     rcases Nat.lt_or_ge x j with h3|h3
     ·exact Y.mono2 HL.out HA.out HX.out hmb (x:=h) (y:=x) (by omega) h1 h2 hlv
     ·exact A2.out x h3 h2)⟩
   | false =>
    have ea5:((m:Int)).toNat=m:=by omega
    have pa5:(0:Int)≤(m:Int):=by omega
    have ba5:(m:Int)<(d.size:Int):=by omega
    have ra5:IntKind.i64.wrap ((m:Int))=(m:Int):=by rw[IntKind.wrap_i64];omega
    have ec5:((h:Int)).toNat=h:=by omega
    have pc5:(0:Int)≤(h:Int):=by omega
    have bc5:(h:Int)<(d.size:Int):=by omega
    have rc5:IntKind.i64.wrap ((h:Int))=(h:Int):=by rw[IntKind.wrap_i64];omega
    obtain⟨x5,hx5⟩:∃ x,x=d[m]! := ⟨_,rfl⟩
    obtain⟨y5,hy5⟩:∃ x,x=d[h]! := ⟨_,rfl⟩
    have l5a:=S1.out.ld R (by omega) P (m) (by omega)
    have l5b:=S1.out.ld R (by omega) P (h) (by omega)
    rw[← hx5] at l5a
    rw[← hy5] at l5b
    have hc5:=S1.out.cmp HC.out (by omega) x5 y5
    have hv5:¬ cf x5 y5<0:=by rw[hx5,hy5];exact of_decide_eq_false hlv
    have hd5:decide (cf x5 y5<0)=false:=decide_eq_false hv5
    clear hx5 hy5
    go_wp2_with fail
    go_quiet_grown (first|(go_at_fn g;refine Calls.grown_of (hc5 _ _)))
    have S2:Aside (SWK enc k w0 blk off d (grow (wr.drewN nq) osq)):=S1.out.grown nq osq
    clear l5a l5b hc5 S1
    generalize grow (wr.drewN nq) osq=w2 at S2 ⊢
    clear nq osq
    clear ea5 ec5
    go_wp2
    go_roundg (j - (h+1))
    case measure=>omega
    case rel=>exact⟨h+1,j,by first|rfl|go_num|(congr 1;omega),rfl,by omega,by omega,hjh,Nat.le_refl _,S2,fun x h1 h2=>(by
     rcases Nat.lt_or_ge x i with h3|h3
     ·exact A1.out x h1 h3
     ·cases hz:ltOf cf d[m]! d[x]! with
      | false=>rfl
      | true=>rw[Y.mono2 HL.out HA.out HX.out hmb (x:=x) (y:=h) h1 (by omega) (by omega) hz] at hlv;cases hlv),A2.out⟩
  ·obtain rfl:i=j:=by omega
   have FD:Aside (Y.Found (fun x=>(ltOf cf d[m]! d[x]!)) a m i):=⟨hli,hjh,A1.out,A2.out⟩
   clear A1 A2
   have V0:Aside (Y.Via (Y.rot m m (m+1)) a b d d):=(Y.Via.refl a b d).congr fun x=>(Y.rot_none x).symm
   go_wp2
   go_loopg [17] (m - i) (fun kx sA wr2=>∃ (q:Nat) (dk:Array α),sA=.int .i64 q∧i≤q∧q≤m∧q - i≤kx∧dk.size=d.size∧Aside (SWK enc k w0 blk off dk wr2)∧Aside (Y.Via (Y.rot q m (m+1)) a b d dk))
   case atStart=>exact⟨m,d,rfl,by omega,Nat.le_refl _,Nat.le_refl _,rfl,S1,V0⟩
   case round =>
    clear S1 V0
    obtain⟨q,dk,rfl,hiq,hqm,hkq,hdk,S2,V2⟩:=hrel
    by_cases hqlt:(i:Int)<(q:Int)
    ·obtain⟨r,hr⟩:∃ r,r+1=q:=⟨q - 1,by omega⟩
     have zr:(q:Int) - 1=(r:Int):=by omega
     go_wp2_with fail
     have ea6:((q:Int)).toNat=q:=by omega
     have pa6:(0:Int)≤(q:Int):=by omega
     have ba6:(q:Int)<(d.size:Int):=by omega
     have ra6:IntKind.i64.wrap ((q:Int))=(q:Int):=by rw[IntKind.wrap_i64];omega
     have ec6:((r:Int)).toNat=r:=by omega
     have pc6:(0:Int)≤(r:Int):=by omega
     have bc6:(r:Int)<(d.size:Int):=by omega
     have rc6:IntKind.i64.wrap ((r:Int))=(r:Int):=by rw[IntKind.wrap_i64];omega
     have S3:Aside (SWK enc k w0 blk off (swp dk (q) (r)) ((wr.drew.setCells blk (off+(q)*k) (enc dk[r]!)).setCells blk (off+(r)*k) (enc dk[q]!))):=S2.out.swapped R (q) (r) (by omega) (by omega)
     have l6a:=S2.out.ld1 R (by omega) P (q) (by omega)
     have l6b:=S2.out.ld1 R (by omega) P (r) (by omega)
     have s6a:=S2.out.st1 R (by omega) P (q) (by omega) dk[r]!
     have s6b:=S2.out.st2 R (by omega) P (q) (r) (by omega) (by omega) dk[r]! dk[q]!
     have n6a:(enc dk[q]!).length=k:=R.hk _
     have n6b:(enc dk[r]!).length=k:=R.hk _
     generalize enc dk[q]! = cI6 at S3 l6a s6b n6a
     generalize enc dk[r]! = cJ6 at S3 l6b s6a s6b n6b
     clear S2
     go_wp2_with fail
     go_big_region_o
     clear l6a l6b s6a s6b
     generalize (wr.drew.setCells blk (off+(q)*k) cJ6).setCells blk (off+(r)*k) cI6=w3 at S3 ⊢
     clear ea6 ec6
     have V3:Aside (Y.Via (Y.rot r m (m+1)) a b d (swp dk q r)):=(V2.out.trans (Y.via_swp dk (by omega) (by omega) (by omega) (by omega) (by omega))).congr fun x=>by have:=Y.rot_down (k:=q) (m:=m) (by omega) hqm x;rw[show q - 1=r by omega] at this;exact this
     clear V2
     go_wp2
     go_roundg (r - i)
     case measure=>omega
     case rel=>exact⟨r,swp dk q r,by first|rfl|go_num|simp,by omega,by omega,Nat.le_refl _,by rw[size_swp];exact hdk,S3,V3⟩
    ·obtain rfl:i=q:=by omega
     go_wp2
     (try simp only[Exit.inBlock,Exit.then]);refine bodyPost_ret (results_none rfl _ _ _) rfl ?_
     exact⟨rfl,dk,S2.out,Y.merge2 HL.out HA.out HX.out M2.out hb FD.out V2.out⟩
end Go.Proofs.YtnkpgmibhpmdhaaGreat

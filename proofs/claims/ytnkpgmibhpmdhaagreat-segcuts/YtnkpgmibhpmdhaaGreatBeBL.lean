/- Contracts and plain facts, one behind the other: MJ MMa MM MQ MT -/
import Derived.BigQuiet
import Derived.WalkSmall
import Derived.Test.YtnkpgmibhpmdhaaGreatBeBK
namespace Go.Proofs.YtnkpgmibhpmdhaaGreat
set_option linter.unusedVariables false
set_option maxRecDepth 10000
open Go.RowKit Go.Sort
theorem Sb.at {w:World} {ao:Option Addr} {len cap:Nat} {l:List Bool} (h:Sb w ao len cap l) {j:Nat} (hj:j<len):∃ b off,ao=some ⟨b,off,none⟩∧b<w.heap.size∧w.cell? ⟨b,off+j,none⟩=some (.bool (l.getD j false)):=by
 obtain⟨h1,h2,h3,h4,h5⟩:=h
 rcases h5 with h5|⟨b,off,rfl,hlt,h5⟩
 ·omega
 ·exact⟨b,off,rfl,hlt,h5 j hj⟩
theorem take_alike {α:Type} {l m:List α} {d:α} {j:Nat} (h:l.take j=m.take j) (h1:j<l.length) (h2:j<m.length) (he:l.getD j d=m.getD j d):l.take (j+1)=m.take (j+1):=by
 rw[List.take_succ_eq_append_getElem h1,List.take_succ_eq_append_getElem h2,h]
 simp[List.getD,h1,h2] at he
 rw[he]
theorem getD_same {α:Type} {l m:List α} {d:α} {j:Nat} (he:l.getD j d≠m.getD j d):l≠m:=fun e=>he (by rw[e])
set_option maxHeartbeats 1000000 in
theorem eqbool_any (ao bo:Option Addr) (n m ca cb:Nat) (l k:List Bool) (w:World) (h1:Sb w ao n ca l) (h2:Sb w bo m cb k) (hn:n≤140737488355328) (hm:m≤140737488355328) :
  Calls Tryz.prog 83 #[.slice ao n ca,.slice bo m cb] w fun e w'=>e=.returned (.bool (decide (l=k)))∧Below w.heap.size w w':=by
 by_cases hnm:n=m
 ·subst hnm
  have H1:=hide h1
  have H2:=hide h2
  have L1:=hide h1.1
  have L2:=hide h2.1
  have hb0:((n:Int) != (n:Int))=false:=by simp
  clear h1 h2
  go_enter Tryz.func83,Tryz.ntmps83
  go_wp2_with fail
  go_loopw [13] (fun i wr=>∃ j:Nat,j≤n∧i=.int .i64 j∧Hid (l.take j=k.take j)∧Hid (Below w.heap.size w wr)) (fun i _=>n - (intOf i).toNat)
  case atStart=>exact⟨0,Nat.zero_le _,rfl,hide rfl,hide (Below.refl _ _)⟩
  case round =>
   obtain⟨j,hj,rfl,HT,HB⟩:=hrel
   by_cases hjl:j<n
   ·obtain⟨b,off,rfl,hlt,c1⟩:=H1.out.at hjl
    obtain⟨b',off',rfl,hlt',c2⟩:=H2.out.at hjl
    have d1:=(HB.out.cell (p:=⟨b,off+j,none⟩) hlt).trans c1
    have d2:=(HB.out.cell (p:=⟨b',off'+j,none⟩) hlt').trans c2
    obtain⟨x,hx⟩:∃ x,l.getD j false=x:=⟨_,rfl⟩
    obtain⟨y,hy⟩:∃ y,k.getD j false=y:=⟨_,rfl⟩
    rw[hx] at d1
    rw[hy] at d2
    by_cases hxy:x=y
    ·skip
     have HT2:Hid (l.take (j+1)=k.take (j+1)):=take_alike (d:=false) HT.out (by rw[L1.out];exact hjl) (by rw[L2.out];exact hjl) (by rw[hx,hy];exact hxy)
     clear c1 c2 hx hy
     subst hxy
     have hq:(x != x)=false:=by simp
     go_wp2_with fail
     go_quiet (fail)
     have HB2:=hide (below_drewN HB.out nq)
     go_wp2
     go_roundw
     case rel=>exact⟨j+1,hjl,by go_num,HT2,HB2⟩
     case measure=>simp[intOf];omega
    ·skip
     have HN:Hid (decide (l=k)=false):=by
      show _=_
      rw[decide_eq_false_iff_not]
      exact getD_same (d:=false) (j:=j) (by rw[hx,hy];exact hxy)
     clear c1 c2 hx hy
     obtain rfl:(!x)=y:=by cases x<;>cases y<;>simp_all
     clear hxy
     go_wp2_with fail
     go_quiet (fail)
     have HB2:=hide (below_drewN HB.out nq)
     go_wp2
     go_ret
     exact⟨by rw[HN.out];rfl,HB2.out⟩
   ·obtain rfl:n=j:=by omega
    have HE:Hid (decide (l=k)=true):=by
     show _=_
     rw[decide_eq_true_eq]
     have h:=HT.out
     rwa [List.take_of_length_le (by rw[L1.out];exact Nat.le_refl _),List.take_of_length_le (by rw[L2.out];exact Nat.le_refl _)] at h
    go_wp2
    go_ret
    exact⟨by rw[HE.out];rfl,HB.out⟩
 ·have hb0:((n:Int) != (m:Int))=true:=by simp;omega
  have HN:Hid (decide (l=k)=false):=by
   show _=_
   rw[decide_eq_false_iff_not]
   intro e
   subst e
   exact hnm (h1.1.symm.trans h2.1)
  clear h1 h2
  go_enter Tryz.func83,Tryz.ntmps83
  go_wp2
  go_ret
  exact⟨by rw[HN.out];rfl,Below.refl _ _⟩
set_option maxHeartbeats 1000000 in
theorem eqbyte_any (ao bo:Option Addr) (n m ca cb:Nat) (l k:List Int) (w:World) (h1:Sl w .u8 ao n ca l) (h2:Sl w .u8 bo m cb k) (hn:n≤140737488355328) (hm:m≤140737488355328) :
  Calls Tryz.prog 84 #[.slice ao n ca,.slice bo m cb] w fun e w'=>e=.returned (.bool (decide (l=k)))∧Below w.heap.size w w':=by
 by_cases hnm:n=m
 ·subst hnm
  have H1:=hide h1
  have H2:=hide h2
  have L1:=hide h1.1
  have L2:=hide h2.1
  have hb0:((n:Int) != (n:Int))=false:=by simp
  clear h1 h2
  go_enter Tryz.func84,Tryz.ntmps84
  go_wp2_with fail
  go_loopw [13] (fun i wr=>∃ j:Nat,j≤n∧i=.int .i64 j∧Hid (l.take j=k.take j)∧Hid (Below w.heap.size w wr)) (fun i _=>n - (intOf i).toNat)
  case atStart=>exact⟨0,Nat.zero_le _,rfl,hide rfl,hide (Below.refl _ _)⟩
  case round =>
   obtain⟨j,hj,rfl,HT,HB⟩:=hrel
   by_cases hjl:j<n
   ·obtain⟨b,off,rfl,hlt,c1⟩:=H1.out.at hjl
    obtain⟨b',off',rfl,hlt',c2⟩:=H2.out.at hjl
    have d1:=(HB.out.cell (p:=⟨b,off+j,none⟩) hlt).trans c1
    have d2:=(HB.out.cell (p:=⟨b',off'+j,none⟩) hlt').trans c2
    obtain⟨x,hx⟩:∃ x,l.getD j 0=x:=⟨_,rfl⟩
    obtain⟨y,hy⟩:∃ y,k.getD j 0=y:=⟨_,rfl⟩
    rw[hx] at d1
    rw[hy] at d2
    by_cases hxy:x=y
    ·have hq:(x != y)=false:=by simp[hxy]
     have HT2:Hid (l.take (j+1)=k.take (j+1)):=take_alike (d:=0) HT.out (by rw[L1.out];exact hjl) (by rw[L2.out];exact hjl) (by rw[hx,hy];exact hxy)
     clear c1 c2 hx hy hxy
     go_wp2_with fail
     go_quiet (fail)
     have HB2:=hide (below_drewN HB.out nq)
     go_wp2
     go_roundw
     case rel=>exact⟨j+1,hjl,by go_num,HT2,HB2⟩
     case measure=>simp[intOf];omega
    ·have hq:(x != y)=true:=by simpa using hxy
     have HN:Hid (decide (l=k)=false):=by
      show _=_
      rw[decide_eq_false_iff_not]
      exact getD_same (d:=0) (j:=j) (by rw[hx,hy];exact hxy)
     clear c1 c2 hx hy hxy
     go_wp2_with fail
     go_quiet (fail)
     have HB2:=hide (below_drewN HB.out nq)
     go_wp2
     go_ret
     exact⟨by rw[HN.out];rfl,HB2.out⟩
   ·obtain rfl:n=j:=by omega
    have HE:Hid (decide (l=k)=true):=by
     show _=_
     rw[decide_eq_true_eq]
     have h:=HT.out
     rwa [List.take_of_length_le (by rw[L1.out];exact Nat.le_refl _),List.take_of_length_le (by rw[L2.out];exact Nat.le_refl _)] at h
    go_wp2
    go_ret
    exact⟨by rw[HE.out];rfl,HB.out⟩
 ·have hb0:((n:Int) != (m:Int))=true:=by simp;omega
  have HN:Hid (decide (l=k)=false):=by
   show _=_
   rw[decide_eq_false_iff_not]
   intro e
   subst e
   exact hnm (h1.1.symm.trans h2.1)
  clear h1 h2
  go_enter Tryz.func84,Tryz.ntmps84
  go_wp2
  go_ret
  exact⟨by rw[HN.out];rfl,Below.refl _ _⟩
end Go.Proofs.YtnkpgmibhpmdhaaGreat
namespace Go.Proofs.YtnkpgmibhpmdhaaGreat
set_option linter.unusedVariables false
set_option maxRecDepth 10000
open Go.RowKit
theorem veq_d (ak ai:Int) (az:ByteArray) (bk bi:Int) (bz:ByteArray) (w:World) :
  (Op.equalIn 9999 25 (.agg #[.int .i64 ak,.int .i64 ai,.string az]) (.agg #[.int .i64 bk,.int .i64 bi,.string bz])).run Tryz.prog w=.ok (Z.same ⟨ak,ai,az⟩ ⟨bk,bi,bz⟩) w:=by
 have h2:Tryz.prog.stoodInHeld 25=false:=by kernel_rfl
 have hf:=fields_of Tryz.underlying25
 rw[run_equalIn_struct w 9998 25 _ _ (by rw[hf];exact Tryz.underlying25) h2,hf]
 unfold Z.same
 cases h1:(ak==bk)<;>cases h2:(ai==bi)<;>cases h3:(az.toList==bz.toList)<;>simp[go_sem,Op.eqFields,Tryz.underlying3,Tryz.underlying2,Tryz.underlying9,h1,h2,h3]
 all_goals simpa using h3
def Z.zsame (r n r' n':Int) (a b a' b':Z.V):Bool:=(r==r')&&((n==n')&&(Z.same a a'&&Z.same b b'))
theorem zeq_run (r n ak ai:Int) (az:ByteArray) (bk bi:Int) (bz:ByteArray) (r' n' ck ci:Int) (cz:ByteArray) (dk di:Int) (dz:ByteArray) (w:World) :
  (binOp .eql 27 (.agg #[.int .i64 r,.int .i64 n,.int .i64 ak,.int .i64 ai,.string az,.int .i64 bk,.int .i64 bi,.string bz]) (.agg #[.int .i64 r',.int .i64 n',.int .i64 ck,.int .i64 ci,.string cz,.int .i64 dk,.int .i64 di,.string dz])).run Tryz.prog w=.ok (.bool (Z.zsame r n r' n' ⟨ak,ai,az⟩ ⟨bk,bi,bz⟩ ⟨ck,ci,cz⟩ ⟨dk,di,dz⟩)) w:=by
 have h2:Tryz.prog.stoodInHeld 27=false:=by kernel_rfl
 have hf:=fields_of Tryz.underlying27
 rw[run_eql_struct,run_equalIn_struct w 9999 27 _ _ (by rw[hf];exact Tryz.underlying27) h2,hf]
 unfold Z.zsame
 have e1:=veq_d ak ai az ck ci cz
 have e2:=veq_d bk bi bz dk di dz
 cases h1:(r==r')<;>cases h3:(n==n')<;>cases h4:Z.same ⟨ak,ai,az⟩ ⟨ck,ci,cz⟩<;>cases h5:Z.same ⟨bk,bi,bz⟩ ⟨dk,di,dz⟩<;>simp[go_sem,Op.eqFields,Tryz.underlying3,h1,h3,e1,e2,h4,h5]
theorem zsame_iff {r n r' n':Int} {a b a' b':Z.V}:Z.zsame r n r' n' a b a' b'=true↔r=r'∧n=n'∧a=a'∧b=b':=by
 unfold Z.zsame
 simp only[Bool.and_eq_true,beq_iff_eq,Z.same_iff]
end Go.Proofs.YtnkpgmibhpmdhaaGreat
namespace Go.Proofs.YtnkpgmibhpmdhaaGreat
set_option linter.unusedVariables false
set_option maxRecDepth 10000
open Go.RowKit Go.Maps
structure Z.Half (s:Z.S):Prop where
 k:Z.kindOk s.k=true
 c0:0≤s.c
 c1:s.c<4611686018427387904
 lt:∀ x∈s.bd,x<256
 bd:s.bd.length≤140737488355328
 rows:s.rows≤4096
 nulls:s.nulls≤s.rows
 ns:s.ns=[]∨s.ns.length=s.rows
 none:s.ns=[]→s.nulls=0
theorem w_is_v {s:Z.S} (h:Z.Half s) (hw:Z.wE s=0):s.nulls=cntT s.ns∧Z.vE s=0∧Z.vL s=Z.wL s:=by
 have hn:s.nulls=cntT s.ns:=by
  by_cases h0:s.ns=[]
  ·rw[h.none h0,h0];rfl
  ·unfold Z.wE at hw
   by_cases hg:Z.gE s.bd ((s.rows:Int) - (s.nulls:Int)) s.k s.c=0
   ·rw[if_neg (by omega),if_neg h0] at hw
    obtain⟨N,h1,h2,_,_⟩:=body_two h.lt hg
    have hok:joinOk s.ns (Z.gL s.bd ((s.rows:Int) - (s.nulls:Int)) s.k s.c)=true:=by
     unfold joinE at hw
     cases hj:joinOk s.ns (Z.gL s.bd ((s.rows:Int) - (s.nulls:Int)) s.k s.c) with
     | true=>rfl
     | false=>rw[hj] at hw;simp at hw
    unfold joinOk at hok
    simp only[Bool.and_eq_true,beq_iff_eq] at hok
    have h3:=hok.1
    rw[h2] at h3
    rcases h.ns with e|e
    ·exact absurd e h0
    ·omega
   ·rw[if_pos hg] at hw;exact absurd hw hg
 refine⟨hn,?_,?_⟩
 ·unfold Z.vE;rw[← hn];exact hw
 ·unfold Z.vL Z.wL;rw[← hn]
def Z.IsW (s:Z.S):Prop:=Z.wE s=0∧Z.mS (Z.wL s) s.k s.c=s
theorem isW_isM {s:Z.S} (h:Z.Half s):Z.IsW s↔Z.IsM s:=by
 constructor
 ·rintro⟨h1,h2⟩
  obtain⟨_,e1,e2⟩:=w_is_v h h1
  exact⟨e1,by rw[e2];exact h2⟩
 ·rintro⟨h1,h2⟩
  have hn:s.nulls=cntT s.ns:=by
   have e1:s.nulls=cntT (nus (Z.vL s)):=(congrArg Z.S.nulls h2).symm
   have e2:s.ns=if cntT (nus (Z.vL s))=0 then [] else nus (Z.vL s):=(congrArg Z.S.ns h2).symm
   rw[e2,e1]
   by_cases h0:cntT (nus (Z.vL s))=0
   ·rw[if_pos h0,h0];rfl
   ·rw[if_neg h0]
  have e1:Z.wE s=0:=by unfold Z.wE;rw[hn];exact h1
  obtain⟨_,_,e2⟩:=w_is_v h e1
  exact⟨e1,by rw[← e2];exact h2⟩
theorem vL_i64 {s:Z.S} (h256:∀ x∈s.bd,x<256):∀ x∈Z.vL s,Z.I64 x.i:=fun x hx=>(vL_wf h256 x hx).2.1
theorem ints_inj:∀ {a b:List Nat},ints a=ints b→a=b
 | [],[],_=>rfl
 | [],y :: b,h=>by simp[ints] at h
 | x :: a,[],h=>by simp[ints] at h
 | x :: a,y :: b,h=>by
  have h':(x:Int) :: ints a=(y:Int) :: ints b:=h
  injection h' with h1 h2
  rw[ints_inj h2,show x=y by omega]
theorem isW_parts {s S:Z.S} (hE:Z.wE s=0) (hS:Z.mS (Z.wL s) s.k s.c=S) (hk:S.k=s.k) (hc:S.c=s.c):Z.IsW s↔(Z.zsame (S.rows:Int) (S.nulls:Int) (s.rows:Int) (s.nulls:Int) S.mn S.mx s.mn s.mx=true∧S.ns=s.ns∧S.bd=s.bd):=by
 rw[zsame_iff]
 constructor
 ·rintro⟨_,h⟩
  rw[hS] at h
  subst h
  exact⟨⟨rfl,rfl,rfl,rfl⟩,rfl,rfl⟩
 ·rintro⟨⟨h1,h2,h3,h4⟩,h5,h6⟩
  refine⟨hE,?_⟩
  rw[hS]
  obtain⟨a1,a2,a3,a4,a5,a6,a7,a8⟩:=S
  obtain⟨b1,b2,b3,b4,b5,b6,b7,b8⟩:=s
  simp only at hk hc h1 h2 h3 h4 h5 h6
  rw[hk,hc,h3,h4,h5,h6,show a3=b3 by omega,show a4=b4 by omega]
set_option maxHeartbeats 2000000 in
theorem smade_any (s:Z.S) (v:Value) (w:World) (h:SegAt w v s) (hs:Z.Half s) :
  Calls Tryz.prog 48 #[v] w fun e w'=>∃ q,e=.returned (.bool q)∧(q=true↔Z.IsW s)∧Below w.heap.size w w':=by
 have hat:=h
 obtain⟨an,cn,ab,cb,rfl,hsb,hsl⟩:=h
 obtain⟨k,c,rows,nulls,⟨ak,ai,az⟩,⟨bk,bi,bz⟩,ns,bd⟩:=s
 obtain⟨hk,hc0,hc1,hlt,hbd,hrows,hnulls,hns,hnone⟩:=id hs
 simp only at hsb hsl hk hc0 hc1 hlt hbd hrows hnulls hns hnone
 unfold segC at hat ⊢
 simp only at hat ⊢
 obtain⟨nn,hnn⟩:∃ nn,ns.length=nn:=⟨_,rfl⟩
 obtain⟨nd,hnd⟩:∃ nd,bd.length=nd:=⟨_,rfl⟩
 have hnm:nn≤4096:=by
  rw[← hnn]
  rcases hns with e|e
  ·rw[e];simp
  ·omega
 have hc64:Z.I64 c:=by unfold Z.I64;omega
 have HV:=hide (fun (w1:World) (hb:Below w.heap.size w w1)=>svals_any ⟨k,c,rows,nulls,⟨ak,ai,az⟩,⟨bk,bi,bz⟩,ns,bd⟩ _ w1 (hat.below hb) hc64 hlt (by show ns.length*32≤_;omega) hbd (by show rows<_;omega) (by show nulls<_;omega))
 rw[hnn] at hsb HV ⊢
 rw[hnd] at hsl hbd HV ⊢
 have hb1:=below_one w (.cells #[.int .i64 k,.int .i64 c,.int .i64 (rows:Int),.int .i64 (nulls:Int),.int .i64 ak,.int .i64 ai,.string az,.int .i64 bk,.int .i64 bi,.string bz,.slice an nn cn,.slice ab nd cb] 30)
 have hB:=Blk.new w #[.int .i64 k,.int .i64 c,.int .i64 (rows:Int),.int .i64 (nulls:Int),.int .i64 ak,.int .i64 ai,.string az,.int .i64 bk,.int .i64 bi,.string bz,.slice an nn cn,.slice ab nd cb] 30
 have HB1:=hide hb1
 have HK:=hide hB
 have HSB:=hide hsb
 have HSL:=hide hsl
 have HS:=hide hs
 have HC64:=hide hc64
 have HLT:=hide hlt
 have HC0:=hide hc0
 clear hb1 hB hsb hsl hat hs hns hnone hnn hnd hk hlt hc64 hc0
 go_enter Tryz.func48,Tryz.ntmps48
 go_wp2_with fail
 refine (HV.out _ HB1.out).mono ?_
 rintro e w2 ⟨va,vc,rfl,hvs,hb2⟩
 obtain⟨E,hE⟩:∃ E,Z.wE ⟨k,c,rows,nulls,⟨ak,ai,az⟩,⟨bk,bi,bz⟩,ns,bd⟩=E:=⟨_,rfl⟩
 obtain⟨L,hL⟩:∃ L,Z.wL ⟨k,c,rows,nulls,⟨ak,ai,az⟩,⟨bk,bi,bz⟩,ns,bd⟩=L:=⟨_,rfl⟩
 obtain⟨m,hm⟩:∃ m,L.length=m:=⟨_,rfl⟩
 rw[hL,hm] at hvs ⊢
 rw[hE]
 have HE:=hide hE
 have HL:=hide hL
 have HM:=hide hm
 have HB2:=hide (bthen HB1.out hb2)
 have hK2:=HK.out.below hb2
 have HK2:=hide hK2
 have HVS:=hide hvs
 by_cases hE0:E=0
 ·subst hE0
  have hwv:=w_is_v HS.out HE.out
  have ev:=hwv.2.1
  have el:=hwv.2.2
  clear hwv
  obtain⟨m1,m2,m3,m4⟩:=vals_make (s:=⟨k,c,rows,nulls,⟨ak,ai,az⟩,⟨bk,bi,bz⟩,ns,bd⟩) HS.out.k HLT.out hrows HS.out.ns ev
  have hI:=vL_i64 (s:=⟨k,c,rows,nulls,⟨ak,ai,az⟩,⟨bk,bi,bz⟩,ns,bd⟩) HLT.out
  have hwf:=vL_wf (s:=⟨k,c,rows,nulls,⟨ak,ai,az⟩,⟨bk,bi,bz⟩,ns,bd⟩) HLT.out
  rw[el,HL.out] at m1 m4 hI hwf
  have HWF:=hide hwf
  have m1':Z.mE L k c=0:=m1
  have m2':1≤c:=m2
  have hmm:m≤4096:=by rw[← hm];exact m4
  have HM1:=hide m1'
  have HC1:=hide m2'
  have HMK:=hide (smake_any va m vc L k c w2 hvs hI (by omega) HC64.out)
  have e0:=hK2.cell (i:=0) rfl
  have e1:=hK2.cell (i:=1) rfl
  clear hE hL hm hb2 hK2 hvs ev el m1 m2 m3 m4 hI m1' m2' HV hwf
  go_wp2_with fail
  refine HMK.out.mono ?_
  rintro e w3 ⟨hb3,hmk⟩
  rcases hmk with ⟨_,vm,rfl,hvm⟩|⟨hno,_⟩
  ·obtain⟨an',cn',ab',cb',rfl,hsb',hsl'⟩:=hvm
   obtain⟨S,hS⟩:∃ S,Z.mS L k c=S:=⟨_,rfl⟩
   rw[hS] at hsb' hsl' ⊢
   have HSS:=hide hS
   have hSk:S.k=k:=by rw[← hS];rfl
   have hSc:S.c=c:=by rw[← hS];show Z.cc L k c=c;exact cc_again (by have:=HC1.out;omega)
   have HIW:=hide (isW_parts (s:=⟨k,c,rows,nulls,⟨ak,ai,az⟩,⟨bk,bi,bz⟩,ns,bd⟩) (S:=S) HE.out (by rw[HL.out];exact hS) hSk hSc)
   obtain⟨k',c',rows',nulls',⟨ck,ci,cz⟩,⟨dk,di,dz⟩,ns',bd'⟩:=S
   simp only at hsb' hsl' hSk hSc HIW
   subst hSk hSc
   unfold segC
   simp only
   obtain⟨nn',hnn'⟩:∃ nn,ns'.length=nn:=⟨_,rfl⟩
   obtain⟨nd',hnd'⟩:∃ nd,bd'.length=nd:=⟨_,rfl⟩
   have hnl':nn'≤4096:=by
    have:ns'=if cntT (nus L)=0 then [] else nus L:=by
     have:=HSS.out
     unfold Z.mS at this
     injection this with _ _ _ _ _ _ h7 _
     exact h7.symm
    rw[← hnn',this]
    split
    ·simp
    ·rw[nus_length,HM.out];exact hmm
   have hbl':nd'≤140737488355328:=by
    have:=hsl'.2.1
    have h2:=hsl'.2.2.1
    rw[← hnd']
    have h3:bd'=Z.bd (oth L) k' (Z.cc L k' c'):=by
     have:=HSS.out
     unfold Z.mS at this
     injection this with _ _ _ _ _ _ _ h8
     exact h8.symm
    rw[h3]
    have:=body_len (l:=oth L) (kind:=k') (codec:=Z.cc L k' c') fun x hx=>HWF.out x (List.mem_filter.1 hx).1
    omega
   rw[hnn'] at hsb' ⊢
   rw[hnd'] at hsl' ⊢
   have b4:=below_one w3 (.cells #[.int .i64 k',.int .i64 c',.int .i64 (rows':Int),.int .i64 (nulls':Int),.int .i64 ck,.int .i64 ci,.string cz,.int .i64 dk,.int .i64 di,.string dz,.slice an' nn' cn',.slice ab' nd' cb'] 30)
   have HB4:=hide (bthen (bthen HB2.out hb3) b4)
   have hK4:=(HK2.out.below hb3).below b4
   have hN4:=Blk.new w3 #[.int .i64 k',.int .i64 c',.int .i64 (rows':Int),.int .i64 (nulls':Int),.int .i64 ck,.int .i64 ci,.string cz,.int .i64 dk,.int .i64 di,.string dz,.slice an' nn' cn',.slice ab' nd' cb'] 30
   have HK4:=hide hK4
   have HN4:=hide hN4
   have HSB':=hide (hsb'.below b4)
   have HSL':=hide (hsl'.below b4)
   have d2:=hK4.cell (i:=2) rfl
   have d3:=hK4.cell (i:=3) rfl
   have d4:=hK4.cell (i:=4) rfl
   have d5:=hK4.cell (i:=5) rfl
   have d6:=hK4.cell (i:=6) rfl
   have d7:=hK4.cell (i:=7) rfl
   have d8:=hK4.cell (i:=8) rfl
   have d9:=hK4.cell (i:=9) rfl
   have d10:=hK4.cell (i:=10) rfl
   have hz:=zeq_run (rows':Int) (nulls':Int) ck ci cz dk di dz (rows:Int) (nulls:Int) ak ai az bk bi bz
   obtain⟨qz,hqz⟩:∃ q,Z.zsame (rows':Int) (nulls':Int) (rows:Int) (nulls:Int) ⟨ck,ci,cz⟩ ⟨dk,di,dz⟩ ⟨ak,ai,az⟩ ⟨bk,bi,bz⟩=q:=⟨_,rfl⟩
   rw[hqz] at hz
   have HQZ:=hide hqz
   clear hb3 hS hsb' hsl' hnn' hnd' b4 hK4 hN4 hqz HMK e0 e1 HK HK2 HVS HB2
   cases qz with
   | false =>
    have HF:Hid (false=true↔Z.IsW ⟨k',c',rows,nulls,⟨ak,ai,az⟩,⟨bk,bi,bz⟩,ns,bd⟩):=⟨fun h=>(by cases h),fun h=>by have:=(HIW.out.1 h).1;rw[show _=false from HQZ.out] at this;cases this⟩
    go_wp2
    go_ret
    exact⟨false,rfl,HF.out,HB4.out⟩
   | true =>
    go_wp2_with fail
    refine (eqbool_any an' an nn' nn cn' cn ns' ns _ HSB'.out (HSB.out.below HB4.out) (by omega) (by omega)).mono ?_
    rintro e w5 ⟨rfl,hb5⟩
    obtain⟨q1,hq1⟩:∃ q,decide (ns'=ns)=q:=⟨_,rfl⟩
    rw[hq1]
    have HQ1:=hide hq1
    have HB5:=hide (bthen HB4.out hb5)
    have f11:=(HN4.out.below hb5).cell (i:=11) rfl
    have d11:=(HK4.out.below hb5).cell (i:=11) rfl
    have HSL5:=hide (HSL'.out.below hb5)
    clear hb5 hq1 d2 d3 d4 d5 d6 d7 d8 d9 d10 hz HK4 HN4 HSB' HSL'
    cases q1 with
    | false =>
     have HF:Hid (false=true↔Z.IsW ⟨k',c',rows,nulls,⟨ak,ai,az⟩,⟨bk,bi,bz⟩,ns,bd⟩):=⟨fun h=>(by cases h),fun h=>by have:=(HIW.out.1 h).2.1;exact absurd this (of_decide_eq_false HQ1.out)⟩
     go_wp2
     go_ret
     exact⟨false,rfl,HF.out,HB5.out⟩
    | true =>
     go_wp2_with fail
     refine (eqbyte_any ab' ab nd' nd cb' cb (ints bd') (ints bd) w5 HSL5.out (HSL.out.below HB5.out) hbl' hbd).mono ?_
     rintro e w6 ⟨rfl,hb6⟩
     obtain⟨q2,hq2⟩:∃ q,decide (ints bd'=ints bd)=q:=⟨_,rfl⟩
     rw[hq2]
     have HF:Hid (q2=true↔Z.IsW ⟨k',c',rows,nulls,⟨ak,ai,az⟩,⟨bk,bi,bz⟩,ns,bd⟩):=by
      constructor
      ·intro h
       rw[h] at hq2
       exact HIW.out.2 ⟨HQZ.out,of_decide_eq_true HQ1.out,ints_inj (of_decide_eq_true hq2)⟩
      ·intro h
       have:=(HIW.out.1 h).2.2
       rw[← hq2,decide_eq_true_eq]
       exact congrArg ints this
     have HB6:=hide (bthen HB5.out hb6)
     clear hb6 hq2 f11 d11
     go_wp2
     go_ret
     exact⟨q2,rfl,HF.out,HB6.out⟩
  ·exact absurd HM1.out hno
 ·have hEb:(E != 0)=true:=by simpa using hE0
  have HF:Hid (false=true↔Z.IsW ⟨k,c,rows,nulls,⟨ak,ai,az⟩,⟨bk,bi,bz⟩,ns,bd⟩):=⟨fun h=>(by cases h),fun h=>absurd (HE.out.symm.trans h.1) hE0⟩
  clear hE hL hm hb2 hK2 hvs hE0 HV
  go_wp2
  go_ret
  exact⟨false,rfl,HF.out,HB2.out⟩
end Go.Proofs.YtnkpgmibhpmdhaaGreat
namespace Go.Proofs.YtnkpgmibhpmdhaaGreat
set_option linter.unusedVariables false
set_option maxRecDepth 10000
open Go.RowKit
def ReadAns (b:List Nat) (w:World) (e:Ending) (w':World):Prop :=
 Below w.heap.size w w'∧((Z.rE b=0∧∃ v,e=.returned (.tuple #[v,.int .i64 0])∧SegAt w' v (Z.rS b))∨(Z.rE b≠0∧e=.returned (.tuple #[.agg segZ,.int .i64 (Z.rE b)])))
theorem rE_head {b:List Nat} (h:Z.hE b≠0):Z.rE b=Z.hE b:=by
 unfold Z.hE at h ⊢
 unfold Z.rE
 by_cases h1:E.gE b≠0
 ·rw[if_pos h1,if_pos h1]
 ·rw[if_neg h1] at h ⊢
  rw[if_neg h1]
  by_cases h2:E.gE (Z.fb b)≠0
  ·rw[if_pos h2,if_pos h2]
  ·rw[if_neg h2] at h ⊢
   rw[if_neg h2]
   by_cases h3:E.gE (Z.fb (Z.fb b))≠0
   ·rw[if_pos h3,if_pos h3]
   ·rw[if_neg h3] at h ⊢
    rw[if_neg h3]
    by_cases h4:E.gE (Z.fb (Z.fb (Z.fb b)))≠0
    ·rw[if_pos h4,if_pos h4]
    ·rw[if_neg h4] at h ⊢
     rw[if_neg h4]
     by_cases h5:Z.kindOk (Z.rk b)=false∨4096<Z.rr' b∨Z.rr' b<Z.rn b
     ·rw[if_pos h5,if_pos h5]
     ·exact absurd (if_neg h5) h
theorem hE_zero {b:List Nat} (h:Z.hE b=0):E.gE b=0∧E.gE (Z.fb b)=0∧E.gE (Z.fb (Z.fb b))=0∧E.gE (Z.fb (Z.fb (Z.fb b)))=0∧¬ (Z.kindOk (Z.rk b)=false∨4096<Z.rr' b∨Z.rr' b<Z.rn b):=by
 unfold Z.hE at h
 by_cases h1:E.gE b≠0
 ·rw[if_pos h1] at h;omega
 rw[if_neg h1] at h
 by_cases h2:E.gE (Z.fb b)≠0
 ·rw[if_pos h2] at h;omega
 rw[if_neg h2] at h
 by_cases h3:E.gE (Z.fb (Z.fb b))≠0
 ·rw[if_pos h3] at h;omega
 rw[if_neg h3] at h
 by_cases h4:E.gE (Z.fb (Z.fb (Z.fb b)))≠0
 ·rw[if_pos h4] at h;omega
 rw[if_neg h4] at h
 by_cases h5:Z.kindOk (Z.rk b)=false∨4096<Z.rr' b∨Z.rr' b<Z.rn b
 ·rw[if_pos h5] at h;omega
 exact⟨by omega,by omega,by omega,by omega,h5⟩
theorem rE_rest {b:List Nat} (h:Z.hE b=0):Z.rE b=if Z.nE (Z.rr' b) (Z.rn b) (Z.r4 b)≠0 then ((Z.nE (Z.rr' b) (Z.rn b) (Z.r4 b):Nat):Int) else
 if Z.zE (Z.rk b) (Z.rr' b) (Z.rn b) (Z.r5 b)≠0 then ((Z.zE (Z.rk b) (Z.rr' b) (Z.rn b) (Z.r5 b):Nat):Int) else
 if Z.vE (Z.rS b)≠0 then 4 else if Z.rc b=0∨Z.mE (Z.vL (Z.rS b)) (Z.rk b) (Z.rc b)≠0∨Z.sB (Z.mS (Z.vL (Z.rS b)) (Z.rk b) (Z.rc b))≠b then 4 else 0:=by
 obtain⟨h1,h2,h3,h4,h5⟩:=hE_zero h
 unfold Z.rE
 rw[if_neg (by omega),if_neg (by omega),if_neg (by omega),if_neg (by omega),if_neg h5]
theorem oR_le (b:List Nat) (k:Int):(Z.oR b k).length≤b.length:=by
 unfold Z.oR
 split
 ·unfold Z.oS
  split
  ·simp
  ·split
   ·simp
   ·split
    ·unfold E.xR
     simp
    ·exact Nat.le_refl _
 ·simp
theorem zR_le (k:Int) (rows nulls:Nat) (b:List Nat):(Z.zR k rows nulls b).length≤b.length:=by
 unfold Z.zR
 split
 ·exact Nat.le_trans (oR_le _ k) (oR_le b k)
 ·exact Nat.le_refl _
theorem nR_le (rows nulls:Nat) (b:List Nat):(Z.nR rows nulls b).length≤b.length:=by
 unfold Z.nR
 split
 ·exact Nat.le_refl _
 ·rw[List.length_drop];omega
theorem r4_le (b:List Nat):(Z.r4 b).length≤b.length:=by
 unfold Z.r4 Z.fb
 simp only[List.length_drop]
 omega
def Z.rSc (b:List Nat):Z.S:={ Z.rS b with c:=((Z.cap (E.gN (Z.fb b)):Nat):Int) }
theorem rSc_parts (b:List Nat):(Z.rSc b).k=Z.rk b∧(Z.rSc b).c=((Z.cap (E.gN (Z.fb b)):Nat):Int)∧(Z.rSc b).rows=Z.rr' b∧(Z.rSc b).nulls=Z.rn b∧(Z.rSc b).ns=Z.nL (Z.rr' b) (Z.rn b) (Z.r4 b)∧(Z.rSc b).bd=Z.zR (Z.rk b) (Z.rr' b) (Z.rn b) (Z.r5 b)∧(Z.rSc b).mn=Z.zMn (Z.rk b) (Z.rr' b) (Z.rn b) (Z.r5 b)∧(Z.rSc b).mx=Z.zMx (Z.rk b) (Z.rr' b) (Z.rn b) (Z.r5 b):=by
 refine⟨?_,?_,?_,?_,?_,?_,?_,?_⟩<;>simp only[Z.rSc,Z.rS]
theorem half_read {b:List Nat} (h256:∀ x∈b,x<256) (h0:Z.hE b=0) (hn:Z.nE (Z.rr' b) (Z.rn b) (Z.r4 b)=0) (hm:b.length≤140737488355328):Z.Half (Z.rSc b):=by
 obtain⟨z1,z2,z3,z4,hz5⟩:=hE_zero h0
 have hk:Z.kindOk (Z.rk b)=true:=by
  cases hq:Z.kindOk (Z.rk b) with
  | true=>rfl
  | false=>exact absurd (.inl hq) hz5
 have hr:Z.rr' b≤4096:=by
  have:¬ 4096<Z.rr' b:=fun h=>hz5 (.inr (.inl h))
  omega
 have hnr:Z.rn b≤Z.rr' b:=by
  have:¬ Z.rr' b<Z.rn b:=fun h=>hz5 (.inr (.inr h))
  omega
 obtain⟨p1,p2⟩:=nul_two hr (r4_lt h256) hn
 obtain⟨q1,q2,q3,q4,q5,q6,_,_⟩:=rSc_parts b
 have p2':(Z.rSc b).ns=[]∨(Z.rSc b).ns.length=(Z.rSc b).rows:=by rw[q5,q3];exact p2
 refine⟨by rw[q1];exact hk,by rw[q2];omega,?_,?_,?_,by rw[q3];exact hr,by rw[q3,q4];exact hnr,p2',?_⟩
 ·rw[q2]
  unfold Z.cap
  omega
 ·rw[q6];exact zR_lt (r5_lt h256) _ _ _
 ·rw[q6]
  have h1:=zR_le (Z.rk b) (Z.rr' b) (Z.rn b) (Z.r5 b)
  have h2:(Z.r5 b).length≤(Z.r4 b).length:=nR_le _ _ _
  have h3:=r4_le b
  omega
 ·intro he
  rw[q4]
  rw[q5] at he
  by_cases h:Z.rn b=0
  ·exact h
  ·unfold Z.nE at hn
   unfold Z.nL at he
   rw[if_neg h] at hn he
   by_cases h1:(Z.r4 b).length<(Z.rr' b+7) / 8
   ·rw[if_pos h1] at hn;cases hn
   ·rw[if_neg h1] at hn
    have h2:=(ofL_two hr (fun x hx=>r4_lt h256 x (List.mem_of_mem_take hx)) hn).2
    rw[he] at h2
    have h3:([]:List Bool).length=0:=rfl
    omega
theorem isM_few {s:Z.S} (h:Z.IsM s):1≤s.c∧s.c≤4:=by
 have h1:=h.1
 unfold Z.vE at h1
 by_cases hg:Z.gE s.bd ((s.rows:Int) - (cntT s.ns:Int)) s.k s.c=0
 ·have:=gE_codec hg
  omega
 ·rw[if_pos hg] at h1;exact absurd h1 hg
theorem rSc_same {b:List Nat} (h:E.gN (Z.fb b)≤4097):Z.rSc b=Z.rS b:=by
 have:Z.cap (E.gN (Z.fb b))=E.gN (Z.fb b):=by unfold Z.cap;omega
 unfold Z.rSc
 rw[this]
 simp only[Z.rS,Z.rc]
theorem isM_cap {b:List Nat}:(Z.IsM (Z.rSc b)→Z.rSc b=Z.rS b)∧(Z.IsM (Z.rSc b)↔Z.IsM (Z.rS b)):=by
 by_cases h:E.gN (Z.fb b)≤4097
 ·have e:=rSc_same h
  exact⟨fun _=>e,by rw[e]⟩
 ·have h1:¬ Z.IsM (Z.rSc b):=fun hi=>by
   have h2:=(isM_few hi).2
   have h3:((Z.cap (E.gN (Z.fb b)):Nat):Int)≤4:=by rw[(rSc_parts b).2.1] at h2;exact h2
   unfold Z.cap at h3
   omega
  have h2:¬ Z.IsM (Z.rS b):=fun hi=>by
   have h2:=(isM_few hi).2
   have h3:((E.gN (Z.fb b):Nat):Int)≤4:=by simp only[Z.rS,Z.rc] at h2;exact h2
   omega
  exact⟨fun hi=>absurd hi h1,fun hi=>absurd hi h1,fun hi=>absurd hi h2⟩
theorem rE_made {b:List Nat} (h256:∀ x∈b,x<256) (h0:Z.hE b=0) (hn:Z.nE (Z.rr' b) (Z.rn b) (Z.r4 b)=0) (hz:Z.zE (Z.rk b) (Z.rr' b) (Z.rn b) (Z.r5 b)=0):(Z.IsM (Z.rSc b)→Z.rE b=0)∧(¬ Z.IsM (Z.rSc b)→Z.rE b=4):=by
 obtain⟨z1,z2,z3,z4,hz5⟩:=hE_zero h0
 have hk:Z.kindOk (Z.rk b)=true:=by
  cases hq:Z.kindOk (Z.rk b) with
  | true=>rfl
  | false=>exact absurd (.inl hq) hz5
 have hr:Z.rr' b≤4096:=by
  have:¬ 4096<Z.rr' b:=fun h=>hz5 (.inr (.inl h))
  omega
 have hnr:Z.rn b≤Z.rr' b:=by
  have:¬ Z.rr' b<Z.rn b:=fun h=>hz5 (.inr (.inr h))
  omega
 have hP:Z.Parts b:=⟨by omega,by omega,by omega,by omega,hk,hr,hnr,hn,hz⟩
 rw[isM_cap.2]
 exact isM_read h256 hP
end Go.Proofs.YtnkpgmibhpmdhaaGreat

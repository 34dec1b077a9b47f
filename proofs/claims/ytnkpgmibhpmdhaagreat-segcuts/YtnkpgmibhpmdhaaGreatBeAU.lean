/- Contracts and plain facts, one behind the other: SR GA T5 -/
import Derived.Test.YtnkpgmibhpmdhaaGreatBeAT
namespace Go.Proofs.YtnkpgmibhpmdhaaGreat
set_option linter.unusedVariables false
open Go.RowKit
theorem rb_lt:∀ {rs:List Z.R},(∀ r∈rs,Z.Wf r.v)→∀ y∈Z.rb rs,y<256
 | [],_,y,hy=>by simp[Z.rb] at hy
 | r :: rs,h,y,hy=>by
  rw[rb_cons] at hy
  rcases List.mem_append.1 hy with hy|hy
  ·exact E.leb_lt _ y hy
  ·rcases List.mem_append.1 hy with hy|hy
   ·exact pb_lt (l:=[r.v]) (by intro x hx;simp at hx;rw[hx];exact h r (by simp)) y (by simp[Z.pb];exact hy)
   ·exact rb_lt (fun x hx=>h x (by simp[hx])) y hy
theorem rcb_lt {l:List Z.V} {kind:Int} (h:∀ x∈l,Z.Wf x):∀ y∈Z.rcb l kind,y<256:=by
 unfold Z.rcb
 split
 ·exact rb_lt fun r hr=>h _ (run_mem hr)
 ·simp
theorem rcb_len {l:List Z.V} {kind:Int} (h:∀ x∈l,Z.Wf x):(Z.rcb l kind).length≤4276224:=by
 unfold Z.rcb
 split
 ·rename_i h0
  have h1:=rb_le (Z.runs l) (rfit_runs (fun x hx=>(h x hx).2.1) h0)
  have h2:=(chk_zero h0).2.1
  have h3:=runs_few l
  omega
 ·simp
theorem tl_i64 {kind:Int}:∀ (f n:Nat),n≤f→∀ (p:Option Z.V) (b:List Nat),(∀ x∈b,x<256)→∀ r∈Z.tl kind n p b,Z.I64 r.v.i
 | f,0,_,p,b,_,r,hr=>by rw[tl_zero] at hr;simp at hr
 | 0,n+1,hf,_,_,_,_,_=>absurd hf (by omega)
 | f+1,n+1,hf,p,b,h256,r,hr=>by
  by_cases h2:Z.r2 kind (n+1) p b=0
  ·have g2:=(r1_ok (r2_n h2).1).2.1
   rw[tl_step (by omega) h2] at hr
   rcases List.mem_cons.1 hr with rfl|hr
   ·exact oV_i64 (fun x hx=>h256 x (List.mem_of_mem_drop hx)) kind
   ·exact tl_i64 f (n+1 - E.gN b) (by omega) _ _ (rnR_lt h256) r hr
  ·unfold Z.tl at hr
   rw[Z.nX,if_neg h2] at hr
   simp at hr
theorem uL_i64 {b:List Nat} {n kind:Int} (h256:∀ x∈b,x<256):∀ x∈Z.sp (Z.uL b n kind),Z.I64 x.i:=fun x hx=>by
 obtain⟨r,hr,hx⟩:=List.mem_flatMap.1 hx
 rw[(List.mem_replicate.1 hx).2]
 unfold Z.uL at hr
 split at hr
 ·exact tl_i64 _ _ (Nat.le_refl _) none b h256 r hr
 ·simp at hr
theorem uE_two {b:List Nat} {n kind:Int} (h256:∀ x∈b,x<256) (h:Z.uE b n kind=0):∃ N:Nat,n=(N:Int)∧N≤4096∧(Z.sp (Z.uL b n kind)).length=N∧Z.chk (Z.sp (Z.uL b n kind)) kind=0∧Z.rcb (Z.sp (Z.uL b n kind)) kind=b:=by
 obtain⟨g1,g2,g3,g4⟩:=u_two h256 h
 obtain⟨h1,h2,h3,_⟩:=uE_zero h
 have hm:∀ x∈Z.sp (Z.uL b n kind),x.k=kind∧Z.may x=true:=fun x hx=>by
  obtain⟨r,hr,hx⟩:=List.mem_flatMap.1 hx
  rw[(List.mem_replicate.1 hx).2]
  exact g2 r hr
 have hc:Z.chk (Z.sp (Z.uL b n kind)) kind=0:=chk_of (kind_is h1) (by rw[g3];omega) (fun x hx=>(hm x hx).1) (fun x hx=>(hm x hx).2)
 exact⟨n.toNat,by omega,by omega,g3,hc,by rw[rcb_ok hc,runs_sp g1,g4]⟩
end Go.Proofs.YtnkpgmibhpmdhaaGreat
namespace Go.Proofs.YtnkpgmibhpmdhaaGreat
set_option linter.unusedVariables false
set_option maxRecDepth 10000
open Go.RowKit
def Z.bE (l:List Z.V) (kind codec:Int):Int:=if codec=1∨codec=2∨codec=3 then Z.chk l kind else if codec=4∧kind=1 then Z.chk l 1 else 1
def Z.bd (l:List Z.V) (kind codec:Int):List Nat:=if codec=1 then Z.cb l kind else if codec=2 then Z.rcb l kind else if codec=3 then Z.dcb l kind else if codec=4∧kind=1 then Z.decb l else []
def Z.gE (b:List Nat) (n kind codec:Int):Int:=if codec=1 then Z.cE b n kind else if codec=2 then Z.uE b n kind else if codec=3 then Z.dE b n kind else if codec=4∧kind=1 then Z.feE b n else 1
def Z.gL (b:List Nat) (n kind codec:Int):List Z.V:=if codec=1 then Z.cL b n kind else if codec=2 then Z.sp (Z.uL b n kind) else if codec=3 then Z.dVs b n kind else if codec=4∧kind=1 then Z.feL b n else []
theorem bE_chk {l:List Z.V} {kind codec:Int} (h:Z.bE l kind codec=0):Z.chk l kind=0:=by
 unfold Z.bE at h
 split at h
 ·exact h
 ·split at h
  ·rename_i h1;rw[h1.2];exact h
  ·cases h
theorem bE_codec {l:List Z.V} {kind codec:Int} (h:Z.bE l kind codec=0):codec=1∨codec=2∨codec=3∨(codec=4∧kind=1):=by
 unfold Z.bE at h
 split at h
 ·omega
 ·split at h
  ·omega
  ·cases h
theorem bd_one (l:List Z.V) (kind:Int):Z.bd l kind 1=Z.cb l kind:=by unfold Z.bd;rw[if_pos rfl]
theorem bd_two (l:List Z.V) (kind:Int):Z.bd l kind 2=Z.rcb l kind:=by unfold Z.bd;rw[if_neg (by decide),if_pos rfl]
theorem bd_three (l:List Z.V) (kind:Int):Z.bd l kind 3=Z.dcb l kind:=by unfold Z.bd;rw[if_neg (by decide),if_neg (by decide),if_pos rfl]
theorem bd_four (l:List Z.V):Z.bd l 1 4=Z.decb l:=by unfold Z.bd;rw[if_neg (by decide),if_neg (by decide),if_neg (by decide),if_pos ⟨rfl,rfl⟩]
theorem gE_one (b:List Nat) (n kind:Int):Z.gE b n kind 1=Z.cE b n kind:=by unfold Z.gE;rw[if_pos rfl]
theorem gE_two (b:List Nat) (n kind:Int):Z.gE b n kind 2=Z.uE b n kind:=by unfold Z.gE;rw[if_neg (by decide),if_pos rfl]
theorem gE_three (b:List Nat) (n kind:Int):Z.gE b n kind 3=Z.dE b n kind:=by unfold Z.gE;rw[if_neg (by decide),if_neg (by decide),if_pos rfl]
theorem gE_four (b:List Nat) (n:Int):Z.gE b n 1 4=Z.feE b n:=by unfold Z.gE;rw[if_neg (by decide),if_neg (by decide),if_neg (by decide),if_pos ⟨rfl,rfl⟩]
theorem gL_one (b:List Nat) (n kind:Int):Z.gL b n kind 1=Z.cL b n kind:=by unfold Z.gL;rw[if_pos rfl]
theorem gL_two (b:List Nat) (n kind:Int):Z.gL b n kind 2=Z.sp (Z.uL b n kind):=by unfold Z.gL;rw[if_neg (by decide),if_pos rfl]
theorem gL_three (b:List Nat) (n kind:Int):Z.gL b n kind 3=Z.dVs b n kind:=by unfold Z.gL;rw[if_neg (by decide),if_neg (by decide),if_pos rfl]
theorem gL_four (b:List Nat) (n:Int):Z.gL b n 1 4=Z.feL b n:=by unfold Z.gL;rw[if_neg (by decide),if_neg (by decide),if_neg (by decide),if_pos ⟨rfl,rfl⟩]
theorem gE_codec {b:List Nat} {n kind codec:Int} (h:Z.gE b n kind codec=0):codec=1∨codec=2∨codec=3∨(codec=4∧kind=1):=by
 unfold Z.gE at h
 split at h
 ·omega
 ·split at h
  ·omega
  ·split at h
   ·omega
   ·split at h
    ·omega
    ·cases h
theorem body_back {l:List Z.V} {kind codec:Int} (hwf:∀ x∈l,Z.Wf x) (h:Z.bE l kind codec=0):Z.gE (Z.bd l kind codec) (l.length:Int) kind codec=0∧Z.gL (Z.bd l kind codec) (l.length:Int) kind codec=l:=by
 have hc:=bE_chk h
 have hI:∀ x∈l,Z.I64 x.i:=fun x hx=>(hwf x hx).2.1
 rcases bE_codec h with rfl|rfl|rfl|⟨rfl,rfl⟩
 ·rw[bd_one,gE_one,gL_one]
  obtain⟨h1,h2,_⟩:=cE_back hc hwf rfl
  exact⟨h1,h2⟩
 ·rw[bd_two,gE_two,gL_two]
  obtain⟨h1,h2⟩:=u_back hI hc
  exact⟨h1,by rw[h2,sp_runs]⟩
 ·rw[bd_three,gE_three,gL_three]
  exact dback_is hc hwf rfl
 ·rw[bd_four,gE_four,gL_four]
  exact fe_back hI hc
theorem body_two {b:List Nat} {n kind codec:Int} (h256:∀ x∈b,x<256) (h:Z.gE b n kind codec=0):∃ N:Nat,n=(N:Int)∧(Z.gL b n kind codec).length=N∧Z.bE (Z.gL b n kind codec) kind codec=0∧Z.bd (Z.gL b n kind codec) kind codec=b:=by
 rcases gE_codec h with rfl|rfl|rfl|⟨rfl,rfl⟩
 ·rw[gE_one] at h
  rw[gL_one,bd_one]
  obtain⟨N,h1,h2,h3,h4⟩:=cE_zero h256 h
  exact⟨N,h1,h2,by unfold Z.bE;rw[if_pos (by omega)];exact h3,h4⟩
 ·rw[gE_two] at h
  rw[gL_two,bd_two]
  obtain⟨N,h1,_,h2,h3,h4⟩:=uE_two h256 h
  exact⟨N,h1,h2,by unfold Z.bE;rw[if_pos (by omega)];exact h3,h4⟩
 ·rw[gE_three] at h
  rw[gL_three,bd_three]
  obtain⟨N,h1,h2,h3,h4⟩:=dtwo_is h256 h
  exact⟨N,h1,h2,by unfold Z.bE;rw[if_pos (by omega)];exact h3,h4⟩
 ·rw[gE_four] at h
  rw[gL_four,bd_four]
  obtain⟨N,h1,h2,h3,h4⟩:=fe_two h256 h
  exact⟨N,h1,h2,by unfold Z.bE;rw[if_neg (by omega),if_pos ⟨rfl,rfl⟩];exact h3,h4⟩
theorem body_lt {l:List Z.V} {kind codec:Int} (hwf:∀ x∈l,Z.Wf x):∀ y∈Z.bd l kind codec,y<256:=by
 unfold Z.bd
 split
 ·exact cb_lt hwf
 ·split
  ·exact rcb_lt hwf
  ·split
   ·exact dcb_lt hwf
   ·split
    ·exact decb_lt fun x hx=>(hwf x hx).2.1
    ·simp
theorem body_len {l:List Z.V} {kind codec:Int} (hwf:∀ x∈l,Z.Wf x):(Z.bd l kind codec).length≤5000000:=by
 unfold Z.bd
 split
 ·have:=cb_len (kind:=kind) hwf;omega
 ·split
  ·have:=rcb_len (kind:=kind) hwf;omega
  ·split
   ·exact dcb_len hwf
   ·split
    ·have:=decb_len fun x hx=>(hwf x hx).2.1;omega
    ·simp
theorem gL_i64 {b:List Nat} {n kind codec:Int} (h256:∀ x∈b,x<256):∀ x∈Z.gL b n kind codec,Z.I64 x.i:=by
 unfold Z.gL
 split
 ·exact cL_i64 h256
 ·split
  ·exact uL_i64 h256
  ·split
   ·exact dVs_i64 h256
   ·split
    ·exact feL_i64 h256
    ·simp
end Go.Proofs.YtnkpgmibhpmdhaaGreat
namespace Go.Proofs.YtnkpgmibhpmdhaaGreat
set_option linter.unusedVariables false
open Go.RowKit
attribute [local go_sem] Oper.semAt_some
def jnTbl (B:Nat) (ao:Option Addr) (len cap:Nat) (bo:Option Addr) (lb cb c n:Nat) (ne:Bool) (v18 v19 v20:Value):List (Nat × V.Ent) :=
 [(0,V.Ent.is (.slice ao len cap)),(3,V.Ent.is (.pointer (some ⟨B,0,none⟩))),(9,V.Ent.is (.slice bo lb cb)),(10,V.Ent.is (.int .i64 (lb:Int))),(11,V.Ent.is (.slice ao len cap)),(12,V.Ent.is (.int .i64 (len:Int))),(13,V.Ent.is (.slice ao len cap)),(14,V.Ent.is (.int .i64 (c:Int))),(15,V.Ent.is (.int .i64 (n:Int))),(16,V.Ent.is (.bool ne)),(17,V.Ent.is (.bool ne)),(18,V.Ent.is v18),(19,V.Ent.is v19),(20,V.Ent.is v20)]
def rjTbl (B0 B6 B7 R g off len lb cb k x:Nat) (yk yi:Int) (ys:ByteArray):List (Nat × V.Ent) :=
 [(3,V.Ent.is (.pointer (some ⟨B0,0,none⟩))),(6,V.Ent.is (.pointer (some ⟨B6,0,none⟩))),(7,V.Ent.is (.pointer (some ⟨B7,0,none⟩))),(8,V.Ent.is (.int .i64 (x:Int))),(27,V.Ent.is (.slice (some ⟨R,0,none⟩) len len)),(28,V.Ent.is (.int .i64 (x:Int))),(29,V.Ent.is (.slice (some ⟨g,off,none⟩) lb cb)),(30,V.Ent.is (.int .i64 (k:Int))),(31,V.Ent.is (.pointer (some ⟨g,off+k*3,none⟩))),(32,V.Ent.is (.agg #[.int .i64 yk,.int .i64 yi,.string ys])),(33,V.Ent.is (.pointer (some ⟨R,x*3,none⟩)))]
def HoldsJ (W:World) (B6 B7 R len n₀:Nat) (m:List Z.V) (k:Nat):Prop:=Boxed W B6 42 (.slice (some ⟨R,0,none⟩) len len)∧OwnV W n₀ (.slice (some ⟨R,0,none⟩) len len) m∧Boxed W B7 3 (.int .i64 (k:Int))
theorem owns_own {W W':World} {row:Option Nat} {B:Nat} {e:TypeId} {size:Nat} {v:Value} {n:Nat} {xs:List Value} (h:W.ownsRow B e size v n xs) (hg:W.grownBy W' row) (hr:∀ r,row=some r→∃ o:Obj,W.heap[r]?=some o∧o.isCells=false):W'.ownsRow B e size v n xs:=by
 refine owns_of_block h fun g hv=>hg.block g (owns_lt h hv).2 (fun e'=>?_)
 obtain⟨o,ho,hc⟩:=hr g e'.symm
 rcases h.2 with ⟨h1,_⟩|⟨g',cap,cur,h1,_,hh,_⟩
 ·rw[h1] at hv;simp[Value.ownBlock] at hv
 ·rw[h1] at hv
  simp[Value.ownBlock] at hv
  subst hv
  rw[ho] at hh
  obtain rfl:=Option.some.inj hh
  simp[Obj.isCells] at hc
theorem holdsJ_own {β:Type} (B6 B7 R len n₀:Nat) (f:β→List Z.V) (k:β→Nat):Own (fun s W=>HoldsJ W B6 B7 R len n₀ (f s) (k s)):=by
 intro s W W' row h hg hr
 obtain⟨h1,h2,h3⟩:=h
 exact⟨boxed_own B6 42 (fun _:β=>.slice (some ⟨R,0,none⟩) len len) s W W' row h1 hg hr,owns_own h2 hg hr,boxed_own B7 3 (fun s:β=>.int .i64 (k s:Int)) s W W' row h3 hg hr⟩
set_option maxRecDepth 100000 in
set_option maxHeartbeats 4000000 in
theorem zjoin_any (ao:Option Addr) (len cap:Nat) (bs:List Bool) (bo:Option Addr) (lb cb:Nat) (l:List Z.V) (w:World) (hn:Sb w ao len cap bs) (hl:SlV w bo lb cb l) (hm:len*32≤140737488355328) (hm2:lb≤140737488355328) :
  Calls Tryz.prog 127 #[.slice ao len cap,.slice bo lb cb] w fun e w'=>∃ v,e=.returned (.tuple #[v,.int .i64 (joinE bs l)])∧OwnV w' w.heap.size v (joinL bs l)∧Below w.heap.size w w':=by
 have HN:=hide hn
 have HL:=hide hl
 obtain⟨c,hc⟩:∃ c,cntT bs=c:=⟨_,rfl⟩
 obtain⟨n,hn'⟩:∃ n,bs.count false=n:=⟨_,rfl⟩
 have hcn:n+c=len:=by rw[← hc,← hn',← hn.1];exact count_tf bs
 have hlm:len≤140737488355328:=by omega
 have hsub:∀ w:World,(binOp .sub 3 (.int .i64 (len:Int)) (.int .i64 (c:Int))).run Tryz.prog w=.ok (.int .i64 (n:Int)) w:=by
  intro w
  have h1:(len:Int) - (c:Int)=(n:Int):=by omega
  simp[go_sem]
  rw[h1]
  rw[IntKind.wrap_i64]
  omega
 have HC:=hide hc
 have HNN:=hide hn'
 have HSUB:=hide hsub
 clear hn hl hc hn' hsub
 have hbx:=Boxed.new w 42 (.slice bo lb cb)
 have hB0:=below_one w (.cells #[.slice bo lb cb] 42)
 refine calls_marks Tryz.func127 rfl ?_
 simp only[Tryz.ntmps127,List.size_toArray,List.length_cons,List.length_nil,Nat.reduceAdd,Nat.reduceSub,Array.replicate_succ,Array.replicate_zero,List.push_toArray,List.append_toArray,List.nil_append,List.cons_append]
 go_wp2_with fail
 obtain⟨w1,hw1⟩:∃ w1,w.alloc (.cells #[.slice bo lb cb] 42)=w1:=⟨_,rfl⟩
 have hs1:w1.heap.size=w.heap.size+1:=by rw[← hw1];simp
 rw[hw1] at hbx hB0 ⊢
 have HS1:=hide hs1
 have hsn:=HN.out.below hB0
 have hsl:=HL.out.below hB0
 clear hw1 hs1
 by_cases hne:lb=n
 ·subst hne
  obtain⟨q,hq⟩:∃ q,anyN l=q:=⟨_,rfl⟩
  have HQ:=hide hq
  refine V.wp_region2 (w0:=w1) [9,10,11,12,13,14,15,16,17,18,19,20] [0,3] (jnTbl w.heap.size ao len cap bo lb cb c lb false (.slice bo lb cb) (.bool q) (.bool q)) rfl (by kernel_rfl) (by kernel_rfl) (Below.refl _ _) ?hb ?hs ?hd
  case hb =>
   intro d hd
   simp only[List.mem_cons,List.not_mem_nil,or_false] at hd
   rcases hd with rfl|rfl<;>rfl
  case hs =>
   refine⟨?_,?_,?_,?_,?_,?_,?_,?_,?_,?_,?_,?_,trivial⟩
   ·exact V.Step.ldT (.inl rfl) rfl rfl (.inl ⟨rfl,_,_,_,rfl⟩) hbx.lt hbx.cell (fun _ h=>by cases h;rfl)
   ·exact V.Step.lenT (.inl rfl) rfl (.inl rfl) (fun v w h=>⟨_,_,h⟩) (fun _ h=>by cases h;rfl)
   ·exact V.Step.move (.inl rfl) (.inl rfl) (.inl ⟨_,rfl⟩) (fun _ h=>by cases h;rfl)
   ·exact V.Step.lenT (.inl rfl) rfl (.inr rfl) (fun v w h=>⟨_,_,h⟩) (fun _ h=>by cases h;rfl)
   ·exact V.Step.move (.inl rfl) (.inl rfl) (.inl ⟨_,rfl⟩) (fun _ h=>by cases h;rfl)
   ·refine V.Step.call1 (.inl rfl) rfl rfl Tryz.func57 (by kernel_rfl) rfl fun wa hwa=>?_
    refine (zcount_any _ _ _ bs wa (hsn.below hwa) hlm).mono ?_
    rintro e wb ⟨rfl,hb⟩
    exact⟨_,rfl,hb,fun d h=>by cases h;rw[HC.out];rfl⟩
   ·exact V.Step.bin (v1:=.int .i64 (len:Int)) (v2:=.int .i64 (c:Int)) (v:=.int .i64 (lb:Int)) (.inl rfl) rfl (.inl ⟨_,rfl⟩) (.inl ⟨_,rfl⟩) rfl rfl (fun w=>⟨rfl,HSUB.out w⟩) (fun _ h=>by cases h;rfl)
   ·exact V.Step.bin (v1:=.int .i64 (lb:Int)) (v2:=.int .i64 (lb:Int)) (v:=.bool false) (.inl rfl) rfl (.inl ⟨_,rfl⟩) (.inl ⟨_,rfl⟩) rfl rfl (fun w=>⟨rfl,by simp[go_sem]⟩) (fun _ h=>by cases h;rfl)
   ·exact V.Step.move (.inl rfl) (.inl rfl) (.inl ⟨_,rfl⟩) (fun _ h=>by cases h;rfl)
   ·exact V.Step.ldT (.inr ⟨_,_,_,rfl,rfl,rfl⟩) rfl rfl (.inl ⟨rfl,_,_,_,rfl⟩) hbx.lt hbx.cell (fun _ h=>by cases h;rfl)
   ·refine V.Step.callF (.inr ⟨_,_,_,rfl,rfl,rfl⟩) rfl rfl Tryz.func63 (by kernel_rfl) rfl fun wa hwa=>?_
    refine (contains_any _ _ _ l wa (hsl.below hwa) hm2).mono ?_
    rintro e wb ⟨rfl,hb⟩
    exact⟨_,rfl,hb,fun d h=>by cases h;rw[hq];rfl⟩
   ·exact V.Step.pick (b:=false) (.inl rfl) rfl ⟨_,rfl,rfl⟩ (.inl ⟨_,rfl⟩) (fun _ h=>by cases h;rfl)
  case hd =>
  intro vs w2 hw2 hk
  have v9:vs 9=.slice bo lb cb:=hk 0 _ 9 rfl rfl
  have v10:vs 10=.int .i64 (lb:Int):=hk 1 _ 10 rfl rfl
  have v11:vs 11=.slice ao len cap:=hk 2 _ 11 rfl rfl
  have v12:vs 12=.int .i64 (len:Int):=hk 3 _ 12 rfl rfl
  have v13:vs 13=.slice ao len cap:=hk 4 _ 13 rfl rfl
  have v14:vs 14=.int .i64 (c:Int):=hk 5 _ 14 rfl rfl
  have v15:vs 15=.int .i64 (lb:Int):=hk 6 _ 15 rfl rfl
  have v16:vs 16=.bool false:=hk 7 _ 16 rfl rfl
  have v17:vs 17=.bool false:=hk 8 _ 17 rfl rfl
  have v18:vs 18=.slice bo lb cb:=hk 9 _ 18 rfl rfl
  have v19:vs 19=.bool q:=hk 10 _ 19 rfl rfl
  have v20:vs 20=.bool q:=hk 11 _ 20 rfl rfl
  simp only[V.puts,List.foldl_cons,List.foldl_nil,v9,v10,v11,v12,v13,v14,v15,v16,v17,v18,v19,v20,Act.put,List.setIfInBounds_toArray,List.set_cons_zero,List.set_cons_succ]
  clear hk v9 v10 v11 v12 v13 v14 v15 v16 v17 v18 v19 v20 hq
  have hb2:=bthen hB0 hw2
  have hbx2:Boxed w2 w.heap.size 42 (.slice bo lb cb):=(hw2.block _ hbx.lt).trans hbx
  have HW2:=hide hw2
  have HB2:=hide hb2
  have HBX:=hide hbx2
  have HBB:=hide hB0
  have HBX1:=hide hbx
  clear hw2 hb2 hbx hbx2 hB0 hsn hsl
  cases q with
  | true =>
   have hok:joinOk bs l=false:=by unfold joinOk;rw[HQ.out];simp
   have HE:Hid (joinE bs l=4):=by show _=_;unfold joinE;rw[hok];rfl
   have HLL:Hid (joinL bs l=[]):=by show _=_;unfold joinL;rw[hok];rfl
   clear hok
   go_wp2
   refine⟨_,results_tmp2 (t:=4) (u:=5) rfl _ _ _,.slice none 0 0,?_,?_,HB2.out⟩
   ·rw[HE.out];rfl
   ·rw[HLL.out];exact World.ownsRow_nil _ _ _ _
  | false =>
   obtain⟨i0,hi0,hz0,hz1,hz2⟩:=info_parts Tryz.infoVal
   have hsz2:=HW2.out.size
   go_wp2_with (at_make;refine wpList_make_full _ rfl _ _ 42 rfl w1.heap.size 25 i0 _ 3 Tryz.underlying42 hi0 hz0 hz1 _ _ _ _ len rfl rfl rfl rfl (by rw[hz2];omega) (by unfold maxLen;omega) hsz2 ?_)
   intro w3 ho hg
   have ho3:OwnV w3 w1.heap.size (.slice (some ⟨w2.heap.size,0,none⟩) len len) (laid l len []):=by
    unfold OwnV
    rw[laid_nil,cellsV_replicate,List.length_replicate]
    exact ho
   have hb3:Below w1.heap.size w1 w3:=HW2.out.grown hg (by omega) (by simp)
   have HO3:=hide ho3
   have HB3:=hide hb3
   clear ho ho3 hg hb3
   go_wp2_with fail
   refine (there_any _ _ _ _).mono ?_
   rintro e w4 ⟨rfl,rfl⟩
   go_wp2_with fail
   have b6:=((Boxed.new w3 42 (.slice (some ⟨w2.heap.size,0,none⟩) len len)).alloc (.cells #[.int .i64 0] 3)).alloc (.cells #[.slice ao len cap] 28)
   have b7:=(Boxed.new (w3.alloc (.cells #[.slice (some ⟨w2.heap.size,0,none⟩) len len] 42)) 3 (.int .i64 0)).alloc (.cells #[.slice ao len cap] 28)
   have bN:=Boxed.new ((w3.alloc (.cells #[.slice (some ⟨w2.heap.size,0,none⟩) len len] 42)).alloc (.cells #[.int .i64 0] 3)) 28 (.slice ao len cap)
   have hs3:=HB3.out.size
   have hb4:Below w1.heap.size w1 (((w3.alloc (.cells #[.slice (some ⟨w2.heap.size,0,none⟩) len len] 42)).alloc (.cells #[.int .i64 0] 3)).alloc (.cells #[.slice ao len cap] 28)):=((HB3.out.alloc hs3 _).alloc (by simp;omega) _).alloc (by simp;omega) _
   have ho4:=((HO3.out.alloc (.cells #[.slice (some ⟨w2.heap.size,0,none⟩) len len] 42)).alloc (.cells #[.int .i64 0] 3)).alloc (.cells #[.slice ao len cap] 28)
   simp only[World.size_alloc] at b7 bN
   have hs4:(((w3.alloc (.cells #[.slice (some ⟨w2.heap.size,0,none⟩) len len] 42)).alloc (.cells #[.int .i64 0] 3)).alloc (.cells #[.slice ao len cap] 28)).heap.size=w3.heap.size+1+1+1:=by simp
   obtain⟨w4,hw4⟩:∃ w4,((w3.alloc (.cells #[.slice (some ⟨w2.heap.size,0,none⟩) len len] 42)).alloc (.cells #[.int .i64 0] 3)).alloc (.cells #[.slice ao len cap] 28)=w4:=⟨_,rfl⟩
   rw[hw4] at b6 b7 bN hb4 ho4 hs4 ⊢
   have hsn4:Sb w4 ao len cap bs:=HN.out.below (bthen HBB.out hb4)
   have hlow:∀ x,ao=some x→len≠0→x.block<w1.heap.size:=fun x hx h0=>by
    rcases HN.out.2.2.2.2 with h5|⟨b,off,hao,hlt,h5⟩
    ·exact absurd h5 h0
    ·rw[hao] at hx;obtain rfl:=Option.some.inj hx;have:=HS1.out;simp at hlt ⊢;omega
   have HPL:Hid ((plc bs len len).length=lb):=by
    have h1:=plc_false bs bs.length (Nat.le_refl _)
    rw[List.take_length,HN.out.1,HNN.out] at h1
    exact h1
   refine (wpIn_wide (n:=9)).1 (wpIn_rangeFunc_ownG rfl (by decide) (gf:=96) (lb:=#[.pointer (some ⟨w3.heap.size+1+1,0,none⟩)]) rfl trivial (enters_of Tryz.func96 (by kernel_rfl) rfl)
    (there_stops (w3.heap.size+1+1) w1.heap.size ao len cap bs w4 (by omega) (by omega) hlm bN.cell hsn4 hlow) belowK_t (belowK_b (by omega)) (Below.refl _ _) (fun _=>rfl)
    (fun pre W=>HoldsJ W w3.heap.size (w3.heap.size+1) w2.heap.size len w1.heap.size (laid l len pre) pre.length∧Below w1.heap.size w1 W)
    (fun _ _ _=>False)
    (OwnFrom.and (Own.from (holdsJ_own w3.heap.size (w3.heap.size+1) w2.heap.size len w1.heap.size (fun pre:List { i:Nat // i<len }=>laid l len pre) (fun pre=>pre.length)) _) (ownFrom_below (Nat.le_refl _) (by omega)))
    (fun _ _ _ _ _ hs _ _=>hs)
    ⟨⟨b6,ho4,b7⟩,hb4⟩
    (fun x=>{ tmps:=#[.slice ao len cap,.slice bo lb cb,undef,.pointer (some ⟨w.heap.size,0,none⟩),.slice none 0 0,.int .i64 0,.pointer (some ⟨w3.heap.size,0,none⟩),.pointer (some ⟨w3.heap.size+1,0,none⟩),.int .i64 ((x.1:Nat):Int),.slice bo lb cb,.int .i64 (lb:Int),.slice ao len cap,.int .i64 (len:Int),.slice ao len cap,.int .i64 (c:Int),.int .i64 (lb:Int),.bool false,.bool false,.slice bo lb cb,.bool false,.bool false,.slice ao len cap,.int .i64 (len:Int),.slice (some ⟨w2.heap.size,0,none⟩) len len,.slice ao len cap,.func (.func 96) #[] #[.pointer (some ⟨w3.heap.size+1+1,0,none⟩)],.int .i64 ((x.1:Nat):Int),undef,undef,undef,undef,undef,undef,undef,undef,undef,undef],defers:=[] }) ?assign ?body ?done ?stop)
   case assign =>
    intro l x W K hK
    gi_wp2
    simpa using hK
   case body =>
    rintro lo pre x W ⟨⟨h6,hrow,h7⟩,hB⟩ hlt2
    obtain⟨x,hxj⟩:=x
    obtain⟨k,hk⟩:∃ k,pre.length=k:=⟨_,rfl⟩
    rw[hk] at h7 hlt2
    have hkl:k<lb:=by have:=HPL.out;omega
    obtain⟨y,hy⟩:∃ y,l[k]?=some y:=⟨l[k]'(by rw[HL.out.1];exact hkl),List.getElem?_eq_getElem _⟩
    obtain⟨yk,yi,ys⟩:=y
    rcases HL.out.2.2.2.2 with h5|⟨g,off,hao,hlb,h5⟩
    ·omega
    subst hao
    obtain⟨e1,e2,e3⟩:=h5 k _ hy
    have hwW:Below w.heap.size w W:=bthen HBB.out hB
    have d1:W.cell? ⟨g,off+k*3,none⟩=some (.int .i64 yk):=by rw[hwW.cell (p:=⟨g,off+k*3,none⟩) hlb];exact e1
    have d2:W.cell? ⟨g,off+k*3+1,none⟩=some (.int .i64 yi):=by rw[hwW.cell (p:=⟨g,off+k*3+1,none⟩) hlb];exact e2
    have d3:W.cell? ⟨g,off+k*3+2,none⟩=some (.string ys):=by rw[hwW.cell (p:=⟨g,off+k*3+2,none⟩) hlb];exact e3
    have hgW:g<W.heap.size:=by have:=hwW.size;omega
    have hb0:Boxed W w.heap.size 42 (.slice (some ⟨g,off,none⟩) lb cb):=(hB.block _ HBX1.out.lt).trans HBX1.out
    have hgd:l.getD k Z.z0=⟨yk,yi,ys⟩:=by simp[List.getD,hy]
    obtain⟨m,hm'⟩:∃ m,laid l len pre=m:=⟨_,rfl⟩
    have hml:m.length=len:=by rw[← hm',laid_length]
    rw[hm'] at hrow
    refine wpIn_block (wpIn_seq (region_in (by kernel_rfl) (by kernel_rfl) (by rintro⟨_,_,h⟩;exact h) ?_))
    refine V.any_region_tail (w0:=W) 7 [27,28,29,30,31,32,33] [3,6,7,8] (rjTbl w.heap.size w3.heap.size (w3.heap.size+1) w2.heap.size g off len lb cb k x yk yi ys) (by decide) rfl (by kernel_rfl) (by kernel_rfl) (Below.refl _ _) ?hb ?hs ?hd
    case hb =>
     intro d hd
     simp only[List.mem_cons,List.not_mem_nil,or_false] at hd
     rcases hd with rfl|rfl|rfl|rfl<;>rfl
    case hs =>
     refine⟨?_,?_,?_,?_,?_,?_,?_,trivial⟩
     ·exact V.Step.ldT (.inl rfl) rfl rfl (.inl ⟨rfl,_,_,_,rfl⟩) h6.lt h6.cell (fun _ h=>by cases h;rfl)
     ·exact V.Step.move (.inl rfl) (.inl rfl) (.inl ⟨_,rfl⟩) (fun _ h=>by cases h;rfl)
     ·exact V.Step.ldT (.inl rfl) rfl rfl (.inl ⟨rfl,_,_,_,rfl⟩) hb0.lt hb0.cell (fun _ h=>by cases h;rfl)
     ·exact V.Step.ldT (.inl rfl) rfl rfl (.inr (.inr ⟨rfl,_,rfl⟩)) h7.lt h7.cell (fun _ h=>by cases h;rfl)
     ·exact V.Step.idxV (k:=.i64) (i:=(k:Int)) (p:=.pointer (some ⟨g,off+k*3,none⟩)) (.inl rfl) rfl rfl (.inl ⟨_,rfl⟩) rfl (by omega) (by omega) rfl (fun _ h=>by cases h;rfl)
     ·exact V.Step.ldV (.inl rfl) rfl rfl hgW d1 d2 d3 (fun _ h=>by cases h;rfl)
     ·exact V.Step.idxV (k:=.i64) (i:=(x:Int)) (p:=.pointer (some ⟨w2.heap.size,x*3,none⟩)) (.inl rfl) rfl rfl (.inl ⟨_,rfl⟩) rfl (by omega) (by omega) (by simp) (fun _ h=>by cases h;rfl)
    case hd =>
    intro vs wa hwa hkn
    have v27:vs 27=.slice (some ⟨w2.heap.size,0,none⟩) len len:=hkn 0 _ 27 rfl rfl
    have v28:vs 28=.int .i64 (x:Int):=hkn 1 _ 28 rfl rfl
    have v29:vs 29=.slice (some ⟨g,off,none⟩) lb cb:=hkn 2 _ 29 rfl rfl
    have v30:vs 30=.int .i64 (k:Int):=hkn 3 _ 30 rfl rfl
    have v31:vs 31=.pointer (some ⟨g,off+k*3,none⟩):=hkn 4 _ 31 rfl rfl
    have v32:vs 32=.agg #[.int .i64 yk,.int .i64 yi,.string ys]:=hkn 5 _ 32 rfl rfl
    have v33:vs 33=.pointer (some ⟨w2.heap.size,x*3,none⟩):=hkn 6 _ 33 rfl rfl
    simp only[V.puts,List.foldl_cons,List.foldl_nil,v27,v28,v29,v30,v31,v32,v33,Act.put,List.setIfInBounds_toArray,List.set_cons_zero,List.set_cons_succ]
    clear hkn v27 v28 v29 v30 v31 v32 v33
    simp only[List.drop]
    have hra:=OwnV.below hrow hwa
    unfold OwnV at hra
    rw[hml] at hra
    obtain⟨z,hz⟩:∃ z,m[x]?=some z:=⟨m[x]'(by rw[hml];exact hxj),List.getElem?_eq_getElem _⟩
    obtain⟨z0,z1,z2⟩:=cellsV_get m x z hz
    have c0:=(hra.cellAt (x*3) (by omega)).trans z0
    have c1:=(hra.cellAt (x*3+1) (by omega)).trans z1
    have c2:=(hra.cellAt (x*3+2) (by omega)).trans z2
    have f0:=hra.frozenAt (x*3)
    have f1:=hra.frozenAt (x*3+1)
    have f2:=hra.frozenAt (x*3+2)
    have hva6:Boxed wa w3.heap.size 42 (.slice (some ⟨w2.heap.size,0,none⟩) len len):=(hwa.block _ h6.lt).trans h6
    have hva7:Boxed wa (w3.heap.size+1) 3 (.int .i64 (k:Int)):=(hwa.block _ h7.lt).trans h7
    have HRA:=hide hra
    have HVA6:=hide hva6
    have HVA7:=hide hva7
    have HWA:=hide hwa
    have HML:=hide hml
    have HBW:=hide hB
    have HMP:=hide hm'
    have HGD:=hide hgd
    have HKP:=hide hk
    clear hra hva6 hva7 hwa hml hB hm' hgd hrow h6 h7 hb0 hwW d1 d2 d3 e1 e2 e3 h5 hy hk z0 z1 z2 hz hw4 b6 b7 bN hb4 ho4 hsn4 hlow HS1 hs4
    have hR3:w2.heap.size<w3.heap.size:=(owns_lt HO3.out rfl).2
    go_wp2_with fail
    have hrb:=((((HRA.out.stored (x*3) (.int .i64 yk)).1.stored (x*3+1) (.int .i64 yi)).1).stored (x*3+2) (.string ys)).1
    have hrb2:OwnV (((wa.setCell ⟨w2.heap.size,x*3,none⟩ (.int .i64 yk)).setCell ⟨w2.heap.size,x*3+1,none⟩ (.int .i64 yi)).setCell ⟨w2.heap.size,x*3+2,none⟩ (.string ys)) w1.heap.size (.slice (some ⟨w2.heap.size,0,none⟩) len len) (m.set x ⟨yk,yi,ys⟩):=by
     unfold OwnV
     rw[cellsV_set m x ⟨yk,yi,ys⟩ (by rw[HML.out];exact hxj),List.length_set,HML.out]
     exact hrb
    have hx6:Boxed (((wa.setCell ⟨w2.heap.size,x*3,none⟩ (.int .i64 yk)).setCell ⟨w2.heap.size,x*3+1,none⟩ (.int .i64 yi)).setCell ⟨w2.heap.size,x*3+2,none⟩ (.string ys)) w3.heap.size 42 (.slice (some ⟨w2.heap.size,0,none⟩) len len):=((Below.heap_setCell _ _ _ _ (by simp;omega)).trans ((Below.heap_setCell _ _ _ _ (by simp;omega)).trans (Below.heap_setCell _ _ _ _ (by simp;omega)))).trans HVA6.out
    have hx7:Boxed (((wa.setCell ⟨w2.heap.size,x*3,none⟩ (.int .i64 yk)).setCell ⟨w2.heap.size,x*3+1,none⟩ (.int .i64 yi)).setCell ⟨w2.heap.size,x*3+2,none⟩ (.string ys)) (w3.heap.size+1) 3 (.int .i64 (k:Int)):=((Below.heap_setCell _ _ _ _ (by simp;omega)).trans ((Below.heap_setCell _ _ _ _ (by simp;omega)).trans (Below.heap_setCell _ _ _ _ (by simp;omega)))).trans HVA7.out
    have hko:KeepsOthers W (((wa.setCell ⟨w2.heap.size,x*3,none⟩ (.int .i64 yk)).setCell ⟨w2.heap.size,x*3+1,none⟩ (.int .i64 yi)).setCell ⟨w2.heap.size,x*3+2,none⟩ (.string ys)) :=
     (((KeepsOthers.mk HWA.out.size fun k o hk0 _=>(HWA.out.block k (lt_of_block hk0)).trans hk0).trans (KeepsOthers.setCell _ _ _)).trans (KeepsOthers.setCell _ _ _)).trans (KeepsOthers.setCell _ _ _)
    have hbw:Below w1.heap.size W (((wa.setCell ⟨w2.heap.size,x*3,none⟩ (.int .i64 yk)).setCell ⟨w2.heap.size,x*3+1,none⟩ (.int .i64 yi)).setCell ⟨w2.heap.size,x*3+2,none⟩ (.string ys)) :=
     (((HWA.out.mono HBW.out.size).setCell (p:=⟨w2.heap.size,x*3,none⟩) hsz2 _).setCell (p:=⟨w2.heap.size,x*3+1,none⟩) hsz2 _).setCell (p:=⟨w2.heap.size,x*3+2,none⟩) hsz2 _
    obtain⟨wb,hwb⟩:∃ wb,((wa.setCell ⟨w2.heap.size,x*3,none⟩ (.int .i64 yk)).setCell ⟨w2.heap.size,x*3+1,none⟩ (.int .i64 yi)).setCell ⟨w2.heap.size,x*3+2,none⟩ (.string ys)=wb:=⟨_,rfl⟩
    rw[hwb] at hrb2 hx6 hx7 hko hbw ⊢
    have hc7:=hx7.cell
    have hf7:=hx7.frozen
    have HRB:=hide hrb2
    have HX6:=hide hx6
    have HX7:=hide hx7
    have HKO:=hide hko
    have HBWB:=hide hbw
    clear hrb hrb2 hx6 hx7 hko hbw hwb c0 c1 c2 f0 f1 f2 HRA HVA6 HVA7 HWA
    gi_wp2
    refine⟨(HKO.out.trans (KeepsOthers.setCell _ _ _)).from _,HBWB.out.setCell (p:=⟨w3.heap.size+1,0,none⟩) (by simp;omega) _,⟨HX6.out.other (by omega) _,?_,?_⟩,HBW.out.trans (HBWB.out.setCell (p:=⟨w3.heap.size+1,0,none⟩) (by simp;omega) _)⟩
    ·rw[laid_snoc,HMP.out,HKP.out,HGD.out]
     exact World.ownsRow.kept HRB.out (grownBy_setCell' wb (w3.heap.size+1) _) (.inr (HX7.out.not_row (by decide) HRB.out).symm)
    ·have h8:=HX7.out.set (.int .i64 ((k:Int)+1))
     rw[List.length_append,HKP.out,List.length_singleton,Int.natCast_add]
     exact h8
   case done =>
    rintro D ys W hD rfl ⟨⟨h6,hrow,h7⟩,hB⟩ hK
    rw[laid_all bs l HN.out.1] at hrow
    have hok:joinOk bs l=true:=by
     unfold joinOk
     rw[HQ.out,HL.out.1,HC.out,HN.out.1,hcn]
     simp
    have HE:Hid (joinE bs l=0):=by show _=_;unfold joinE;rw[hok];rfl
    have HLL:Hid (joinL bs l=joinV bs l):=by show _=_;unfold joinL;rw[hok];rfl
    have hc6:=h6.cell
    have HROW:=hide hrow
    have HBW:=hide hB
    have HK:=hide hK
    have HD:Hid (w1.heap.size≤D):=by show _≤_;omega
    clear h6 h7 hrow hB hK hD hok hw4 b6 b7 bN hb4 ho4 hsn4 hlow hs4
    go_wp2
    refine⟨by simp,.inl ⟨_,_,rfl,run_takeDeferred HK.out,?_⟩⟩
    have hws:=HBB.out.size
    have hrow2:OwnV W w.heap.size (.slice (some ⟨w2.heap.size,0,none⟩) len len) (joinV bs l):=owns_base HROW.out fun g hg=>by have:=(owns_lt HROW.out hg).1;omega
    refine⟨_,results_tmp2 (t:=4) (u:=5) rfl _ _ _,.slice (some ⟨w2.heap.size,0,none⟩) len len,?_,?_,(bthen HBB.out HBW.out).trans (belowK_b (w:=w1) hws W D _ _ HD.out HK.out rfl rfl)⟩
    ·rw[HE.out];rfl
    ·rw[HLL.out]
     exact ownsRow_putObj hrow2 _ HK.out rfl
   case stop =>
    rintro D c pre W _ _ h _
    exact h.elim
 ·refine V.wp_region2 (w0:=w1) [9,10,11,12,13,14,15,16,17,18,19,20] [0,3] (jnTbl w.heap.size ao len cap bo lb cb c n true undef undef (.bool true)) rfl (by kernel_rfl) (by kernel_rfl) (Below.refl _ _) ?hb ?hs ?hd
  case hb =>
   intro d hd
   simp only[List.mem_cons,List.not_mem_nil,or_false] at hd
   rcases hd with rfl|rfl<;>rfl
  case hs =>
   refine⟨?_,?_,?_,?_,?_,?_,?_,?_,?_,?_,?_,?_,trivial⟩
   ·exact V.Step.ldT (.inl rfl) rfl rfl (.inl ⟨rfl,_,_,_,rfl⟩) hbx.lt hbx.cell (fun _ h=>by cases h;rfl)
   ·exact V.Step.lenT (.inl rfl) rfl (.inl rfl) (fun v w h=>⟨_,_,h⟩) (fun _ h=>by cases h;rfl)
   ·exact V.Step.move (.inl rfl) (.inl rfl) (.inl ⟨_,rfl⟩) (fun _ h=>by cases h;rfl)
   ·exact V.Step.lenT (.inl rfl) rfl (.inr rfl) (fun v w h=>⟨_,_,h⟩) (fun _ h=>by cases h;rfl)
   ·exact V.Step.move (.inl rfl) (.inl rfl) (.inl ⟨_,rfl⟩) (fun _ h=>by cases h;rfl)
   ·refine V.Step.call1 (.inl rfl) rfl rfl Tryz.func57 (by kernel_rfl) rfl fun wa hwa=>?_
    refine (zcount_any _ _ _ bs wa (hsn.below hwa) hlm).mono ?_
    rintro e wb ⟨rfl,hb⟩
    exact⟨_,rfl,hb,fun d h=>by cases h;rw[HC.out];rfl⟩
   ·exact V.Step.bin (v1:=.int .i64 (len:Int)) (v2:=.int .i64 (c:Int)) (v:=.int .i64 (n:Int)) (.inl rfl) rfl (.inl ⟨_,rfl⟩) (.inl ⟨_,rfl⟩) rfl rfl (fun w=>⟨rfl,HSUB.out w⟩) (fun _ h=>by cases h;rfl)
   ·exact V.Step.bin (v1:=.int .i64 (lb:Int)) (v2:=.int .i64 (n:Int)) (v:=.bool true) (.inl rfl) rfl (.inl ⟨_,rfl⟩) (.inl ⟨_,rfl⟩) rfl rfl (fun w=>⟨rfl,by simp[go_sem];omega⟩) (fun _ h=>by cases h;rfl)
   ·exact V.Step.move (.inl rfl) (.inl rfl) (.inl ⟨_,rfl⟩) (fun _ h=>by cases h;rfl)
   ·exact V.Step.skip (.inr ⟨_,_,rfl,rfl,.inl rfl⟩) (fun _ h=>by cases h;rfl)
   ·exact V.Step.skip (.inr ⟨_,_,rfl,rfl,.inl rfl⟩) (fun _ h=>by cases h;rfl)
   ·exact V.Step.pick (b:=true) (.inl rfl) rfl ⟨_,rfl,rfl⟩ (.inr ⟨_,rfl⟩) (fun _ h=>by cases h;rfl)
  case hd =>
  intro vs w2 hw2 hk
  have v9:vs 9=.slice bo lb cb:=hk 0 _ 9 rfl rfl
  have v10:vs 10=.int .i64 (lb:Int):=hk 1 _ 10 rfl rfl
  have v11:vs 11=.slice ao len cap:=hk 2 _ 11 rfl rfl
  have v12:vs 12=.int .i64 (len:Int):=hk 3 _ 12 rfl rfl
  have v13:vs 13=.slice ao len cap:=hk 4 _ 13 rfl rfl
  have v14:vs 14=.int .i64 (c:Int):=hk 5 _ 14 rfl rfl
  have v15:vs 15=.int .i64 (n:Int):=hk 6 _ 15 rfl rfl
  have v16:vs 16=.bool true:=hk 7 _ 16 rfl rfl
  have v17:vs 17=.bool true:=hk 8 _ 17 rfl rfl
  have v18:vs 18=undef:=hk 9 _ 18 rfl rfl
  have v19:vs 19=undef:=hk 10 _ 19 rfl rfl
  have v20:vs 20=.bool true:=hk 11 _ 20 rfl rfl
  simp only[V.puts,List.foldl_cons,List.foldl_nil,v9,v10,v11,v12,v13,v14,v15,v16,v17,v18,v19,v20,Act.put,List.setIfInBounds_toArray,List.set_cons_zero,List.set_cons_succ]
  clear hk v9 v10 v11 v12 v13 v14 v15 v16 v17 v18 v19 v20
  have HB2:=hide (bthen hB0 hw2)
  have hok:joinOk bs l=false:=by
   unfold joinOk
   rw[HL.out.1,HC.out,HN.out.1]
   have:(lb+c==len)=false:=by simp;omega
   rw[this]
   rfl
  have HE:Hid (joinE bs l=4):=by show _=_;unfold joinE;rw[hok];rfl
  have HLL:Hid (joinL bs l=[]):=by show _=_;unfold joinL;rw[hok];rfl
  clear hok hw2 hbx hB0 hsn hsl
  go_wp2
  refine⟨_,results_tmp2 (t:=4) (u:=5) rfl _ _ _,.slice none 0 0,?_,?_,HB2.out⟩
  ·rw[HE.out];rfl
  ·rw[HLL.out];exact World.ownsRow_nil _ _ _ _
end Go.Proofs.YtnkpgmibhpmdhaaGreat

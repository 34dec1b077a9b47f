/- Contracts and plain facts, one behind the other: SA SB SC SD SE -/
import Derived.Test.YtnkpgmibhpmdhaaGreatBeAR
namespace Go.Proofs.YtnkpgmibhpmdhaaGreat
set_option linter.unusedVariables false
open Go.RowKit
structure Z.R where
 n:Int
 v:Z.V
theorem same_ne {x y:Z.V} (h:x≠y):Z.same x y=false:=by
 cases hs:Z.same x y with
 | false=>rfl
 | true=>exact absurd ((Z.same_iff x y).1 hs) h
def Z.addR:List Z.R→Z.V→List Z.R
 | [],x=>[⟨1,x⟩]
 | r :: t,x=>if Z.same r.v x=true then ⟨r.n+1,r.v⟩ :: t else ⟨1,x⟩ :: r :: t
def Z.rr (l:List Z.V):List Z.R:=l.foldl Z.addR []
def Z.runs (l:List Z.V):List Z.R:=(Z.rr l).reverse
theorem rr_snoc (l:List Z.V) (x:Z.V):Z.rr (l++[x])=Z.addR (Z.rr l) x:=by simp[Z.rr]
def Z.sp (rs:List Z.R):List Z.V:=rs.flatMap fun r=>List.replicate r.n.toNat r.v
theorem sp_cons (r:Z.R) (rs:List Z.R):Z.sp (r :: rs)=List.replicate r.n.toNat r.v++Z.sp rs:=rfl
theorem sp_append (a b:List Z.R):Z.sp (a++b)=Z.sp a++Z.sp b:=by simp[Z.sp]
def Z.Neat:Option Z.V→List Z.R→Prop
 | _,[]=>True
 | p,r :: rs=>1≤r.n∧p≠some r.v∧Z.Neat (some r.v) rs
def Z.top:List Z.R→Option Z.V
 | []=>none
 | r :: _=>some r.v
theorem top_append {a:List Z.R} (h:a≠[]) (b:List Z.R):Z.top (a++b)=Z.top a:=by
 cases a with
 | nil=>exact absurd rfl h
 | cons r a=>rfl
theorem addR_same (r:Z.R) (t:List Z.R):Z.addR (r :: t) r.v=⟨r.n+1,r.v⟩ :: t:=by
 show (if Z.same r.v r.v=true then _ else _)=_
 rw[if_pos (Z.same_self _)]
theorem addR_new {t:List Z.R} {x:Z.V} (h:Z.top t≠some x):Z.addR t x=⟨1,x⟩ :: t:=by
 cases t with
 | nil=>rfl
 | cons r t =>
  show (if Z.same r.v x=true then _ else _)=_
  rw[if_neg]
  rw[same_ne (fun e=>h (by rw[← e];rfl))]
  simp
theorem fold_rep (t:List Z.R) (x:Z.V):∀ (k:Nat) (n:Int),(List.replicate k x).foldl Z.addR (⟨n,x⟩ :: t)=⟨n+(k:Int),x⟩ :: t
 | 0,n=>by simp
 | k+1,n=>by
  rw[List.replicate_succ,List.foldl_cons,addR_same ⟨n,x⟩ t,fold_rep t x k (n+1)]
  congr 2
  omega
theorem fold_run {t:List Z.R} {r:Z.R} (h:Z.top t≠some r.v) (hn:1≤r.n):(List.replicate r.n.toNat r.v).foldl Z.addR t=r :: t:=by
 obtain⟨n,x⟩:=r
 obtain⟨k,rfl⟩:∃ k:Nat,n=(k:Int)+1:=⟨(n - 1).toNat,by simp at hn;omega⟩
 have e:((k:Int)+1).toNat=k+1:=by omega
 show (List.replicate ((k:Int)+1).toNat x).foldl Z.addR t=_
 rw[e,List.replicate_succ,List.foldl_cons,addR_new h,fold_rep]
 congr 2
 omega
theorem fold_sp:∀ (rs t:List Z.R),Z.Neat (Z.top t) rs→(Z.sp rs).foldl Z.addR t=rs.reverse++t
 | [],t,_=>rfl
 | r :: rs,t,h=>by
  rw[sp_cons,List.foldl_append,fold_run h.2.1 h.1,fold_sp rs (r :: t) h.2.2]
  simp
theorem runs_sp {rs:List Z.R} (h:Z.Neat none rs):Z.runs (Z.sp rs)=rs:=by
 unfold Z.runs Z.rr
 rw[fold_sp rs [] h]
 simp
theorem neat_snoc:∀ (rs:List Z.R) (p:Option Z.V) (r:Z.R),Z.Neat p (rs++[r])↔Z.Neat p rs∧1≤r.n∧(if rs=[] then p else Z.top rs.reverse)≠some r.v
 | [],p,r=>by simp[Z.Neat]
 | s :: rs,p,r=>by
  rw[List.cons_append]
  simp only[Z.Neat]
  rw[neat_snoc rs (some s.v) r,if_neg (List.cons_ne_nil _ _)]
  have e:(if rs=[] then some s.v else Z.top rs.reverse)=Z.top (s :: rs).reverse:=by
   cases rs with
   | nil=>rfl
   | cons q rs =>
    rw[if_neg (List.cons_ne_nil _ _),List.reverse_cons (a:=s),top_append (by simp)]
  rw[e]
  constructor
  ·rintro⟨h1,h2,h3,h4,h5⟩;exact⟨⟨h1,h2,h3⟩,h4,h5⟩
  ·rintro⟨⟨h1,h2,h3⟩,h4,h5⟩;exact⟨h1,h2,h3,h4,h5⟩
theorem neat_rr (t:List Z.R) (x:Z.V) (h:Z.Neat none t.reverse):Z.Neat none (Z.addR t x).reverse∧Z.sp (Z.addR t x).reverse=Z.sp t.reverse++[x]:=by
 cases t with
 | nil=>exact⟨⟨Int.le_refl 1,by simp,trivial⟩,rfl⟩
 | cons r t =>
  rw[List.reverse_cons,neat_snoc] at h
  by_cases hs:r.v=x
  ·subst hs
   rw[addR_same,List.reverse_cons,neat_snoc,List.reverse_cons,sp_append,sp_append]
   refine⟨⟨h.1,by show 1≤r.n+1;have:=h.2.1;omega,h.2.2⟩,?_⟩
   have e:(r.n+1).toNat=r.n.toNat+1:=by have:=h.2.1;omega
   simp[Z.sp,e,List.replicate_succ']
  ·rw[addR_new (by intro e;exact hs (by simpa [Z.top] using e)),List.reverse_cons,neat_snoc,sp_append]
   refine⟨⟨?_,Int.le_refl 1,?_⟩,by simp[Z.sp]⟩
   ·rw[List.reverse_cons,neat_snoc];exact h
   ·rw[if_neg (by simp),List.reverse_reverse]
    intro e
    exact hs (by simpa [Z.top] using e)
theorem neat_rev:∀ l:List Z.V,Z.Neat none (Z.runs l.reverse)∧Z.sp (Z.runs l.reverse)=l.reverse
 | []=>⟨trivial,rfl⟩
 | x :: l=>by
  have ih:=neat_rev l
  unfold Z.runs at ih ⊢
  rw[List.reverse_cons,rr_snoc]
  obtain⟨h1,h2⟩:=neat_rr (Z.rr l.reverse) x ih.1
  exact⟨h1,by rw[h2,ih.2]⟩
theorem neat_runs (l:List Z.V):Z.Neat none (Z.runs l):=by
 have:=(neat_rev l.reverse).1
 rwa [List.reverse_reverse] at this
theorem sp_runs (l:List Z.V):Z.sp (Z.runs l)=l:=by
 have:=(neat_rev l.reverse).2
 rwa [List.reverse_reverse] at this
def Z.rb (rs:List Z.R):List Nat:=rs.flatMap fun r=>E.leb r.n.toNat++Z.lb r.v
theorem rb_cons (r:Z.R) (rs:List Z.R):Z.rb (r :: rs)=E.leb r.n.toNat++(Z.lb r.v++Z.rb rs):=by simp[Z.rb]
theorem rb_snoc (rs:List Z.R) (r:Z.R):Z.rb (rs++[r])=(Z.rb rs++E.leb r.n.toNat)++Z.lb r.v:=by simp[Z.rb]
def Z.rnV (kind:Int) (b:List Nat):Z.V:=Z.oV (b.drop (E.gK b)) kind
def Z.rnR (kind:Int) (b:List Nat):List Nat:=Z.oR (b.drop (E.gK b)) kind
def Z.r1 (kind:Int) (n:Nat) (b:List Nat):Nat:=if E.gE b≠0 then E.gE b else if E.gN b=0∨n<E.gN b then 4 else Z.oE (b.drop (E.gK b)) kind
def Z.isV:Option Z.V→Z.V→Bool
 | none,_=>false
 | some y,x=>Z.same y x
theorem isV_iff (p:Option Z.V) (x:Z.V):Z.isV p x=true↔p=some x:=by
 cases p with
 | none=>simp[Z.isV]
 | some y =>
  show Z.same y x=true↔_
  rw[Z.same_iff]
  exact⟨fun h=>by rw[h],fun h=>Option.some.inj h⟩
def Z.r2 (kind:Int) (n:Nat) (p:Option Z.V) (b:List Nat):Nat:=if Z.r1 kind n b≠0 then Z.r1 kind n b else if Z.isV p (Z.rnV kind b)=true then 4 else 0
def Z.nX (kind:Int):Nat→Nat→Option Z.V→List Nat→Nat × List Z.R
 | _,0,_,b=>(if b=[] then 0 else 4,[])
 | 0,_+1,_,_=>(0,[])
 | f+1,n+1,p,b=>if Z.r2 kind (n+1) p b=0 then ((Z.nX kind f (n+1 - E.gN b) (some (Z.rnV kind b)) (Z.rnR kind b)).1,⟨((E.gN b:Nat):Int),Z.rnV kind b⟩ :: (Z.nX kind f (n+1 - E.gN b) (some (Z.rnV kind b)) (Z.rnR kind b)).2) else (Z.r2 kind (n+1) p b,[])
theorem r2_n {kind:Int} {n:Nat} {p:Option Z.V} {b:List Nat} (h:Z.r2 kind n p b=0):Z.r1 kind n b=0∧p≠some (Z.rnV kind b):=by
 unfold Z.r2 at h
 split at h
 ·contradiction
 ·rename_i h1
  refine⟨by omega,fun e=>?_⟩
  rw[if_pos ((isV_iff _ _).2 e)] at h
  exact absurd h (by decide)
theorem r2_of {kind:Int} {n:Nat} {p:Option Z.V} {b:List Nat} (h:Z.r1 kind n b=0) (h1:p≠some (Z.rnV kind b)):Z.r2 kind n p b=0:=by
 unfold Z.r2
 rw[if_neg (by omega),if_neg (fun e=>h1 ((isV_iff _ _).1 e))]
theorem r2_bad {kind:Int} {n:Nat} {p:Option Z.V} {b:List Nat} (h:Z.r1 kind n b≠0):Z.r2 kind n p b=Z.r1 kind n b:=by
 unfold Z.r2
 rw[if_pos h]
theorem r2_again {kind:Int} {n:Nat} {p:Option Z.V} {b:List Nat} (h:Z.r1 kind n b=0) (h1:p=some (Z.rnV kind b)):Z.r2 kind n p b=4:=by
 unfold Z.r2
 rw[if_neg (by omega),if_pos ((isV_iff _ _).2 h1)]
theorem r1_ok {kind:Int} {n:Nat} {b:List Nat} (h:Z.r1 kind n b=0):E.gE b=0∧1≤E.gN b∧E.gN b≤n∧Z.oE (b.drop (E.gK b)) kind=0:=by
 unfold Z.r1 at h
 split at h
 ·contradiction
 ·rename_i h1
  split at h
  ·exact absurd h (by decide)
  ·rename_i h2
   exact⟨by omega,by omega,by omega,h⟩
theorem r1_num {kind:Int} {n:Nat} {b:List Nat} (h:E.gE b≠0):Z.r1 kind n b=E.gE b:=by unfold Z.r1;rw[if_pos h]
theorem r1_form {kind:Int} {n:Nat} {b:List Nat} (h:E.gE b=0) (h1:E.gN b=0∨n<E.gN b):Z.r1 kind n b=4:=by unfold Z.r1;rw[if_neg (by omega),if_pos h1]
theorem r1_val {kind:Int} {n:Nat} {b:List Nat} (h:E.gE b=0) (h1:¬ (E.gN b=0∨n<E.gN b)):Z.r1 kind n b=Z.oE (b.drop (E.gK b)) kind:=by unfold Z.r1;rw[if_neg (by omega),if_neg h1]
theorem nX_fuel (kind:Int):∀ (f n:Nat) (p:Option Z.V) (b:List Nat),n≤f→Z.nX kind f n p b=Z.nX kind n n p b
 | f,0,p,b,_=>by cases f<;>rfl
 | 0,n+1,p,b,h=>absurd h (by omega)
 | f+1,n+1,p,b,h=>by
  rw[Z.nX,Z.nX]
  split
  ·rename_i h2
   have h3:=(r1_ok (r2_n h2).1).2.1
   have h4:=nX_fuel kind f (n+1 - E.gN b) (some (Z.rnV kind b)) (Z.rnR kind b) (by omega)
   have h5:=nX_fuel kind n (n+1 - E.gN b) (some (Z.rnV kind b)) (Z.rnR kind b) (by omega)
   rw[h4,h5]
  ·rfl
def Z.te (kind:Int) (n:Nat) (p:Option Z.V) (b:List Nat):Nat:=(Z.nX kind n n p b).1
def Z.tl (kind:Int) (n:Nat) (p:Option Z.V) (b:List Nat):List Z.R:=(Z.nX kind n n p b).2
theorem te_zero {kind:Int} {p:Option Z.V} {b:List Nat} (h:b≠[]):Z.te kind 0 p b=4:=by
 show (if b=[] then 0 else 4,([]:List Z.R)).1=4
 rw[if_neg h]
theorem tl_zero (kind:Int) (p:Option Z.V) (b:List Nat):Z.tl kind 0 p b=[]:=rfl
theorem te_step {kind:Int} {n:Nat} {p:Option Z.V} {b:List Nat} (hn:0<n) (h:Z.r2 kind n p b=0):Z.te kind n p b=Z.te kind (n - E.gN b) (some (Z.rnV kind b)) (Z.rnR kind b):=by
 cases n with
 | zero=>omega
 | succ n =>
  have h3:=(r1_ok (r2_n h).1).2.1
  unfold Z.te
  rw[Z.nX,if_pos h,nX_fuel kind n _ _ _ (by omega)]
theorem tl_step {kind:Int} {n:Nat} {p:Option Z.V} {b:List Nat} (hn:0<n) (h:Z.r2 kind n p b=0):Z.tl kind n p b=⟨((E.gN b:Nat):Int),Z.rnV kind b⟩ :: Z.tl kind (n - E.gN b) (some (Z.rnV kind b)) (Z.rnR kind b):=by
 cases n with
 | zero=>omega
 | succ n =>
  have h3:=(r1_ok (r2_n h).1).2.1
  unfold Z.tl
  rw[Z.nX,if_pos h,nX_fuel kind n _ _ _ (by omega)]
theorem te_bad {kind:Int} {n:Nat} {p:Option Z.V} {b:List Nat} (hn:0<n) (h:Z.r2 kind n p b≠0):Z.te kind n p b=Z.r2 kind n p b:=by
 cases n with
 | zero=>omega
 | succ n =>
  unfold Z.te
  rw[Z.nX,if_neg h]
theorem sp_length_cons (r:Z.R) (rs:List Z.R):(Z.sp (r :: rs)).length=r.n.toNat+(Z.sp rs).length:=by rw[sp_cons,List.length_append,List.length_replicate]
theorem te_back (kind:Int):∀ (rs:List Z.R) (p:Option Z.V),Z.Neat p rs→(∀ r∈rs,Z.Fit kind r.v)→(Z.sp rs).length≤4096→Z.te kind (Z.sp rs).length p (Z.rb rs)=0∧Z.tl kind (Z.sp rs).length p (Z.rb rs)=rs
 | [],p,_,_,_=>⟨rfl,rfl⟩
 | ⟨m,⟨k,i,s⟩⟩ :: rs,p,hn,hf,hl=>by
  obtain⟨hk,hm,hi⟩:=hf _ List.mem_cons_self
  have hk':k=kind:=hk
  subst hk'
  obtain⟨h1,h2,h3⟩:=hn
  have h1':(1:Int)≤m:=h1
  rw[sp_length_cons] at hl ⊢
  have hl':m.toNat+(Z.sp rs).length≤4096:=hl
  obtain⟨g1,g2,g3⟩:=E.g_put m.toNat (by omega) (Z.lb ⟨k,i,s⟩++Z.rb rs)
  obtain⟨e1,e2,e3⟩:=back_one hi hm (Z.rb rs)
  have hb:Z.rb (⟨m,⟨k,i,s⟩⟩ :: rs)=E.leb m.toNat++(Z.lb ⟨k,i,s⟩++Z.rb rs):=rb_cons _ _
  have hv:Z.rnV k (Z.rb (⟨m,⟨k,i,s⟩⟩ :: rs))=⟨k,i,s⟩:=by unfold Z.rnV;rw[hb,g2,List.drop_left];exact e2
  have hr:Z.rnR k (Z.rb (⟨m,⟨k,i,s⟩⟩ :: rs))=Z.rb rs:=by unfold Z.rnR;rw[hb,g2,List.drop_left];exact e3
  have hgn:E.gN (Z.rb (⟨m,⟨k,i,s⟩⟩ :: rs))=m.toNat:=by rw[hb];exact g3
  have hr1:Z.r1 k (m.toNat+(Z.sp rs).length) (Z.rb (⟨m,⟨k,i,s⟩⟩ :: rs))=0:=by
   rw[r1_val (by rw[hb];exact g1) (by rw[hgn];omega),hb,g2,List.drop_left]
   exact e1
  have hr2:=r2_of (p:=p) hr1 (by rw[hv];exact h2)
  obtain⟨f1,f2⟩:=te_back k rs (some ⟨k,i,s⟩) h3 (fun x hx=>hf x (List.mem_cons_of_mem _ hx)) (by omega)
  show Z.te k (m.toNat+(Z.sp rs).length) p _=0∧Z.tl k (m.toNat+(Z.sp rs).length) p _=_
  rw[te_step (by omega) hr2,tl_step (by omega) hr2,hgn,hv,hr,show m.toNat+(Z.sp rs).length - m.toNat=(Z.sp rs).length by omega]
  refine⟨f1,?_⟩
  rw[f2,show ((m.toNat:Nat):Int)=m by omega]
theorem te_two {kind:Int} (hk:kind=1∨kind=2∨kind=3):∀ (f n:Nat),n≤f→∀ (p:Option Z.V) (b:List Nat),(∀ x∈b,x<256)→Z.te kind n p b=0 →
  Z.Neat p (Z.tl kind n p b)∧(∀ r∈Z.tl kind n p b,r.v.k=kind∧Z.may r.v=true)∧(Z.sp (Z.tl kind n p b)).length=n∧Z.rb (Z.tl kind n p b)=b
 | f,0,_,p,b,_,h=>by
  by_cases hb:b=[]
  ·subst hb
   exact⟨trivial,by simp[tl_zero],rfl,rfl⟩
  ·rw[te_zero hb] at h
   exact absurd h (by decide)
 | 0,n+1,hf,_,_,_,_=>absurd hf (by omega)
 | f+1,n+1,hf,p,b,h256,h=>by
  by_cases h2:Z.r2 kind (n+1) p b=0
  ·obtain⟨h1,hp⟩:=r2_n h2
   obtain⟨g1,g2,g3,g4⟩:=r1_ok h1
   rw[te_step (by omega) h2] at h
   have hd:∀ x∈b.drop (E.gK b),x<256:=fun x hx=>h256 x (List.mem_of_mem_drop hx)
   obtain⟨a1,a2⟩:=back_two hd g4
   obtain⟨i1,i2,i3,i4⟩:=te_two hk f (n+1 - E.gN b) (by omega) (some (Z.rnV kind b)) (Z.rnR kind b) (oR_lt hd kind) h
   rw[tl_step (by omega) h2]
   have hgn:(((E.gN b:Nat):Int)).toNat=E.gN b:=by omega
   refine⟨⟨?_,hp,i1⟩,?_,?_,?_⟩
   ·show (1:Int)≤((E.gN b:Nat):Int)
    omega
   ·intro r hr
    rcases List.mem_cons.1 hr with rfl|hr
    ·refine⟨?_,a1⟩
     show (Z.oV _ kind).k=kind
     unfold Z.oV
     rw[if_pos g4]
     exact oW_k hk
    ·exact i2 r hr
   ·rw[sp_length_cons,i3]
    show ((E.gN b:Nat):Int).toNat+_=_
    omega
   ·rw[rb_cons]
    show E.leb ((E.gN b:Nat):Int).toNat++(Z.lb (Z.oV _ kind)++Z.rb (Z.tl kind _ _ (Z.rnR kind b)))=b
    rw[hgn,i4,E.g_ones g1 h256]
    show List.take (E.gK b) b++(Z.lb (Z.oV _ kind)++Z.oR _ kind)=b
    rw[a2,List.take_append_drop]
  ·rw[te_bad (by omega) h2] at h
   exact absurd h h2
def Z.uE (b:List Nat) (n kind:Int):Int:=if Z.kindOk kind=false then 1 else if n<0∨4096<n then 2 else ((Z.te kind n.toNat none b:Nat):Int)
def Z.uL (b:List Nat) (n kind:Int):List Z.R:=if Z.uE b n kind=0 then Z.tl kind n.toNat none b else []
theorem uE_kind {b:List Nat} {n kind:Int} (h:Z.kindOk kind=false):Z.uE b n kind=1:=by unfold Z.uE;rw[if_pos h]
theorem uE_many {b:List Nat} {n kind:Int} (h:Z.kindOk kind=true) (h1:n<0∨4096<n):Z.uE b n kind=2:=by unfold Z.uE;rw[h,if_neg (by decide),if_pos h1]
theorem uE_is {b:List Nat} {N:Nat} {kind:Int} (h:Z.kindOk kind=true) (hN:N≤4096):Z.uE b (N:Int) kind=((Z.te kind N none b:Nat):Int):=by
 unfold Z.uE
 rw[h,if_neg (by decide),if_neg (by omega),Int.toNat_natCast]
theorem uL_bad {b:List Nat} {n kind:Int} (h:Z.uE b n kind≠0):Z.uL b n kind=[]:=by unfold Z.uL;rw[if_neg h]
theorem uL_is {b:List Nat} {N:Nat} {kind:Int} (h:Z.uE b (N:Int) kind=0):Z.uL b (N:Int) kind=Z.tl kind N none b:=by unfold Z.uL;rw[if_pos h,Int.toNat_natCast]
theorem kind_is {kind:Int} (h:Z.kindOk kind=true):kind=1∨kind=2∨kind=3:=by
 unfold Z.kindOk at h
 simp only[Bool.or_eq_true,beq_iff_eq] at h
 rcases h with (h|h)|h
 ·exact .inl h
 ·exact .inr (.inl h)
 ·exact .inr (.inr h)
theorem uE_zero {b:List Nat} {n kind:Int} (h:Z.uE b n kind=0):Z.kindOk kind=true∧0≤n∧n≤4096∧Z.te kind n.toNat none b=0:=by
 unfold Z.uE at h
 split at h
 ·exact absurd h (by decide)
 ·rename_i h1
  split at h
  ·exact absurd h (by decide)
  ·rename_i h2
   exact⟨by simpa using h1,by omega,by omega,by omega⟩
theorem u_two {b:List Nat} {n kind:Int} (h256:∀ x∈b,x<256) (h:Z.uE b n kind=0) :
  Z.Neat none (Z.uL b n kind)∧(∀ r∈Z.uL b n kind,r.v.k=kind∧Z.may r.v=true)∧(Z.sp (Z.uL b n kind)).length=n.toNat∧Z.rb (Z.uL b n kind)=b:=by
 obtain⟨h1,h2,h3,h4⟩:=uE_zero h
 have:Z.uL b n kind=Z.tl kind n.toNat none b:=by unfold Z.uL;rw[if_pos h]
 rw[this]
 exact te_two (kind_is h1) _ _ (Nat.le_refl _) none b h256 h4
theorem uL_few {b:List Nat} {n kind:Int} (h256:∀ x∈b,x<256):(Z.sp (Z.uL b n kind)).length≤4096:=by
 by_cases h:Z.uE b n kind=0
 ·rw[(u_two h256 h).2.2.1]
  have:=(uE_zero h).2.2.1
  omega
 ·rw[uL_bad h]
  simp[Z.sp]
def Z.rcb (l:List Z.V) (kind:Int):List Nat:=if Z.chk l kind=0 then Z.rb (Z.runs l) else []
theorem rcb_bad {l:List Z.V} {kind:Int} (h:Z.chk l kind≠0):Z.rcb l kind=[]:=by unfold Z.rcb;rw[if_neg h]
theorem rcb_ok {l:List Z.V} {kind:Int} (h:Z.chk l kind=0):Z.rcb l kind=Z.rb (Z.runs l):=by unfold Z.rcb;rw[if_pos h]
theorem mem_rep {r:Z.R} (h:1≤r.n):r.v∈List.replicate r.n.toNat r.v:=by
 rw[List.mem_replicate]
 exact⟨by omega,rfl⟩
theorem neat_pos:∀ {rs:List Z.R} {p:Option Z.V},Z.Neat p rs→∀ r∈rs,1≤r.n
 | [],_,_,_,h=>by simp at h
 | s :: rs,_,⟨h1,_,h3⟩,r,h=>by
  rcases List.mem_cons.1 h with rfl|h
  ·exact h1
  ·exact neat_pos h3 r h
theorem run_mem {l:List Z.V} {r:Z.R} (h:r∈Z.runs l):r.v∈l:=by
 have h1:=neat_pos (neat_runs l) r h
 have h2:r.v∈Z.sp (Z.runs l):=List.mem_flatMap.2 ⟨r,h,mem_rep h1⟩
 rwa [sp_runs] at h2
theorem neat_few:∀ {rs:List Z.R} {p:Option Z.V},Z.Neat p rs→rs.length≤(Z.sp rs).length
 | [],_,_=>Nat.zero_le _
 | s :: rs,_,⟨h1,_,h3⟩=>by
  have:=neat_few h3
  rw[sp_length_cons,List.length_cons]
  omega
theorem runs_few (l:List Z.V):(Z.runs l).length≤l.length:=by
 have:=neat_few (neat_runs l)
 rwa [sp_runs] at this
theorem run_le:∀ {rs:List Z.R},∀ r∈rs,r.n.toNat≤(Z.sp rs).length
 | [],_,h=>by simp at h
 | s :: rs,r,h=>by
  rw[sp_length_cons]
  rcases List.mem_cons.1 h with rfl|h
  ·omega
  ·have:=run_le r h
   omega
theorem run_n_le {l:List Z.V} {r:Z.R} (h:r∈Z.runs l):r.n≤(l.length:Int):=by
 have:=run_le r h
 rw[sp_runs] at this
 omega
theorem u_back {l:List Z.V} {kind:Int} (hI:∀ x∈l,Z.I64 x.i) (h:Z.chk l kind=0):Z.uE (Z.rcb l kind) ((l.length:Nat):Int) kind=0∧Z.uL (Z.rcb l kind) ((l.length:Nat):Int) kind=Z.runs l:=by
 obtain⟨h1,h2,h3,h4⟩:=chk_zero h
 have hk:Z.kindOk kind=true:=by rcases h1 with rfl|rfl|rfl<;>rfl
 have hb:=te_back kind (Z.runs l) none (neat_runs l) (fun r hr=>⟨h3 _ (run_mem hr),h4 _ (run_mem hr),hI _ (run_mem hr)⟩) (by rw[sp_runs];exact h2)
 rw[sp_runs] at hb
 have e:Z.uE (Z.rcb l kind) ((l.length:Nat):Int) kind=0:=by rw[uE_is hk h2,rcb_ok h,hb.1];rfl
 exact⟨e,by rw[uL_is e,rcb_ok h,hb.2]⟩
def SlR (w:World) (ao:Option Addr) (len cap:Nat) (l:List Z.R):Prop :=
 l.length=len∧len≤cap∧cap≤maxLen∧(ao=none→cap=0)∧(len=0∨∃ b off,ao=some ⟨b,off,none⟩∧b<w.heap.size∧∀ j x,l[j]?=some x→w.cell? ⟨b,off+j*4,none⟩=some (.int .i64 x.n)∧w.cell? ⟨b,off+j*4+1,none⟩=some (.int .i64 x.v.k)∧w.cell? ⟨b,off+j*4+2,none⟩=some (.int .i64 x.v.i)∧w.cell? ⟨b,off+j*4+3,none⟩=some (.string x.v.s))
theorem SlR.below {w w':World} {ao:Option Addr} {len cap:Nat} {l:List Z.R} (h:SlR w ao len cap l) (hb:Below w.heap.size w w'):SlR w' ao len cap l:=by
 obtain⟨h1,h2,h3,h4,h5⟩:=h
 refine⟨h1,h2,h3,h4,?_⟩
 rcases h5 with h5|⟨b,off,rfl,hlt,h5⟩
 ·exact .inl h5
 ·refine .inr ⟨b,off,rfl,by have:=hb.size;omega,fun j x hx=>?_⟩
  rw[hb.cell (p:=⟨b,off+j*4,none⟩) hlt,hb.cell (p:=⟨b,off+j*4+1,none⟩) hlt,hb.cell (p:=⟨b,off+j*4+2,none⟩) hlt,hb.cell (p:=⟨b,off+j*4+3,none⟩) hlt]
  exact h5 j x hx
def cellsR (l:List Z.R):List Value:=l.flatMap fun x=>[.int .i64 x.n,.int .i64 x.v.k,.int .i64 x.v.i,.string x.v.s]
theorem cellsR_cons (x:Z.R) (l:List Z.R):cellsR (x :: l)=.int .i64 x.n :: .int .i64 x.v.k :: .int .i64 x.v.i :: .string x.v.s :: cellsR l:=rfl
theorem cellsR_length:∀ l:List Z.R,(cellsR l).length=l.length*4
 | []=>rfl
 | x :: l=>by rw[cellsR_cons];simp[cellsR_length l];omega
theorem cellsR_append (a b:List Z.R):cellsR (a++b)=cellsR a++cellsR b:=by simp[cellsR]
theorem cellsR_get:∀ (l:List Z.R) (j:Nat) (x:Z.R),l[j]?=some x→(cellsR l)[j*4]?=some (.int .i64 x.n)∧(cellsR l)[j*4+1]?=some (.int .i64 x.v.k)∧(cellsR l)[j*4+2]?=some (.int .i64 x.v.i)∧(cellsR l)[j*4+3]?=some (.string x.v.s)
 | [],j,x,h=>by simp at h
 | y :: l,0,x,h=>by
  simp at h;subst h
  rw[cellsR_cons];simp
 | y :: l,j+1,x,h=>by
  simp at h
  have:=cellsR_get l j x h
  rw[cellsR_cons,show (j+1)*4=j*4+1+1+1+1 by omega,show j*4+1+1+1+1+1=(j*4+1)+1+1+1+1 by omega,show j*4+1+1+1+1+2=(j*4+2)+1+1+1+1 by omega,show j*4+1+1+1+1+3=(j*4+3)+1+1+1+1 by omega]
  simpa using this
theorem cellsR_one (l:List Z.R):∀ u∈cellsR l,u.oneCell'=true:=by
 intro u hu
 obtain⟨x,_,hx⟩:=List.mem_flatMap.1 hu
 simp at hx
 rcases hx with rfl|rfl|rfl|rfl<;>rfl
theorem cellsR_last (l:List Z.R) (n m:Int) (v:Z.V):(cellsR (l++[⟨n,v⟩])).set (l.length*4) (.int .i64 m)=cellsR (l++[⟨m,v⟩]):=by
 rw[cellsR_append,cellsR_append,List.set_append_right _ _ (by rw[cellsR_length];exact Nat.le_refl _),cellsR_length,Nat.sub_self]
 rfl
def OwnR (w:World) (t:TypeId) (B:Nat) (v:Value) (l:List Z.R):Prop:=w.ownsRow B t 4 v l.length (cellsR l)
theorem OwnR.below {w w':World} {t:TypeId} {B:Nat} {v:Value} {l:List Z.R} (h:OwnR w t B v l) (hb:Below w.heap.size w w'):OwnR w' t B v l:=owns_of_block h fun g hg=>hb.block g (owns_lt h hg).2
theorem ownR_nil (w:World) (t:TypeId) (B:Nat):OwnR w t B (.slice none 0 0) []:=World.ownsRow_nil _ _ _ _
theorem slR_nil (w:World):SlR w none 0 0 []:=⟨rfl,Nat.le_refl _,by simp[maxLen],fun _=>rfl,.inl rfl⟩
theorem SlR.of_own {w:World} {t:TypeId} {B:Nat} {v:Value} {l:List Z.R} (h:OwnR w t B v l):∃ ao cap,v=.slice ao l.length cap∧SlR w ao l.length cap l∧v.ownBlock=ao.map (·.block):=by
 have h0:=h
 rcases h.2 with ⟨h1,h2⟩|⟨g,cap,cur,hv,hg,hh,hc,hm,_⟩
 ·have hl:l=[]:=List.eq_nil_of_length_eq_zero h2
  subst hl
  exact⟨Option.none,0,h1,slR_nil w,by rw[h1];rfl⟩
 ·subst hv
  refine⟨some ⟨g,0,Option.none⟩,cap,rfl,⟨rfl,hc,hm,by simp,.inr ⟨g,0,rfl,lt_of_block hh,fun j x hx=>?_⟩⟩,rfl⟩
  have hj:j<l.length:=(List.getElem?_eq_some_iff.1 hx).1
  obtain⟨g0,g1,g2,g3⟩:=cellsR_get l _ _ hx
  have a0:=World.ownsRow.cellAt h0 (j*4) (by omega)
  have a1:=World.ownsRow.cellAt h0 (j*4+1) (by omega)
  have a2:=World.ownsRow.cellAt h0 (j*4+2) (by omega)
  have a3:=World.ownsRow.cellAt h0 (j*4+3) (by omega)
  rw[Nat.zero_add]
  exact⟨a0.trans g0,a1.trans g1,a2.trans g2,a3.trans g3⟩
theorem slR_one (w:World) (t:TypeId) (n k i:Int) (s:ByteArray):SlR (w.alloc (.cells #[.int .i64 n,.int .i64 k,.int .i64 i,.string s] t)) (some ⟨w.heap.size,0,none⟩) 1 1 [⟨n,⟨k,i,s⟩⟩]:=by
 refine⟨rfl,Nat.le_refl _,by decide,by simp,.inr ⟨w.heap.size,0,rfl,by simp,fun j x hx=>?_⟩⟩
 match j,hx with
 | 0,hx=>simp at hx;subst hx;simp
theorem SlR.news {w:World} {ao:Option Addr} {len cap:Nat} {l:List Z.R} (h:SlR w ao len cap l):∀ ad,ao=some ad→∀ j u,(cellsR l)[j]?=some u→w.cell? (ad.add j)=some u:=by
 obtain⟨h1,h2,h3,h4,h5⟩:=h
 intro ad had j u hu
 have hj:j<l.length*4:=by have:=(List.getElem?_eq_some_iff.1 hu).1;rwa [cellsR_length] at this
 rcases h5 with h5|⟨b,off,hao,hlt,h5⟩
 ·omega
 ·rw[hao] at had
  obtain rfl:=Option.some.inj had
  rw[Addr.add_lit]
  obtain⟨x,hx⟩:∃ x,l[j / 4]?=some x:=⟨l[j / 4]'(by omega),List.getElem?_eq_getElem _⟩
  obtain⟨c0,c1,c2,c3⟩:=h5 _ _ hx
  obtain⟨g0,g1,g2,g3⟩:=cellsR_get l _ _ hx
  have hr:j=j / 4*4∨j=j / 4*4+1∨j=j / 4*4+2∨j=j / 4*4+3:=by omega
  obtain⟨q,hq⟩:∃ q,j / 4=q:=⟨_,rfl⟩
  rw[hq] at hr c0 c1 c2 c3 g0 g1 g2 g3
  rcases hr with hr|hr|hr|hr
  ·subst hr;rw[g0] at hu;rw[← Option.some.inj hu];exact c0
  ·subst hr;rw[g1] at hu;rw[← Option.some.inj hu,← Nat.add_assoc];exact c1
  ·subst hr;rw[g2] at hu;rw[← Option.some.inj hu,← Nat.add_assoc];exact c2
  ·subst hr;rw[g3] at hu;rw[← Option.some.inj hu,← Nat.add_assoc];exact c3
theorem Tryz.infoRun:(Tryz.prog.info? 182).map (fun i=>(i.zero,i.size,i.bytes))=some (some (.agg #[.int .i64 0,.int .i64 0,.int .i64 0,.string ⟨#[]⟩]),4,40):=by kernel_rfl
theorem wpList_appR {w:World} {ops:Array Oper} {rest:List Oper} {o:Oper} {a:Act} {Q:Exit→Act→World→Prop} (ts t:TypeId) (hu:Tryz.prog.underlying ts=some (.slice t)) (hinfo:(Tryz.prog.info? t).map (fun i=>(i.zero,i.size,i.bytes))=some (some (.agg #[.int .i64 0,.int .i64 0,.int .i64 0,.string ⟨#[]⟩]),4,40))
  (hgd:o.guard=none) (s x:Operand) (ho:o.op=.call { callee:=.builtin .append,args:=#[s,x],argTypes:=#[ts,ts] })
  (base:Nat) (v:Value) (l:List Z.R) (hs:a.eval s=v) (hown:OwnR w t base v l)
  (ao:Option Addr) (c:Nat) (r:Z.R) (hx:a.eval x=.slice ao 1 c) (hsl:SlR w ao 1 c [r]) (hlim:l.length≤1000000000) (hbase:base≤w.heap.size)
  (h:∀ v' w',OwnR w' t base v' (l++[r])→AS w v w' v'→wpList Tryz.prog ops Q rest (a.put o.dst v') w'):wpList Tryz.prog ops Q (o :: rest) a w:=by
 obtain⟨i0,hi,hz0,hz1,hz2⟩:=info_parts hinfo
 refine wpList_append_to hgd s x ts ho base t i0 (.agg #[.int .i64 0,.int .i64 0,.int .i64 0,.string ⟨#[]⟩]) 4 40 hu hi hz0 hz1 hz2 rfl (by decide) v l.length (cellsR l) hs hown ao 1 c (cellsR [r]) hx (fun e=>absurd (hsl.2.2.2.1 e) (by have:=hsl.2.1;omega)) (by rw[cellsR_length];rfl) hsl.news (cellsR_one _) (by unfold maxLen;omega) (by omega) hbase ?_
 intro v' w' h1 h2
 refine h v' w' ?_ h2
 unfold OwnR
 rw[cellsR_append,List.length_append]
 exact h1
def AtR (w:World) (b:Nat) (t:TypeId) (n k i:Int) (s:ByteArray):Prop:=w.heap[b]?=some (.cells #[.int .i64 n,.int .i64 k,.int .i64 i,.string s] t (0,0))
theorem AtR.below {w w':World} {b:Nat} {t:TypeId} {n k i:Int} {s:ByteArray} (h:AtR w b t n k i s) (hb:Below w.heap.size w w'):AtR w' b t n k i s:=by
 unfold AtR at *;rw[hb.block b (lt_of_block h)];exact h
theorem AtR.cells {w:World} {b:Nat} {t:TypeId} {n k i:Int} {s:ByteArray} (h:AtR w b t n k i s):w.cell? ⟨b,0,none⟩=some (.int .i64 n)∧w.cell? ⟨b,1,none⟩=some (.int .i64 k)∧w.cell? ⟨b,2,none⟩=some (.int .i64 i)∧w.cell? ⟨b,3,none⟩=some (.string s):=by
 unfold AtR at h;simp[World.cell?,h]
theorem AtR.thawed {w:World} {b:Nat} {t:TypeId} {n k i:Int} {s:ByteArray} (h:AtR w b t n k i s):w.frozen? ⟨b,0,none⟩=false∧w.frozen? ⟨b,1,none⟩=false∧w.frozen? ⟨b,2,none⟩=false∧w.frozen? ⟨b,3,none⟩=false:=by
 unfold AtR at h;simp[World.frozen?,h]
theorem AtR.new (w:World) (t:TypeId) (n k i:Int) (s:ByteArray):AtR (w.alloc (.cells #[.int .i64 n,.int .i64 k,.int .i64 i,.string s] t)) w.heap.size t n k i s:=heap_alloc_new w _
theorem AtR.alloc {w:World} {b:Nat} {t:TypeId} {n k i:Int} {s:ByteArray} (h:AtR w b t n k i s) (o:Obj):AtR (w.alloc o) b t n k i s:=by
 unfold AtR at *;rw[Below.heap_alloc _ _ _ (lt_of_block h)];exact h
theorem results_run1 {fn:Func} {p u:Tmp} (h:fn.results=#[.cell p 182,.tmp u]) (tmps:Array Value) (w:World) (g:Nat) {n k i:Int} {s:ByteArray} (hp:tmps.getD p undef=.pointer (some ⟨g,0,none⟩)) (hA:AtR w g 182 n k i s) :
  (results fn tmps).run Tryz.prog w=.ok (.tuple #[.agg #[.int .i64 n,.int .i64 k,.int .i64 i,.string s],tmps.getD u undef]) w:=by
 have hp':tmps[p]?.getD undef=.pointer (some ⟨g,0,none⟩):=by simpa using hp
 unfold AtR at hA
 simp[results,h,hp',asAddr,run_loadVar_row w g 182 182 _ (0,0) _ hA Tryz.underlying182 rfl (by kernel_rfl)]
def LastAns (rs:List Z.R) (w:World) (e:Ending) (w':World):Prop :=
 Below w.heap.size w w'∧((rs=[]∧e=.returned (.tuple #[.agg #[.int .i64 0,.int .i64 0,.int .i64 0,.string ⟨#[]⟩],.bool false]))∨∃ a n k i s,rs=a++[⟨n,⟨k,i,s⟩⟩]∧e=.returned (.tuple #[.agg #[.int .i64 n,.int .i64 k,.int .i64 i,.string s],.bool true]))
def putR (w:World) (b:Nat) (n k i:Int) (s:ByteArray):World:=(((w.setCell ⟨b,0,none⟩ (.int .i64 n)).setCell ⟨b,1,none⟩ (.int .i64 k)).setCell ⟨b,2,none⟩ (.int .i64 i)).setCell ⟨b,3,none⟩ (.string s)
theorem AtR.set {w:World} {b:Nat} {t:TypeId} {n k i:Int} {s:ByteArray} (h:AtR w b t n k i s) (n' k' i':Int) (s':ByteArray):AtR (putR w b n' k' i' s') b t n' k' i' s':=by
 unfold AtR putR at *
 simp only[World.setCell,Array.getElem?_modify,h];simp
theorem putR_kept (w:World) (b:Nat) (n k i:Int) (s:ByteArray):Kept (fun x=>x=b) w (putR w b n k i s) :=
 Kept.setCell (F:=fun x=>x=b) (p:=⟨b,3,none⟩) (Kept.setCell (F:=fun x=>x=b) (p:=⟨b,2,none⟩) (Kept.setCell (F:=fun x=>x=b) (p:=⟨b,1,none⟩) (Kept.setCell (F:=fun x=>x=b) (p:=⟨b,0,none⟩) (Kept.refl _ _) (.inl rfl) _) (.inl rfl) _) (.inl rfl) _) (.inl rfl) _
theorem putR_below {w w1:World} {b:Nat} (n k i:Int) (s:ByteArray) (h:Below w.heap.size w w1) (hb:w.heap.size≤b):Below w.heap.size w (putR w1 b n k i s) :=
 h.trans ((putR_kept w1 b n k i s).below h.size (by rintro k rfl;exact hb))
theorem last_none (ao:Option Addr) (cap:Nat) (w:World):Calls Tryz.prog 227 #[.slice ao 0 cap] w (LastAns [] w):=by
 have hA:=hide (AtR.new w 182 0 0 0 ⟨#[]⟩)
 go_enter Tryz.func227,Tryz.ntmps227
 go_wp2
 exact bodyPost_ret (results_run1 Tryz.results227 _ _ w.heap.size rfl (hA.out.alloc _)) rfl ⟨bthen (below_one w _) (below_one _ _),.inl ⟨rfl,rfl⟩⟩
theorem last_some (b off cap m:Nat) (n k i:Int) (s:ByteArray) (a:List Z.R) (hl:a.length=m) (hm:m+1≤1000000000) (w:World) (hlt:b<w.heap.size)
  (h0:w.cell? ⟨b,off+m*4,none⟩=some (.int .i64 n)) (h1:w.cell? ⟨b,off+m*4+1,none⟩=some (.int .i64 k)) (h2:w.cell? ⟨b,off+m*4+2,none⟩=some (.int .i64 i)) (h3:w.cell? ⟨b,off+m*4+3,none⟩=some (.string s)) :
  Calls Tryz.prog 227 #[.slice (some ⟨b,off,none⟩) (m+1) cap] w (LastAns (a++[⟨n,⟨k,i,s⟩⟩]) w):=by
 have hA:=AtR.new w 182 0 0 0 ⟨#[]⟩
 obtain⟨a0,a1,a2,a3⟩:=hA.cells
 obtain⟨f0,f1,f2,f3⟩:=hA.thawed
 have HA:=hide hA
 have hb:=below_one w (.cells #[.int .i64 0,.int .i64 0,.int .i64 0,.string ⟨#[]⟩] 182)
 have HB:=hide hb
 have c0:=(hb.cell (p:=⟨b,off+m*4,none⟩) hlt).trans h0
 have c1:=(hb.cell (p:=⟨b,off+m*4+1,none⟩) hlt).trans h1
 have c2:=(hb.cell (p:=⟨b,off+m*4+2,none⟩) hlt).trans h2
 have c3:=(hb.cell (p:=⟨b,off+m*4+3,none⟩) hlt).trans h3
 clear hb hA h0 h1 h2 h3
 obtain⟨L,hL⟩:∃ L,m+1=L:=⟨_,rfl⟩
 have hL0:((L:Int)==0)=false:=by simp;omega
 have hLm:(L:Int) - 1=(m:Int):=by omega
 rw[hL]
 go_enter Tryz.func227,Tryz.ntmps227
 go_wp2
 exact bodyPost_ret (results_run1 Tryz.results227 _ _ w.heap.size rfl (AtR.new w 182 n k i s)) rfl ⟨below_one w _,.inr ⟨a,n,k,i,s,rfl,rfl⟩⟩
theorem last_any (ao:Option Addr) (len cap:Nat) (rs:List Z.R) (w:World) (h:SlR w ao len cap rs) (hm:len≤1000000000):Calls Tryz.prog 227 #[.slice ao len cap] w (LastAns rs w):=by
 obtain⟨h1,h2,h3,h4,h5⟩:=h
 rcases List.eq_nil_or_concat rs with rfl|⟨a,⟨n,⟨k,i,s⟩⟩,rfl⟩
 ·obtain rfl:len=0:=h1.symm
  exact last_none ao cap w
 ·rw[List.concat_eq_append] at h1 h5 ⊢
  have hl:len=a.length+1:=by rw[← h1];simp
  rcases h5 with h5|⟨b,off,rfl,hlt,h5⟩
  ·omega
  ·obtain⟨c0,c1,c2,c3⟩:=h5 a.length ⟨n,⟨k,i,s⟩⟩ (by simp)
   rw[hl]
   exact last_some b off cap a.length n k i s a rfl (by omega) w hlt c0 c1 c2 c3
theorem top_snoc (a:List Z.R) (r:Z.R):Z.top (a++[r]).reverse=some r.v:=by rw[List.reverse_append];rfl
theorem goes_any (ao:Option Addr) (len cap:Nat) (rs:List Z.R) (k i:Int) (s:ByteArray) (w:World) (h:SlR w ao len cap rs) (hm:len≤1000000000) :
  Calls Tryz.prog 200 #[.slice ao len cap,.agg #[.int .i64 k,.int .i64 i,.string s]] w fun e w'=>e=.returned (.bool (Z.isV (Z.top rs.reverse) ⟨k,i,s⟩))∧Below w.heap.size w w':=by
 have hb:=below_one w (.cells #[.int .i64 k,.int .i64 i,.string s] 25)
 have HL:=hide (last_any ao len cap rs _ (h.below hb) hm)
 have HA:=hide (At.new w k i s)
 have HB:=hide hb
 clear h hb
 go_enter Tryz.func200,Tryz.ntmps200
 go_wp2_with fail
 refine HL.out.mono ?_
 rintro e w1 ⟨hb1,hr⟩
 have HB1:=hide (bthen HB.out hb1)
 have hA1:=HA.out.below hb1
 clear HL
 rcases hr with ⟨rfl,rfl⟩|⟨a,n,k',i',s',rfl,rfl⟩
 ·have HB2:=hide (bthen HB1.out (below_one w1 (.cells #[.int .i64 0,.int .i64 0,.int .i64 0,.string ⟨#[]⟩] 182)))
  clear hb1 hA1
  go_wp2
  go_ret
  exact⟨rfl,HB2.out⟩
 ·have b2:=below_one w1 (.cells #[.int .i64 n,.int .i64 k',.int .i64 i',.string s'] 182)
  have HB2:=hide (bthen HB1.out b2)
  obtain⟨a0,a1,a2⟩:=(hA1.below b2).cells
  obtain⟨c0,c1,c2,c3⟩:=(AtR.new w1 182 n k' i' s').cells
  have hv:=fun w=>veq_run k' i' s' k i s w
  have HT:=hide (top_snoc a ⟨n,⟨k',i',s'⟩⟩)
  clear hb1 hA1 b2
  go_wp2
  go_ret
  exact⟨by rw[HT.out];rfl,HB2.out⟩
theorem runs_rev (l:List Z.V):(Z.runs l).reverse=Z.rr l:=by unfold Z.runs;rw[List.reverse_reverse]
theorem runs_more {l:List Z.V} {x:Z.V} (h:Z.isV (Z.top (Z.runs l).reverse) x=true):∃ a n,Z.runs l=a++[⟨n,x⟩]∧Z.runs (l++[x])=a++[⟨n+1,x⟩]:=by
 rw[isV_iff,runs_rev] at h
 obtain⟨t,ht⟩:∃ t,Z.rr l=t:=⟨_,rfl⟩
 rw[ht] at h
 cases t with
 | nil=>exact absurd h (by simp[Z.top])
 | cons r t =>
  have hr:r.v=x:=by simpa [Z.top] using h
  obtain⟨n,v⟩:=r
  have hv:v=x:=hr
  subst hv
  refine⟨t.reverse,n,?_,?_⟩
  ·unfold Z.runs;rw[ht,List.reverse_cons]
  ·unfold Z.runs;rw[rr_snoc,ht,addR_same ⟨n,v⟩ t,List.reverse_cons]
theorem runs_new {l:List Z.V} {x:Z.V} (h:Z.isV (Z.top (Z.runs l).reverse) x=false):Z.runs (l++[x])=Z.runs l++[⟨1,x⟩]:=by
 have h1:Z.top (Z.rr l)≠some x:=by
  intro e
  rw[runs_rev,(isV_iff _ _).2 e] at h
  exact absurd h (by decide)
 unfold Z.runs
 rw[rr_snoc,addR_new h1,List.reverse_cons]
theorem ownR_some {w:World} {t:TypeId} {B:Nat} {v:Value} {a:List Z.R} {r:Z.R} (h:OwnR w t B v (a++[r])):∃ g c,v=.slice (some ⟨g,0,none⟩) (a.length+1) c∧B≤g∧g<w.heap.size:=by
 have hl:(a++[r]).length=a.length+1:=by simp
 rcases h.2 with ⟨h1,h2⟩|⟨g,cap,cur,hv,hg,hh,hc,hm,_⟩
 ·rw[hl] at h2;omega
 ·rw[hl] at hv
  exact⟨g,cap,hv,hg,lt_of_block hh⟩
set_option maxHeartbeats 1000000 in
theorem runs_some (b off len cap:Nat) (l:List Z.V) (w:World) (hl:l.length=len) (hm:len≤100000000) (hlt:b<w.heap.size)
  (hc:∀ j x,l[j]?=some x→w.cell? ⟨b,off+j*3,none⟩=some (.int .i64 x.k)∧w.cell? ⟨b,off+j*3+1,none⟩=some (.int .i64 x.i)∧w.cell? ⟨b,off+j*3+2,none⟩=some (.string x.s)) :
  Calls Tryz.prog 151 #[.slice (some ⟨b,off,none⟩) len cap] w fun e w'=>∃ v,e=.returned v∧OwnR w' 182 w.heap.size v (Z.runs l)∧Below w.heap.size w w':=by
 have HC:=hide hc
 have HL:=hide hl
 clear hc hl
 go_enter Tryz.func151,Tryz.ntmps151
 go_wp2_with fail
 go_loopw [3,8] (fun v i wr=>∃ j:Nat,j≤len∧i=.int .i64 j∧Hid (OwnR wr 182 w.heap.size v (Z.runs (l.take j)))∧Hid (Below w.heap.size w wr)) (fun _ i _=>len - (intOf i).toNat)
 case atStart=>exact⟨0,Nat.zero_le _,rfl,hide (ownR_nil _ _ _),hide (Below.refl _ _)⟩
 case round =>
  obtain⟨j,hj,rfl,hrow,hbw⟩:=hrel
  by_cases hjl:j<len
  ·obtain⟨⟨xk,xi,xs⟩,hx⟩:∃ x,l[j]?=some x:=⟨l[j]'(by rw[HL.out];exact hjl),List.getElem?_eq_getElem _⟩
   obtain⟨c1,c2,c3⟩:=HC.out j _ hx
   have d1:wr.cell? ⟨b,off+j*3,none⟩=some (.int .i64 xk):=by rw[hbw.out.cell (p:=⟨b,off+j*3,none⟩) hlt];exact c1
   have d2:wr.cell? ⟨b,off+j*3+1,none⟩=some (.int .i64 xi):=by rw[hbw.out.cell (p:=⟨b,off+j*3+1,none⟩) hlt];exact c2
   have d3:wr.cell? ⟨b,off+j*3+2,none⟩=some (.string xs):=by rw[hbw.out.cell (p:=⟨b,off+j*3+2,none⟩) hlt];exact c3
   have HX:=hide hx
   have hrl:(Z.runs (l.take j)).length≤j:=by
    have:=runs_few (l.take j)
    rw[List.length_take] at this
    omega
   have HRL:=hide hrl
   have b1:=below_one wr (.cells #[.int .i64 xk,.int .i64 xi,.string xs] 25)
   have hrow1:=hrow.out.below b1
   obtain⟨ra,rc,hv,hsl,hob⟩:=SlR.of_own hrow1
   have HG:=hide (goes_any ra _ rc (Z.runs (l.take j)) xk xi xs _ hsl (by omega))
   have HB1:=hide (bthen hbw.out b1)
   have HR1:=hide hrow1
   have hA:=At.new wr xk xi xs
   have HA:=hide hA
   obtain⟨v0,v1,v2⟩:=hA.cells
   obtain⟨m,hmm⟩:∃ m,(Z.runs (l.take j)).length=m:=⟨_,rfl⟩
   have hmj:m≤100000000:=by omega
   rw[hmm] at hv HG
   have HV:=hide hv
   rw[hv]
   clear c1 c2 c3 hx hrl b1 hrow1 hsl hob hA hmm hv
   go_wp2_with fail
   refine HG.out.mono ?_
   rintro e w2 ⟨rfl,hb2⟩
   obtain⟨q,hq⟩:∃ q,Z.isV (Z.top (Z.runs (l.take j)).reverse) ⟨xk,xi,xs⟩=q:=⟨_,rfl⟩
   rw[hq]
   have HB2:=hide (bthen HB1.out hb2)
   have hrow2:=HR1.out.below hb2
   clear HG d1 d2 d3 v0 v1 v2
   have ht:l.take (j+1)=l.take j++[⟨xk,xi,xs⟩]:=take_snocV HX.out
   cases q with
   | true =>
    obtain⟨a,n,e1,e2⟩:=runs_more hq
    rw[← ht] at e2
    have hn:=run_n_le (l:=l.take j) (r:=⟨n,⟨xk,xi,xs⟩⟩) (by rw[e1];simp)
    have hn0:=neat_pos (neat_runs (l.take j)) ⟨n,⟨xk,xi,xs⟩⟩ (by rw[e1];simp)
    have hn1:n≤100000000:=by
     rw[List.length_take] at hn
     have:n≤((min j l.length:Nat):Int):=hn
     omega
    have hn2:1≤n:=hn0
    rw[e1,HV.out] at hrow2
    obtain⟨g,c,hv,hg,hgl⟩:=ownR_some hrow2
    injection hv with hv1 hv2 hv3
    subst hv1
    have hal:a.length=m - 1:=by omega
    obtain⟨p,hp⟩:∃ p,a.length=p:=⟨_,rfl⟩
    have hrow3:=hrow2
    unfold OwnR at hrow3
    rw[show (a++[(⟨n,⟨xk,xi,xs⟩⟩:Z.R)]).length=p+1 by rw[List.length_append,hp];rfl,show m=p+1 by omega] at hrow3
    obtain⟨z0,_,_,_⟩:=cellsR_get (a++[⟨n,⟨xk,xi,xs⟩⟩]) a.length ⟨n,⟨xk,xi,xs⟩⟩ (by simp)
    rw[hp] at z0
    have c0:=(hrow3.cellAt (p*4) (by omega)).trans z0
    have f0:=hrow3.frozenAt (p*4)
    have hL0:(m:Int) - 1=(p:Int):=by omega
    have hpm:p<m:=by omega
    have HR3:=hide hrow3
    have HE2:=hide e2
    have HAL:=hide hp
    have HG:=hide hg
    have HGL:=hide hgl
    clear hn hn0 e1 e2 hrow2 hrow3 hq ht hal hp z0 hb2 hv2 hv3 hg hgl
    go_wp2
    go_roundw
    case rel =>
     refine⟨j+1,hjl,by go_num,hide ?_,hide (HB2.out.setCell (p:=⟨g,p*4,none⟩) HG.out _)⟩
     have h1:=(HR3.out.stored (p*4) (.int .i64 (n+1))).1
     have h2:=cellsR_last a n (n+1) ⟨xk,xi,xs⟩
     rw[HAL.out] at h2
     rw[h2] at h1
     have h3:(a++[(⟨n+1,⟨xk,xi,xs⟩⟩:Z.R)]).length=p+1:=by rw[List.length_append,HAL.out];rfl
     unfold OwnR
     rw[HE2.out,h3,show m=p+1 by omega]
     exact h1
    case measure=>simp[intOf];omega
   | false =>
    have e2:=runs_new hq
    rw[← ht] at e2
    have HE2:=hide e2
    have hA2:=HA.out.below hb2
    obtain⟨v0,v1,v2⟩:=hA2.cells
    have hrow3:OwnR (w2.alloc (.cells #[.int .i64 1,.int .i64 xk,.int .i64 xi,.string xs] 182)) 182 w.heap.size u3 (Z.runs (l.take j)):=hrow2.below (below_one _ _)
    rw[HV.out] at hrow3
    have hsz2:=HB2.out.size
    have HR3:=hide hrow3
    have HB3:=hide (HB2.out.alloc HB2.out.size (.cells #[.int .i64 1,.int .i64 xk,.int .i64 xi,.string xs] 182))
    clear hq e2 hrow2 hrow3 ht hb2 hA2
    go_wp2_with (at_builtin;refine wpList_appR 179 182 Tryz.underlying179 Tryz.infoRun rfl _ _ rfl w.heap.size (.slice ra m rc) (Z.runs (l.take j)) rfl HR3.out (some ⟨w2.heap.size,0,none⟩) 1 ⟨1,⟨xk,xi,xs⟩⟩ rfl (slR_one w2 182 1 xk xi xs) (by have:=HRL.out;omega) (by simp;omega) ?_)
    intro v4 w4 ho4 has
    rw[← HE2.out] at ho4
    have hb4:Below w.heap.size w w4:=HB3.out.trans (has.below (by simp;omega) (fun k hk=>(owns_lt HR3.out hk).1))
    have HO4:=hide ho4
    have HB4:=hide hb4
    clear ho4 hb4 has v0 v1 v2
    go_wp2
    go_roundw
    case rel=>exact⟨j+1,hjl,by go_num,HO4,HB4⟩
    case measure=>simp[intOf];omega
  ·obtain rfl:j=len:=by omega
   have hll:l.take j=l:=by rw[← HL.out,List.take_length]
   have HR:Hid (OwnR wr 182 w.heap.size u3 (Z.runs l)):=by
    have:=hrow.out
    rwa [hll] at this
   clear hll hrow
   go_wp2
   go_ret
   exact⟨_,rfl,HR.out,hbw.out⟩
theorem runs_none (ao:Option Addr) (cap:Nat) (w:World):Calls Tryz.prog 151 #[.slice ao 0 cap] w fun e w'=>∃ v,e=.returned v∧OwnR w' 182 w.heap.size v (Z.runs [])∧Below w.heap.size w w':=by
 go_enter Tryz.func151,Tryz.ntmps151
 go_wp2_with fail
 go_rounds 1
 go_ret
 exact⟨_,rfl,ownR_nil _ _ _,Below.refl _ _⟩
theorem runs_any (ao:Option Addr) (len cap:Nat) (l:List Z.V) (w:World) (h:SlV w ao len cap l) (hm:len≤100000000) :
  Calls Tryz.prog 151 #[.slice ao len cap] w fun e w'=>∃ v,e=.returned v∧OwnR w' 182 w.heap.size v (Z.runs l)∧Below w.heap.size w w':=by
 rcases h.2.2.2.2 with h5|⟨b,off,rfl,hlt,h5⟩
 ·subst h5
  obtain rfl:l=[]:=List.eq_nil_of_length_eq_zero h.1
  exact runs_none ao cap w
 ·exact runs_some b off len cap l w h.1 hm hlt h5
end Go.Proofs.YtnkpgmibhpmdhaaGreat

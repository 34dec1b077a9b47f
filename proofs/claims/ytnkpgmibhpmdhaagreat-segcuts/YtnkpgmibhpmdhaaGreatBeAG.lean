/- Contracts and plain facts, one behind the other: PA DA V -/
import Derived.Test.YtnkpgmibhpmdhaaGreatBeAF
namespace Go.Proofs.YtnkpgmibhpmdhaaGreat
set_option linter.unusedVariables false
open Go.RowKit
def Z.pb (l:List Z.V):List Nat:=l.flatMap Z.lb
theorem pb_cons (x:Z.V) (l:List Z.V):Z.pb (x :: l)=Z.lb x++Z.pb l:=rfl
theorem pb_snoc (l:List Z.V) (x:Z.V):Z.pb (l++[x])=Z.pb l++Z.lb x:=by simp[Z.pb]
def Z.pE (kind:Int):Nat→List Nat→Nat
 | 0,_=>0
 | n+1,b=>if Z.oE b kind=0 then Z.pE kind n (Z.oR b kind) else Z.oE b kind
def Z.pL (kind:Int):Nat→List Nat→List Z.V
 | 0,_=>[]
 | n+1,b=>Z.oV b kind :: Z.pL kind n (Z.oR b kind)
def Z.pR (kind:Int):Nat→List Nat→List Nat
 | 0,b=>b
 | n+1,b=>Z.pR kind n (Z.oR b kind)
theorem pR_succ (kind:Int):∀ (n:Nat) (b:List Nat),Z.pR kind (n+1) b=Z.oR (Z.pR kind n b) kind
 | 0,b=>rfl
 | n+1,b=>pR_succ kind n (Z.oR b kind)
theorem pL_succ (kind:Int):∀ (n:Nat) (b:List Nat),Z.pL kind (n+1) b=Z.pL kind n b++[Z.oV (Z.pR kind n b) kind]
 | 0,b=>rfl
 | n+1,b=>by
  have:=pL_succ kind n (Z.oR b kind)
  rw[Z.pL,this]
  rfl
theorem pL_length (kind:Int):∀ (n:Nat) (b:List Nat),(Z.pL kind n b).length=n
 | 0,_=>rfl
 | n+1,b=>by rw[Z.pL,List.length_cons,pL_length kind n]
theorem pE_succ (kind:Int):∀ (n:Nat) (b:List Nat),Z.pE kind n b=0→Z.pE kind (n+1) b=Z.oE (Z.pR kind n b) kind
 | 0,b,_=>by
  show (if Z.oE b kind=0 then 0 else Z.oE b kind)=Z.oE b kind
  split<;>simp_all
 | n+1,b,h=>by
  have h0:Z.oE b kind=0:=by
   rw[Z.pE] at h
   split at h
   ·assumption
   ·contradiction
  have h1:Z.pE kind n (Z.oR b kind)=0:=by rwa [Z.pE,if_pos h0] at h
  have ih:=pE_succ kind n (Z.oR b kind) h1
  rw[Z.pE,if_pos h0]
  exact ih
theorem pE_more (kind:Int):∀ (n m:Nat) (b:List Nat),Z.pE kind n b≠0→Z.pE kind (n+m) b=Z.pE kind n b
 | 0,m,b,h=>absurd rfl h
 | n+1,m,b,h=>by
  rw[show n+1+m=(n+m)+1 by omega,Z.pE,Z.pE]
  rw[Z.pE] at h
  split
  ·rename_i h0
   rw[if_pos h0] at h
   exact pE_more kind n m _ h
  ·rfl
theorem pE_stop {kind:Int} {j n:Nat} {b:List Nat} (h:Z.pE kind j b=0) (hj:j<n) (hg:Z.oE (Z.pR kind j b) kind≠0):Z.pE kind n b=Z.oE (Z.pR kind j b) kind:=by
 have h1:=pE_succ kind j b h
 have h2:=pE_more kind (j+1) (n - (j+1)) b (by rw[h1];exact hg)
 rw[show j+1+(n - (j+1))=n by omega] at h2
 rw[h2,h1]
def Z.Fit (kind:Int) (x:Z.V):Prop:=x.k=kind∧Z.may x=true∧Z.I64 x.i
theorem p_back (kind:Int) (more:List Nat):∀ l:List Z.V,(∀ x∈l,Z.Fit kind x)→Z.pE kind l.length (Z.pb l++more)=0∧Z.pL kind l.length (Z.pb l++more)=l∧Z.pR kind l.length (Z.pb l++more)=more
 | [],_=>⟨rfl,rfl,rfl⟩
 | ⟨k,i,s⟩ :: l,h=>by
  obtain⟨hk,hm,hi⟩:=h _ List.mem_cons_self
  have hk':k=kind:=hk
  subst hk'
  obtain⟨e1,e2,e3⟩:=back_one hi hm (Z.pb l++more)
  obtain⟨f1,f2,f3⟩:=p_back k more l fun x hx=>h x (List.mem_cons_of_mem _ hx)
  rw[pb_cons,List.append_assoc,List.length_cons]
  refine⟨?_,?_,?_⟩
  ·rw[Z.pE,if_pos e1,e3];exact f1
  ·rw[Z.pL,e2,e3,f2]
  ·rw[Z.pR,e3];exact f3
theorem oR_lt {b:List Nat} (h:∀ x∈b,x<256) (kind:Int):∀ x∈Z.oR b kind,x<256:=by
 intro x hx
 unfold Z.oR at hx
 split at hx
 ·unfold Z.oS at hx
  split at hx
  ·exact h x (List.mem_of_mem_drop hx)
  ·split at hx
   ·exact h x (List.mem_of_mem_drop hx)
   ·split at hx
    ·exact h x (List.mem_of_mem_drop (List.mem_of_mem_drop hx))
    ·exact h x hx
 ·simp at hx
theorem pR_lt {kind:Int}:∀ (n:Nat) (b:List Nat),(∀ x∈b,x<256)→∀ x∈Z.pR kind n b,x<256
 | 0,_,h=>h
 | n+1,b,h=>pR_lt n _ (oR_lt h kind)
theorem oW_k {b:List Nat} {kind:Int} (h:kind=1∨kind=2∨kind=3):(Z.oW b kind).k=kind:=by
 unfold Z.oW
 rcases h with rfl|rfl|rfl<;>rfl
theorem p_two {kind:Int} (hkind:kind=1∨kind=2∨kind=3):∀ (n:Nat) (b:List Nat),(∀ x∈b,x<256)→Z.pE kind n b=0→(∀ x∈Z.pL kind n b,x.k=kind∧Z.may x=true)∧Z.pb (Z.pL kind n b)++Z.pR kind n b=b
 | 0,b,_,_=>⟨by simp[Z.pL],rfl⟩
 | n+1,b,h256,h=>by
  have h0:Z.oE b kind=0:=by
   rw[Z.pE] at h
   split at h
   ·assumption
   ·contradiction
  rw[Z.pE,if_pos h0] at h
  obtain⟨g1,g2⟩:=back_two h256 h0
  obtain⟨f1,f2⟩:=p_two hkind n _ (oR_lt h256 kind) h
  refine⟨fun x hx=>?_,?_⟩
  ·rw[Z.pL] at hx
   rcases List.mem_cons.1 hx with rfl|hx
   ·exact⟨by unfold Z.oV;rw[if_pos h0];exact oW_k hkind,g1⟩
   ·exact f1 x hx
  ·rw[Z.pL,pb_cons,Z.pR,List.append_assoc,f2]
   exact g2
def Z.kindOk (kind:Int):Bool:=kind==1||kind==2||kind==3
def Z.chk (l:List Z.V) (kind:Int):Int:=if Z.kindOk kind=false then 1 else if 4096<l.length then 2 else if (l.any fun x=>x.k != kind)=true then 7 else if (l.any fun x=>!Z.may x)=true then 1 else 0
theorem chk_zero {l:List Z.V} {kind:Int} (h:Z.chk l kind=0):(kind=1∨kind=2∨kind=3)∧l.length≤4096∧(∀ x∈l,x.k=kind)∧(∀ x∈l,Z.may x=true):=by
 unfold Z.chk at h
 split at h
 ·exact absurd h (by decide)
 ·rename_i h1
  split at h
  ·exact absurd h (by decide)
  ·rename_i h2
   split at h
   ·exact absurd h (by decide)
   ·rename_i h3
    split at h
    ·exact absurd h (by decide)
    ·rename_i h4
     refine⟨?_,by omega,?_,?_⟩
     ·have h5:Z.kindOk kind=true:=by simpa using h1
      unfold Z.kindOk at h5
      simp only[Bool.or_eq_true,beq_iff_eq] at h5
      rcases h5 with (h5|h5)|h5
      ·exact .inl h5
      ·exact .inr (.inl h5)
      ·exact .inr (.inr h5)
     ·intro x hx
      have h5:∀ x:Z.V,x∈l→x.k=kind:=by simpa using h3
      exact h5 x hx
     ·intro x hx
      have h5:∀ x:Z.V,x∈l→Z.may x=true:=by simpa using h4
      exact h5 x hx
theorem chk_of {l:List Z.V} {kind:Int} (hk:kind=1∨kind=2∨kind=3) (hl:l.length≤4096) (h1:∀ x∈l,x.k=kind) (h2:∀ x∈l,Z.may x=true):Z.chk l kind=0:=by
 have e1:Z.kindOk kind=true:=by rcases hk with rfl|rfl|rfl<;>rfl
 have e2:(l.any fun x=>x.k != kind)=false:=List.any_eq_false.2 fun x hx=>by simp[h1 x hx]
 have e3:(l.any fun x=>!Z.may x)=false:=List.any_eq_false.2 fun x hx=>by simp[h2 x hx]
 unfold Z.chk
 rw[e1,if_neg (by decide),if_neg (by omega),e2,if_neg (by decide),e3,if_neg (by decide)]
theorem wrap64_is (n:Int):Z.I64 (wrap64 n)∧(wrap64 n - n)%18446744073709551616=0:=by
 unfold wrap64 Z.I64
 omega
theorem wrap64_one {n m:Int} (h:Z.I64 m) (hd:(m - n)%18446744073709551616=0):wrap64 n=m:=by
 have:=wrap64_is n
 unfold Z.I64 at *
 omega
theorem wrap64_there {p x:Int} (hx:Z.I64 x):wrap64 (p+wrap64 (x - p))=x:=by
 refine wrap64_one hx ?_
 have:=(wrap64_is (x - p)).2
 omega
theorem wrap64_back {p z:Int} (hz:Z.I64 z):wrap64 (wrap64 (p+z) - p)=z:=by
 refine wrap64_one hz ?_
 have:=(wrap64_is (p+z)).2
 omega
theorem zag_i64 {s:Nat} (h:s<18446744073709551616):Z.I64 (E.zag s):=E.zag_lt s h
def Z.stp:Int→List Int→List Nat
 | _,[]=>[]
 | p,x :: t=>E.zig (wrap64 (x - p)) :: Z.stp x t
def Z.sms:Int→List Nat→List Int
 | _,[]=>[]
 | p,s :: t=>wrap64 (p+E.zag s) :: Z.sms (wrap64 (p+E.zag s)) t
theorem stp_length:∀ (p:Int) (l:List Int),(Z.stp p l).length=l.length
 | _,[]=>rfl
 | p,x :: t=>by rw[Z.stp,List.length_cons,List.length_cons,stp_length x t]
theorem sms_length:∀ (p:Int) (l:List Nat),(Z.sms p l).length=l.length
 | _,[]=>rfl
 | p,x :: t=>by rw[Z.sms,List.length_cons,List.length_cons,sms_length _ t]
theorem stp_lt:∀ (p:Int) (l:List Int),∀ s∈Z.stp p l,s<18446744073709551616
 | _,[],s,h=>by simp[Z.stp] at h
 | p,x :: t,s,h=>by
  rw[Z.stp] at h
  rcases List.mem_cons.1 h with rfl|h
  ·have:=(wrap64_is (x - p)).1
   exact E.zig_lt _ this.1 this.2
  ·exact stp_lt x t s h
theorem sms_i64:∀ (p:Int) (l:List Nat),∀ x∈Z.sms p l,Z.I64 x
 | _,[],x,h=>by simp[Z.sms] at h
 | p,s :: t,x,h=>by
  rw[Z.sms] at h
  rcases List.mem_cons.1 h with rfl|h
  ·exact (wrap64_is _).1
  ·exact sms_i64 _ t x h
theorem sms_stp:∀ (p:Int) (l:List Int),(∀ x∈l,Z.I64 x)→Z.sms p (Z.stp p l)=l
 | _,[],_=>rfl
 | p,x :: t,h=>by
  have e:wrap64 (p+E.zag (E.zig (wrap64 (x - p))))=x:=by rw[E.zag_zig];exact wrap64_there (h x (by simp))
  rw[Z.stp,Z.sms,e,sms_stp x t fun y hy=>h y (by simp[hy])]
theorem stp_sms:∀ (p:Int) (l:List Nat),(∀ s∈l,s<18446744073709551616)→Z.stp p (Z.sms p l)=l
 | _,[],_=>rfl
 | p,s :: t,h=>by
  have e:E.zig (wrap64 (wrap64 (p+E.zag s) - p))=s:=by rw[wrap64_back (zag_i64 (h s (by simp))),E.zig_zag]
  rw[Z.sms,Z.stp,e,stp_sms _ t fun y hy=>h y (by simp[hy])]
def Z.nms (l:List Z.V):List Int:=l.map fun x=>x.i
def Z.dst:List Z.V→List Nat
 | []=>[]
 | x :: t=>Z.stp x.i (Z.nms t)
def Z.vals (l:List Int):List Z.V:=l.map fun x=>⟨1,x,⟨#[]⟩⟩
theorem nms_vals (l:List Int):Z.nms (Z.vals l)=l:=by
 unfold Z.nms Z.vals
 rw[List.map_map]
 exact List.map_id l
theorem vals_length (l:List Int):(Z.vals l).length=l.length:=by simp[Z.vals]
theorem dst_length (l:List Z.V):(Z.dst l).length=l.length - 1:=by
 cases l with
 | nil=>rfl
 | cons x t=>rw[Z.dst,stp_length];simp[Z.nms]
theorem dst_lt (l:List Z.V):∀ s∈Z.dst l,s<18446744073709551616:=by
 cases l with
 | nil=>intro s h;simp[Z.dst] at h
 | cons x t=>exact stp_lt _ _
theorem stp_snoc:∀ (p:Int) (l:List Int) (x:Int),Z.stp p (l++[x])=Z.stp p l++[E.zig (wrap64 (x - (p :: l).getLast (by simp)))]
 | p,[],x=>rfl
 | p,y :: t,x=>by
  rw[List.cons_append,Z.stp,stp_snoc y t x,Z.stp,List.cons_append]
  congr 3
theorem dst_step {l:List Z.V} {j:Nat} {x y:Z.V} (hx:l[j]?=some x) (hy:l[j+1]?=some y):Z.dst (l.take (j+1+1))=Z.dst (l.take (j+1))++[E.zig (wrap64 (y.i - x.i))]:=by
 obtain⟨h1,h2⟩:=List.getElem?_eq_some_iff.1 hx
 obtain⟨h3,h4⟩:=List.getElem?_eq_some_iff.1 hy
 cases l with
 | nil=>simp at hx
 | cons z t =>
  rw[List.take_succ_cons,List.take_succ_cons,Z.dst,Z.dst]
  have e1:t.take (j+1)=t.take j++[y]:=by
   have:t[j]?=some y:=by simpa using hy
   obtain⟨h5,h6⟩:=List.getElem?_eq_some_iff.1 this
   rw[List.take_succ_eq_append_getElem h5,h6]
  rw[e1]
  have e2:Z.nms (t.take j++[y])=Z.nms (t.take j)++[y.i]:=by simp[Z.nms]
  rw[e2,stp_snoc]
  congr 3
  have e3:(z :: t).take (j+1)=(z :: t).take j++[x]:=by rw[List.take_succ_eq_append_getElem h1,h2]
  have e4:z.i :: Z.nms (t.take j)=Z.nms ((z :: t).take (j+1)):=by rw[List.take_succ_cons];rfl
  have e5:Z.nms ((z :: t).take (j+1))=Z.nms ((z :: t).take j)++[x.i]:=by rw[e3];simp[Z.nms]
  have e6:(z.i :: Z.nms (t.take j))=Z.nms ((z :: t).take j)++[x.i]:=e4.trans e5
  have e7:∀ (A B:List Int) (hA:A≠[]) (hB:B≠[]),A=B→A.getLast hA=B.getLast hB:=by rintro A B hA hB rfl;rfl
  rw[e7 _ _ (by simp) (by simp) e6,List.getLast_append]
  rfl
def Z.deb:List Z.V→List Nat
 | []=>[]
 | x :: t=>E.leb (E.zig x.i)++(E.leb (wid (ints (Z.dst (x :: t))))++A.bytesOf (bitsAll (ints (Z.dst (x :: t))) (wid (ints (Z.dst (x :: t))))))
def Z.decb (l:List Z.V):List Nat:=if Z.chk l 1=0 then Z.deb l else []
theorem decb_ok {l:List Z.V} (h:Z.chk l 1=0):Z.decb l=Z.deb l:=by unfold Z.decb;rw[if_pos h]
theorem decb_bad {l:List Z.V} (h:Z.chk l 1≠0):Z.decb l=[]:=by unfold Z.decb;rw[if_neg h]
def Z.fb (b:List Nat):List Nat:=b.drop (E.gK b)
def Z.fw (b:List Nat):Nat:=E.gN (Z.fb b)
def Z.fr (b:List Nat):List Nat:=(Z.fb b).drop (E.gK (Z.fb b))
def Z.fs (n:Nat) (b:List Nat):List Nat:=(nums (Z.fr b) (n - 1) (Z.fw b)).map Int.toNat
def Z.fl (n:Nat) (b:List Nat):List Int:=E.zag (E.gN b) :: Z.sms (E.zag (E.gN b)) (Z.fs n b)
def Z.fN (n:Nat) (b:List Nat):Nat:=if E.gE b≠0 then E.gE b else if E.gE (Z.fb b)≠0 then E.gE (Z.fb b) else if 64<Z.fw b then 4 else if jb (Z.fr b) ((n - 1)*Z.fw b)≠0 then jb (Z.fr b) ((n - 1)*Z.fw b) else if wid (ints (Z.fs n b))≠Z.fw b then 4 else 0
structure Z.FOk (n:Nat) (b:List Nat):Prop where
 one:E.gE b=0
 two:E.gE (Z.fb b)=0
 most:Z.fw b≤64
 bits:jb (Z.fr b) ((n - 1)*Z.fw b)=0
 just:wid (ints (Z.fs n b))=Z.fw b
theorem fN_zero {n:Nat} {b:List Nat} (h:Z.fN n b=0):Z.FOk n b:=by
 unfold Z.fN at h
 split at h
 ·omega
 ·rename_i h1
  split at h
  ·omega
  ·rename_i h2
   split at h
   ·omega
   ·rename_i h3
    split at h
    ·omega
    ·rename_i h4
     split at h
     ·omega
     ·rename_i h5
      exact⟨by omega,by omega,by omega,by omega,by omega⟩
theorem fN_of {n:Nat} {b:List Nat} (h:Z.FOk n b):Z.fN n b=0:=by
 have h1:=h.one
 have h2:=h.two
 have h3:=h.most
 have h4:=h.bits
 have h5:=h.just
 unfold Z.fN
 rw[if_neg (by omega),if_neg (by omega),if_neg (by omega),if_neg (by omega),if_neg (by omega)]
theorem nums_nat' (r:List Nat) (n k:Nat):ints ((nums r n k).map Int.toNat)=nums r n k:=by
 unfold ints nums
 rw[List.map_map,List.map_map]
 apply List.map_congr_left
 intro i _
 simp
theorem fs_ints (n:Nat) (b:List Nat):ints (Z.fs n b)=nums (Z.fr b) (n - 1) (Z.fw b):=nums_nat' _ _ _
theorem fs_length (n:Nat) (b:List Nat):(Z.fs n b).length=n - 1:=by unfold Z.fs;rw[List.length_map,nums_length]
theorem fs_lt {n:Nat} {b:List Nat} (hw:Z.fw b≤64):∀ s∈Z.fs n b,s<18446744073709551616:=fun s hs=>by
 obtain⟨x,hx,rfl⟩:=List.mem_map.1 hs
 have:=(In64_nums (Z.fr b) (n - 1) (Z.fw b) hw).1 x hx
 omega
theorem fl_length {n:Nat} (hn:0<n) (b:List Nat):(Z.fl n b).length=n:=by unfold Z.fl;rw[List.length_cons,sms_length,fs_length];omega
theorem fl_i64 {n:Nat} {b:List Nat} (h256:∀ x∈b,x<256):∀ x∈Z.fl n b,Z.I64 x:=fun x hx=>by
 unfold Z.fl at hx
 rcases List.mem_cons.1 hx with rfl|hx
 ·exact zag_i64 (E.gN_lt h256)
 ·exact sms_i64 _ _ x hx
theorem vals_chk {l:List Int} (h:l.length≤4096):Z.chk (Z.vals l) 1=0:=by
 refine chk_of (.inl rfl) (by rw[vals_length];exact h) (fun x hx=>?_) (fun x hx=>?_)
 ·obtain⟨y,_,rfl⟩:=List.mem_map.1 hx;rfl
 ·obtain⟨y,_,rfl⟩:=List.mem_map.1 hx
  rw[may_int,empty_of]
  decide
theorem f_two {n:Nat} (hn:0<n) {b:List Nat} (h256:∀ x∈b,x<256) (h:Z.FOk n b):Z.deb (Z.vals (Z.fl n b))=b:=by
 have hfb:∀ x∈Z.fb b,x<256:=fun x hx=>h256 x (List.mem_of_mem_drop hx)
 have hfr:∀ x∈Z.fr b,x<256:=fun x hx=>hfb x (List.mem_of_mem_drop hx)
 have hd:Z.dst (Z.vals (Z.fl n b))=Z.fs n b:=by
  show Z.stp (E.zag (E.gN b)) (Z.nms (Z.vals (Z.sms (E.zag (E.gN b)) (Z.fs n b))))=_
  rw[nms_vals,stp_sms _ _ (fs_lt h.most)]
 have hv:Z.vals (Z.fl n b)=⟨1,E.zag (E.gN b),⟨#[]⟩⟩ :: Z.vals (Z.sms (E.zag (E.gN b)) (Z.fs n b)):=rfl
 rw[hv] at hd ⊢
 rw[Z.deb,hd,h.just,fs_ints,bytes_nums _ _ _ hfr h.bits,E.zig_zag]
 have e1:E.leb (Z.fw b)=(Z.fb b).take (E.gK (Z.fb b)):=E.g_ones h.two hfb
 have e2:Z.fr b=(Z.fb b).drop (E.gK (Z.fb b)):=rfl
 rw[e1,e2,List.take_append_drop,E.g_ones h.one h256]
 show b.take (E.gK b)++b.drop (E.gK b)=b
 rw[List.take_append_drop]
theorem In64_ints {l:List Nat} (h:∀ s∈l,s<18446744073709551616):In64 (ints l):=fun x hx=>by
 unfold ints at hx
 obtain⟨y,hy,rfl⟩:=List.mem_map.1 hx
 have:=h y hy
 omega
theorem f_back {x:Z.V} {t:List Z.V} (hI:∀ y∈x :: t,Z.I64 y.i):Z.FOk (t.length+1) (Z.deb (x :: t))∧Z.fl (t.length+1) (Z.deb (x :: t))=Z.nms (x :: t):=by
 obtain⟨S,hS⟩:∃ S,Z.dst (x :: t)=S:=⟨_,rfl⟩
 have hSl:S.length=t.length:=by rw[← hS,dst_length];rfl
 have hin:In64 (ints S):=In64_ints (by rw[← hS];exact dst_lt _)
 have hw64:=wid_le (ints S) hin
 have hft:Fit (ints S) (wid (ints S)):=(fit_wid _ _ hin).2 (Nat.le_refl _)
 have hxI:=hI x (by simp)
 have hd:Z.deb (x :: t)=E.leb (E.zig x.i)++(E.leb (wid (ints S))++A.bytesOf (bitsAll (ints S) (wid (ints S)))):=by rw[Z.deb,hS]
 obtain⟨g1,g2,g3⟩:=E.g_put (E.zig x.i) (E.zig_lt _ hxI.1 hxI.2) (E.leb (wid (ints S))++A.bytesOf (bitsAll (ints S) (wid (ints S))))
 rw[← hd] at g1 g2 g3
 have hfb:Z.fb (Z.deb (x :: t))=E.leb (wid (ints S))++A.bytesOf (bitsAll (ints S) (wid (ints S))):=by unfold Z.fb;rw[g2,hd,List.drop_left]
 obtain⟨k1,k2,k3⟩:=E.g_put (wid (ints S)) (by omega) (A.bytesOf (bitsAll (ints S) (wid (ints S))))
 rw[← hfb] at k1 k2 k3
 have hfw:Z.fw (Z.deb (x :: t))=wid (ints S):=k3
 have hfr:Z.fr (Z.deb (x :: t))=A.bytesOf (bitsAll (ints S) (wid (ints S))):=by unfold Z.fr;rw[k2,hfb,List.drop_left]
 have hfs:Z.fs (t.length+1) (Z.deb (x :: t))=S:=by
  unfold Z.fs
  rw[hfr,hfw,Nat.add_sub_cancel,← hSl]
  have:=nums_pack (ints S) (wid (ints S)) hin hft
  rw[ints_length] at this
  rw[this]
  simp[ints,List.map_map,Function.comp_def]
 refine⟨⟨g1,k1,by rw[hfw];exact hw64,?_,by rw[hfs,hfw]⟩,?_⟩
 ·rw[hfr,hfw]
  have:=jb_bytes (bitsAll (ints S) (wid (ints S)))
  rw[bitsAll_length,ints_length,hSl] at this
  exact this
 ·unfold Z.fl
  rw[hfs,g3,E.zag_zig,← hS]
  show x.i :: Z.sms x.i (Z.stp x.i (Z.nms t))=x.i :: Z.nms t
  rw[sms_stp _ _ fun y hy=>?_]
  obtain⟨v,hv,rfl⟩:=List.mem_map.1 hy
  exact hI v (by simp[hv])
end Go.Proofs.YtnkpgmibhpmdhaaGreat
namespace Go.Proofs.YtnkpgmibhpmdhaaGreat.V
set_option linter.unusedVariables false
open Go.RowKit
structure Ent where
 p:Value→World→Prop
 mono:∀ {v:Value} {w w':World},Below w.heap.size w w'→p v w→p v w'
def Ent.is (x:Value):Ent:=⟨fun v _=>v=x,fun _ h=>h⟩
def Ent.sl (k:Nat) (l:List Nat):Ent:=⟨fun v w=>∃ a c,v=.slice a k c∧Sl w .u8 a k c (ints l),fun hb ⟨a,c,h1,h2⟩=>⟨a,c,h1,h2.below hb⟩⟩
def Ent.no:Ent:=⟨fun _ _=>False,fun _ h=>h⟩
def get:List (Nat × Ent)→Nat→Ent
 | [],_=>Ent.no
 | (k,p) :: r,d=>bif Nat.beq d k then p else get r d
def base (ops:Array Oper) (d:Nat):Bool:=ops.toList.all fun p=>p.dst != some d
def edge (ops:Array Oper) (o:Oper) (d:Nat):Bool:=o.after.toList.any fun e=>Region.binds .any e&&(ops[e.on]?).bind (·.dst)==some d
def nodup:List Nat→Bool
 | []=>true
 | d :: r=>!r.contains d&&nodup r
def okO (bs:List Nat) (ops:Array Oper) (n:Nat) (i:Nat) (o:Oper):Bool :=
 (o.looksAt ops).all (fun d=>(bs.contains d&&base ops d)||edge ops o d)&&o.after.toList.all (fun e=>!Region.binds .any e||decide (e.on<i))&&o.dst.all (fun d=>decide (d<n))
def okL (bs:List Nat) (ops:Array Oper) (n:Nat):Nat→List Oper→Bool
 | _,[]=>true
 | i,o :: r=>okO bs ops n i o&&okL bs ops n (i+1) r
def ok (bs:List Nat) (ops:Array Oper) (n:Nat):Bool:=nodup (ops.toList.filterMap (·.dst))&&okL bs ops n 0 ops.toList&&bs.all (base ops)
theorem okL_get {bs:List Nat} {ops:Array Oper} {n:Nat}:∀ {l:List Oper} {k i:Nat} {o:Oper},okL bs ops n k l=true→l[i]?=some o→okO bs ops n (k+i) o=true
 | [],_,_,_,_,h=>by simp at h
 | x :: r,k,0,o,h,ho=>by
  simp at ho;subst ho
  simp[okL] at h;exact h.1
 | x :: r,k,i+1,o,h,ho=>by
  simp at ho
  simp[okL] at h
  have:=okL_get h.2 ho
  rwa [Nat.add_assoc,Nat.add_comm 1 i] at this
theorem nodup_uniq:∀ {l:List Oper} {i j:Nat} {o p:Oper} {d:Nat},nodup (l.filterMap (·.dst))=true→l[i]?=some o→l[j]?=some p→o.dst=some d→p.dst=some d→i=j
 | [],_,_,_,_,_,_,h,_,_,_=>by simp at h
 | x :: r,0,0,_,_,_,_,_,_,_,_=>rfl
 | x :: r,0,j+1,o,p,d,hn,ho,hp,hod,hpd=>by
  simp at ho hp;subst ho
  rw[List.filterMap_cons,hod] at hn
  simp[nodup] at hn
  have:p∈r:=List.mem_of_getElem? hp
  exact absurd hpd (hn.1 p this)
 | x :: r,i+1,0,o,p,d,hn,ho,hp,hod,hpd=>by
  simp at ho hp;subst hp
  rw[List.filterMap_cons,hpd] at hn
  simp[nodup] at hn
  have:o∈r:=List.mem_of_getElem? ho
  exact absurd hod (hn.1 o this)
 | x :: r,i+1,j+1,o,p,d,hn,ho,hp,hod,hpd=>by
  simp at ho hp
  have hn':nodup (r.filterMap (·.dst))=true:=by
   rw[List.filterMap_cons] at hn
   cases hx:x.dst with
   | none=>rw[hx] at hn;exact hn
   | some y=>rw[hx] at hn;simp[nodup] at hn;exact hn.2
  rw[nodup_uniq hn' ho hp hod hpd]
variable {P : Program}
def Step (P:Program) (ops:Array Oper) (Q:Exit→Act→World→Prop) (tbl:List (Nat × Ent)) (w0:World) (o:Oper):Prop :=
 ∀ (a:Act) (w:World),Below w0.heap.size w0 w→(∀ d,(o.looksAt ops).contains d=true→(get tbl d).p (a.eval (.tmp d)) w) →
  (Region.wanted o (yielded ops a.tmps)=true∧o.wp P a w (fun a' w'=>Below w.heap.size w w'∧∃ v,a'=a.put o.dst v∧∀ d,o.dst=some d→(get tbl d).p v w') Q) ∨
  (Region.wanted o (yielded ops a.tmps)=false∧∀ d,o.dst=some d→(get tbl d).p undef w)
def Steps (P:Program) (ops:Array Oper) (Q:Exit→Act→World→Prop) (tbl:List (Nat × Ent)) (w0:World):List Oper→Prop
 | []=>True
 | o :: r=>Step P ops Q tbl w0 o∧Steps P ops Q tbl w0 r
theorem Steps.get {ops:Array Oper} {Q:Exit→Act→World→Prop} {tbl:List (Nat × Ent)} {w0:World}:∀ {l:List Oper} {i:Nat} {o:Oper},Steps P ops Q tbl w0 l→l[i]?=some o→Step P ops Q tbl w0 o
 | [],_,_,_,h=>by simp at h
 | x :: r,0,o,h,ho=>by simp at ho;subst ho;exact h.1
 | x :: r,i+1,o,h,ho=>by simp at ho;exact Steps.get h.2 ho
structure Inv (ops:Array Oper) (bs:List Nat) (tbl:List (Nat × Ent)) (w0:World) (a0:Act) (listed:Array Bool) (a:Act) (w:World):Prop where
 sz:listed.size=ops.size
 bel:Below w0.heap.size w0 w
 defers:a.defers=a0.defers
 tsize:a.tmps.size=a0.tmps.size
 bases:∀ d,d∈bs→(V.get tbl d).p (a.eval (.tmp d)) w
 others:∀ d,V.base ops d=true→a.eval (.tmp d)=a0.eval (.tmp d)
 known:∀ i o d,ops[i]?=some o→listed.getD i false=true→o.dst=some d→(V.get tbl d).p (a.eval (.tmp d)) w
theorem eval_put_same {a:Act} {d:Nat} {v:Value} (h:d<a.tmps.size):(a.put (some d) v).eval (.tmp d)=v:=by
 simp[Act.eval,Act.put,Array.getD,h]
theorem Inv.step {ops:Array Oper} {bs:List Nat} {tbl:List (Nat × Ent)} {w0 w w':World} {a0 a:Act} {listed:Array Bool} (hok:ok bs ops a0.tmps.size=true) (h:Inv ops bs tbl w0 a0 listed a w) {i:Nat} {o:Oper} (ho:ops[i]?=some o)
  (hb:Below w.heap.size w w') {v:Value} (hv:∀ d,o.dst=some d→(V.get tbl d).p v w'):Inv ops bs tbl w0 a0 (listed.setIfInBounds i true) (a.put o.dst v) w':=by
 simp only[ok,Bool.and_eq_true] at hok
 obtain⟨⟨hnd,hl⟩,hbase⟩:=hok
 have hoi:ops.toList[i]?=some o:=by simpa using ho
 have hoo:=okL_get hl hoi
 simp only[okO,Bool.and_eq_true] at hoo
 have hdl:∀ d,o.dst=some d→d<a.tmps.size:=fun d hd=>by
  have:=hoo.2
  rw[hd] at this
  rw[h.tsize]
  simpa using this
 have hsz:=h.bel.size
 refine⟨by simp[h.sz],h.bel.trans (hb.mono hsz),?_,?_,?_,?_,?_⟩
 ·rw[← h.defers];cases o.dst<;>rfl
 ·rw[← h.tsize];cases o.dst<;>simp[Act.put]
 ·intro d hd
  rw[Act.eval_put (fun x hx e=>?_)]
  ·exact (V.get tbl d).mono hb (h.bases d hd)
  ·injection e with e
   subst e
   have h1:=List.all_eq_true.1 hbase d hd
   have h2:=List.all_eq_true.1 h1 o (List.mem_of_getElem? hoi)
   simp[hx] at h2
 ·intro d hd
  rw[Act.eval_put (fun x hx e=>?_)]
  ·exact h.others d hd
  ·injection e with e
   subst e
   have h2:=List.all_eq_true.1 hd o (List.mem_of_getElem? hoi)
   simp[hx] at h2
 ·intro j p d hp hlj hpd
  by_cases hij:i=j
  ·subst hij
   rw[ho] at hp
   obtain rfl:=Option.some.inj hp
   rw[hpd,eval_put_same (hdl d hpd)]
   exact hv d hpd
  ·have hlj':listed.getD j false=true:=by
    simpa [Array.getD_eq_getD_getElem?,Array.getElem?_setIfInBounds_ne hij] using hlj
   rw[Act.eval_put (fun x hx e=>?_)]
   ·exact (V.get tbl d).mono hb (h.known j p d hp hlj' hpd)
   ·injection e with e
    subst e
    exact hij (nodup_uniq hnd hoi (by simpa using hp) hx hpd)
theorem ready_get {ops:Array Oper} {listed:Array Bool} {i:Nat} (h:i∈Region.ready .any ops listed):∃ o,ops[i]?=some o∧i<ops.size∧listed.getD i true=false∧∀ e∈o.after,Region.binds .any e=true→listed.getD e.on false=true:=by
 simp only[Region.ready,List.mem_filter,List.mem_range,Bool.and_eq_true] at h
 obtain⟨h1,h2,h3⟩:=h
 have ho:ops[i]?=some ops[i]:=by simp[h1]
 refine⟨ops[i],ho,h1,by simpa using h2,fun e he hbd=>?_⟩
 rw[ho] at h3
 simp at h3
 obtain⟨k,hk,hek⟩:=Array.getElem_of_mem he
 have:=h3 k hk
 rw[hek] at this
 simpa [hbd,Array.getD_eq_getD_getElem?] using this
theorem all_listed {bs:List Nat} {ops:Array Oper} {n:Nat} {listed:Array Bool} (hl:okL bs ops n 0 ops.toList=true) (hsz:listed.size=ops.size) (hr:Region.ready .any ops listed=[]):∀ i,i<ops.size→listed.getD i false=true:=by
 intro i
 induction i using Nat.strongRecOn with
 | _ i ih =>
  intro hi
  cases hg:listed.getD i false with
  | true=>rfl
  | false =>
   exfalso
   have ho:ops[i]?=some ops[i]:=by simp[hi]
   have hoo:=okL_get hl (i:=i) (o:=ops[i]) (by simp[hi])
   simp only[okO,Bool.and_eq_true,Nat.zero_add] at hoo
   have hin:i∈Region.ready .any ops listed:=by
    simp only[Region.ready,List.mem_filter,List.mem_range,Bool.and_eq_true]
    refine⟨hi,?_,?_⟩
    ·have:listed.getD i true=false:=by
      have h1:i<listed.size:=by omega
      simp[Array.getD,h1] at hg ⊢
      exact hg
     simp[this]
    ·rw[ho]
     simp only[Option.map_some,Option.getD_some]
     rw[Array.all_eq_true]
     intro k hk
     have he:=List.all_eq_true.1 hoo.1.2 (ops[i].after[k]) (by simp)
     cases hb:Region.binds .any ops[i].after[k] with
     | false=>rfl
     | true =>
      simp[hb] at he
      have:=ih _ he (by omega)
      simpa using this
   rw[hr] at hin
   simp at hin
theorem wpAny_inv {ops:Array Oper} {bs:List Nat} {tbl:List (Nat × Ent)} {w0:World} {a0:Act} {Q:Exit→Act→World→Prop} (hok:ok bs ops a0.tmps.size=true) (hs:Steps P ops Q tbl w0 ops.toList)
  (hd:∀ a w,Below w0.heap.size w0 w→a.defers=a0.defers→a.tmps.size=a0.tmps.size→(∀ d,V.base ops d=true→a.eval (.tmp d)=a0.eval (.tmp d))→(∀ (i:Nat) (o:Oper) (d:Nat),ops[i]?=some o→o.dst=some d→(V.get tbl d).p (a.eval (.tmp d)) w)→Q .normal a w) :
  ∀ (fuel:Nat) (listed:Array Bool) (a:Act) (w:World),Inv ops bs tbl w0 a0 listed a w→listed.toList.count false≤fuel→wpAny P .any ops Q fuel listed a w:=by
 have hok':=hok
 simp only[ok,Bool.and_eq_true] at hok'
 obtain⟨⟨hnd,hl⟩,hbase⟩:=hok'
 have hdone:∀ listed a w,Inv ops bs tbl w0 a0 listed a w→Region.ready .any ops listed=[]→Q .normal a w:=fun listed a w hI hr =>
  hd a w hI.bel hI.defers hI.tsize hI.others fun i o d ho hod=>hI.known i o d ho (all_listed hl hI.sz hr i (by
   rcases Nat.lt_or_ge i ops.size with h|h
   ·exact h
   ·simp[h] at ho)) hod
 intro fuel
 induction fuel with
 | zero =>
  intro listed a w hI hc
  have hr:Region.ready .any ops listed=[]:=by
   apply List.filter_eq_nil_iff.2
   intro i hi
   have hi':i<listed.size:=by rw[hI.sz];simpa using hi
   have h1:listed[i]=true:=by
    cases hx:listed[i] with
    | true=>rfl
    | false =>
     have:false∈listed.toList:=by rw[← hx];simp
     have:=List.count_pos_iff.2 this
     omega
   simp[Array.getD,hi',h1]
  exact⟨hr,hdone listed a w hI hr⟩
 | succ fuel ih =>
  intro listed a w hI hc
  refine⟨hdone listed a w hI,fun i hi=>?_⟩
  obtain⟨o,ho,hi1,hi2,hi3⟩:=ready_get hi
  have hil:i<listed.size:=by rw[hI.sz];exact hi1
  have hcnt:(listed.setIfInBounds i true).toList.count false≤fuel:=by
   have hf:listed[i]=false:=by simpa [Array.getD,hil] using hi2
   have h1:(listed.setIfInBounds i true).toList=listed.toList.set i true:=by simp
   have h2:=List.count_set (a:=true) (b:=false) (l:=listed.toList) (i:=i) (h:=by simpa using hil)
   rw[h1,h2]
   simp[hf]
   have:false∈listed.toList:=by rw[← hf];simp
   have:=List.count_pos_iff.2 this
   simp at this hc
   omega
  have hoi:ops.toList[i]?=some o:=by simpa using ho
  have hoo:=okL_get hl hoi
  simp only[okO,Bool.and_eq_true] at hoo
  have hk:∀ d,(o.looksAt ops).contains d=true→(V.get tbl d).p (a.eval (.tmp d)) w:=by
   intro d hd
   have h1:=List.all_eq_true.1 hoo.1.1 d (by simpa using hd)
   simp only[Bool.or_eq_true,Bool.and_eq_true] at h1
   rcases h1 with ⟨h1,_⟩|h1
   ·exact hI.bases d (by simpa using h1)
   ·simp only[edge,List.any_eq_true,Bool.and_eq_true,beq_iff_eq] at h1
    obtain⟨e,he,hbd,hx⟩:=h1
    cases hp:ops[e.on]? with
    | none=>rw[hp] at hx;simp at hx
    | some p =>
     rw[hp] at hx
     exact hI.known _ p d hp (hi3 e (by simpa using he) hbd) hx
  unfold wpOp
  rw[ho]
  rcases hs.get hoi a w hI.bel hk with ⟨hw,hwp⟩|⟨hw,hv⟩
  ·simp only[hw,if_true]
   refine .inl (Oper.wp_mono (fun a' w' h=>?_) hwp)
   obtain⟨hb,v,rfl,hv⟩:=h
   exact ih _ _ _ (hI.step hok ho hb hv) hcnt
  ·simp only[hw]
   exact ih _ _ _ (hI.step hok ho (Below.refl _ _) hv) hcnt
theorem wp_region {id:Nat} {l:List Oper} {Q:Exit→Act→World→Prop} {a:Act} {w w0:World} (bs:List Nat) (tbl:List (Nat × Ent)) (hm:P.follows .mixedOrders=true) (hok:ok bs l.toArray a.tmps.size=true) (hw:Below w0.heap.size w0 w) (hb:∀ d,d∈bs→(V.get tbl d).p (a.eval (.tmp d)) w.drew) (hs:Steps P l.toArray Q tbl w0 l)
  (hd:∀ a' w',Below w0.heap.size w0 w'→a'.defers=a.defers→(∀ (i:Nat) (o:Oper) (d:Nat),l[i]?=some o→o.dst=some d→(V.get tbl d).p (a'.eval (.tmp d)) w')→Q .normal a' w'):(Code.region id l.toArray true).wp P Q a w:=by
 refine wp_region_any hm ?_
 refine wpAny_inv (bs:=bs) (tbl:=tbl) (w0:=w0) (a0:=a) hok (by simpa using hs) (fun a' w' h1 h2 _ _ h3=>hd a' w' h1 h2 fun i o d ho=>h3 i o d (by simpa using ho)) _ _ _ _ ?_ ?_
 ·exact⟨by simp,hw.drew,rfl,rfl,hb,fun _ _=>rfl,fun i o d _ h=>by simp[Array.getD] at h⟩
 ·simp
def puts (a:Act) (ds:List Nat) (vs:Nat→Value):Act:=ds.foldl (fun a d=>a.put (some d) (vs d)) a
theorem puts_get (vs:Nat→Value):∀ (ds:List Nat) (a:Act),(puts a ds vs).defers=a.defers∧(puts a ds vs).tmps.size=a.tmps.size∧∀ d,(puts a ds vs).tmps[d]?=if d∈ds∧d<a.tmps.size then some (vs d) else a.tmps[d]?
 | [],a=>⟨rfl,rfl,fun d=>by simp[puts]⟩
 | x :: r,a=>by
  obtain⟨h1,h2,h3⟩:=puts_get vs r (a.put (some x) (vs x))
  have e:puts a (x :: r) vs=puts (a.put (some x) (vs x)) r vs:=rfl
  rw[e]
  refine⟨h1,by rw[h2];simp[Act.put],fun d=>?_⟩
  rw[h3 d]
  have hs:(a.put (some x) (vs x)).tmps.size=a.tmps.size:=by simp[Act.put]
  rw[hs]
  by_cases hr:d∈r∧d<a.tmps.size
  ·rw[if_pos hr,if_pos ⟨List.mem_cons_of_mem _ hr.1,hr.2⟩]
  ·rw[if_neg hr]
   by_cases hx:d=x
   ·subst hx
    by_cases hl:d<a.tmps.size
    ·rw[if_pos ⟨List.mem_cons_self,hl⟩]
     simp[Act.put,hl]
    ·rw[if_neg (fun h=>hl h.2)]
     simp[Act.put,hl]
   ·rw[if_neg (fun h=>by
     rcases List.mem_cons.1 h.1 with h'|h'
     ·exact hx h'
     ·exact hr ⟨h',h.2⟩)]
    simp[Act.put,Array.getElem?_setIfInBounds_ne (fun e=>hx e.symm)]
theorem eval_get {a:Act} {d:Nat} (h:d<a.tmps.size):a.tmps[d]?=some (a.eval (.tmp d)):=by
 simp[Act.eval,Array.getD,h]
theorem act_ext {a b:Act} (h1:a.tmps=b.tmps) (h2:a.defers=b.defers):a=b:=by
 cases a;cases b;cases h1;cases h2;rfl
theorem wp_region2 {id:Nat} {l:List Oper} {Q:Exit→Act→World→Prop} {a:Act} {w w0:World} (ds bs:List Nat) (tbl:List (Nat × Ent)) (hds:l.filterMap (·.dst)=ds) (hm:P.follows .mixedOrders=true) (hok:ok bs l.toArray a.tmps.size=true) (hw:Below w0.heap.size w0 w) (hb:∀ d,d∈bs→(V.get tbl d).p (a.eval (.tmp d)) w.drew) (hs:Steps P l.toArray Q tbl w0 l)
  (hd:∀ (vs:Nat→Value) w',Below w0.heap.size w0 w'→(∀ (i:Nat) (o:Oper) (d:Nat),l[i]?=some o→o.dst=some d→(V.get tbl d).p (vs d) w')→Q .normal (puts a ds vs) w'):(Code.region id l.toArray true).wp P Q a w:=by
 refine wp_region_any hm ?_
 refine wpAny_inv (bs:=bs) (tbl:=tbl) (w0:=w0) (a0:=a) hok (by simpa using hs) (fun a' w' h1 h2 h4 h5 h3=>?_) _ _ _ _ ?_ ?_
 ·have e:a'=puts a ds (fun d=>a'.eval (.tmp d)):=by
   obtain⟨p1,p2,p3⟩:=puts_get (fun d=>a'.eval (.tmp d)) ds a
   refine act_ext (Array.ext_getElem? fun d=>?_) (by rw[h2,p1])
   rw[p3 d]
   by_cases hl:d<a.tmps.size
   ·rw[eval_get (by rw[h4];exact hl),eval_get hl]
    by_cases hd:d∈ds
    ·rw[if_pos ⟨hd,hl⟩]
    ·rw[if_neg (fun h=>hd h.1),h5 d]
     simp only[base,List.all_eq_true]
     intro o ho
     have:d ∉ l.filterMap (·.dst):=by rw[hds];exact hd
     simp only[List.mem_filterMap,not_exists,not_and] at this
     simpa using this o (by simpa using ho)
   ·rw[if_neg (fun h=>hl h.2),Array.getElem?_eq_none (by omega),Array.getElem?_eq_none (by omega)]
  rw[e]
  exact hd _ w' h1 fun i o d ho=>h3 i o d (by simpa using ho)
 ·exact⟨by simp,hw.drew,rfl,rfl,hb,fun _ _=>rfl,fun i o d _ h=>by simp[Array.getD] at h⟩
 ·simp
end Go.Proofs.YtnkpgmibhpmdhaaGreat.V

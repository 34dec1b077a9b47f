/- Contracts and plain facts, one behind the other: A U AB -/
import Derived.WalkKit
import Derived.Laws.BitsAllLaws
import Derived.Laws.MathBits
import Derived.Test.YtnkpgmibhpmdhaaGreatRows
import Derived.WalkSpells
import Derived.WalkLawsBesides
import Derived.ArgAppend
import Derived.Laws.AppendOwnNone
import Derived.Laws.BytesArg
import Derived.Lib.AppendStr
namespace Go.Proofs.YtnkpgmibhpmdhaaGreat.A
set_option linter.unusedVariables false
theorem getD_left {α:Type} (a b:List α) (i:Nat) (d:α) (h:i<a.length):(a++b).getD i d=a.getD i d:=by
 simp[List.getD,List.getElem?_append_left h]
theorem getD_right {α:Type} (a b:List α) (i:Nat) (d:α) (h:a.length≤i):(a++b).getD i d=b.getD (i - a.length) d:=by
 simp[List.getD,List.getElem?_append_right h]
def valOf:List Bool→Nat
 | []=>0
 | b :: r=>b.toNat+2*valOf r
def bitsOf (n:Nat):Nat→List Bool
 | 0=>[]
 | w+1=>(n%2==1) :: bitsOf (n / 2) w
theorem bitsOf_length (n w:Nat):(bitsOf n w).length=w:=by
 induction w generalizing n with
 | zero=>rfl
 | succ w ih=>simp[bitsOf,ih]
theorem valOf_lt (l:List Bool):valOf l<2^l.length:=by
 induction l with
 | nil=>simp[valOf]
 | cons b r ih =>
  have:b.toNat≤1:=by cases b<;>simp
  simp only[valOf,List.length_cons,Nat.pow_succ];omega
theorem valOf_append (a b:List Bool):valOf (a++b)=valOf a+2^a.length*valOf b:=by
 induction a with
 | nil=>simp[valOf]
 | cons x r ih =>
  simp only[List.cons_append,valOf,ih,List.length_cons,Nat.pow_succ]
  rw[show 2^r.length*2*valOf b=2*(2^r.length*valOf b) by rw[Nat.mul_comm (2^r.length) 2,Nat.mul_assoc]]
  omega
theorem valOf_bitsOf (n w:Nat):valOf (bitsOf n w)=n%2^w:=by
 induction w generalizing n with
 | zero=>simp[bitsOf,valOf,Nat.mod_one]
 | succ w ih =>
  simp only[bitsOf,valOf,ih]
  have h:=Nat.mod_mul (x:=n) (a:=2) (b:=2^w)
  rw[Nat.pow_succ,Nat.mul_comm (2^w) 2,h]
  rcases Nat.mod_two_eq_zero_or_one n with h|h<;>simp[h]
theorem bitsOf_valOf (l:List Bool):bitsOf (valOf l) l.length=l:=by
 induction l with
 | nil=>rfl
 | cons b r ih =>
  simp only[valOf,List.length_cons,bitsOf]
  have h1:(b.toNat+2*valOf r) / 2=valOf r:=by cases b<;>simp<;>omega
  have h2:((b.toNat+2*valOf r)%2==1)=b:=by cases b<;>simp<;>omega
  rw[h1,h2,ih]
theorem bitsOf_add (n a b:Nat):bitsOf n (a+b)=bitsOf n a++bitsOf (n / 2^a) b:=by
 induction a generalizing n with
 | zero=>simp[bitsOf]
 | succ a ih =>
  rw[show a+1+b=(a+b)+1 by omega]
  simp only[bitsOf,ih,List.cons_append]
  rw[Nat.div_div_eq_div_mul,Nat.pow_succ,Nat.mul_comm 2 (2^a)]
theorem bitsOf_succ (n w:Nat):bitsOf n (w+1)=bitsOf n w++[n / 2^w%2==1]:=by
 rw[bitsOf_add];rfl
theorem bitsOf_take (n a b:Nat) (h:a≤b):(bitsOf n b).take a=bitsOf n a:=by
 obtain⟨c,rfl⟩:=Nat.le.dest h
 rw[bitsOf_add,List.take_append_of_le_length (by simp[bitsOf_length]),List.take_of_length_le (by simp[bitsOf_length])]
theorem bitsOf_getD (n w i:Nat) (h:i<w):(bitsOf n w).getD i false=(n / 2^i%2==1):=by
 have h1:=bitsOf_take n (i+1) w h
 have h2:(bitsOf n w).getD i false=((bitsOf n w).take (i+1)).getD i false:=by
  simp[List.getD]
 rw[h2,h1,bitsOf_succ,getD_right _ _ _ _ (by simp[bitsOf_length])]
 simp[bitsOf_length]
def bytesOf (bs:List Bool):List Nat:=(List.range ((bs.length+7) / 8)).map fun j=>valOf ((bs.drop (8*j)).take 8)
theorem bytesOf_length (bs:List Bool):(bytesOf bs).length=(bs.length+7) / 8:=by simp[bytesOf]
theorem bytesOf_getD (bs:List Bool) (j:Nat) (h:j<(bs.length+7) / 8):(bytesOf bs).getD j 0=valOf ((bs.drop (8*j)).take 8):=by
 simp[bytesOf,List.getD,h]
theorem bytesOf_lt (bs:List Bool):∀ x∈bytesOf bs,x<256:=by
 intro x hx
 simp only[bytesOf,List.mem_map] at hx
 obtain⟨j,_,rfl⟩:=hx
 have h1:=valOf_lt ((bs.drop (8*j)).take 8)
 have h2:((bs.drop (8*j)).take 8).length≤8:=List.length_take_le _ _
 have h3:2^((bs.drop (8*j)).take 8).length≤2^8:=Nat.pow_le_pow_right (by omega) h2
 omega
theorem getD_ext {l m:List Nat} (h:l.length=m.length) (h':∀ i,i<l.length→l.getD i 0=m.getD i 0):l=m:=by
 apply List.ext_getElem h
 intro i h1 h2
 have:=h' i h1
 simpa [List.getD,h1,h2] using this
theorem bytesOf_snoc_new (bs:List Bool) (b:Bool) (h:bs.length%8=0):bytesOf (bs++[b])=bytesOf bs++[b.toNat]:=by
 apply getD_ext
 ·simp[bytesOf_length];omega
 ·intro i hi
  rw[bytesOf_length] at hi
  simp only[List.length_append,List.length_singleton] at hi
  rw[bytesOf_getD _ _ (by simpa using hi)]
  by_cases hl:i<(bs.length+7) / 8
  ·rw[getD_left _ _ _ _ (by rw[bytesOf_length];exact hl),bytesOf_getD _ _ hl,List.drop_append_of_le_length (by omega),List.take_append_of_le_length (by simp;omega)]
  ·have hi':i=bs.length / 8:=by omega
   rw[getD_right _ _ _ _ (by rw[bytesOf_length];omega),bytesOf_length]
   have e:8*i=bs.length:=by omega
   rw[e,List.drop_append_of_le_length (by omega),List.drop_length]
   have e2:i - (bs.length+7) / 8=0:=by omega
   rw[e2];simp[valOf]
theorem bytesOf_snoc_old (bs:List Bool) (b:Bool) (h:bs.length%8≠0) :
  bytesOf (bs++[b])=(bytesOf bs).set ((bs.length+7) / 8 - 1) ((bytesOf bs).getD ((bs.length+7) / 8 - 1) 0+b.toNat*2^(bs.length%8)):=by
 apply getD_ext
 ·simp[bytesOf_length];omega
 ·intro i hi
  rw[bytesOf_length] at hi
  simp only[List.length_append,List.length_singleton] at hi
  rw[bytesOf_getD _ _ (by simpa using hi)]
  by_cases hl:i=(bs.length+7) / 8 - 1
  ·subst hl
   have hlt:(bs.length+7) / 8 - 1<(bs.length+7) / 8:=by omega
   have e:((bytesOf bs).set ((bs.length+7) / 8 - 1) ((bytesOf bs).getD ((bs.length+7) / 8 - 1) 0+b.toNat*2^(bs.length%8))).getD ((bs.length+7) / 8 - 1) 0=(bytesOf bs).getD ((bs.length+7) / 8 - 1) 0+b.toNat*2^(bs.length%8):=by
    simp[List.getD,bytesOf_length,hlt]
   rw[e,bytesOf_getD _ _ hlt]
   have e8:8*((bs.length+7) / 8 - 1)=bs.length - bs.length%8:=by omega
   have hm:bs.length%8≤bs.length:=Nat.mod_le _ _
   rw[List.drop_append_of_le_length (by omega),List.take_of_length_le (by simp;omega),List.take_of_length_le (by simp;omega),valOf_append]
   have e3:(List.drop (8*((bs.length+7) / 8 - 1)) bs).length=bs.length%8:=by simp;omega
   rw[e3];simp[valOf,Nat.mul_comm]
  ·have hi2:i<(bs.length+7) / 8:=by omega
   have e:((bytesOf bs).set ((bs.length+7) / 8 - 1) ((bytesOf bs).getD ((bs.length+7) / 8 - 1) 0+b.toNat*2^(bs.length%8))).getD i 0=(bytesOf bs).getD i 0:=by
    simp only[List.getD,List.getElem?_set]
    rw[if_neg (by omega)]
   rw[e,bytesOf_getD _ _ hi2,List.drop_append_of_le_length (by omega),List.take_append_of_le_length (by simp;omega)]
theorem last_lt (bs:List Bool) (h:bs.length%8≠0):(bytesOf bs).getD ((bs.length+7) / 8 - 1) 0<2^(bs.length%8):=by
 rw[bytesOf_getD _ _ (by omega)]
 have hm:bs.length%8≤bs.length:=Nat.mod_le _ _
 have e3:(List.drop (8*((bs.length+7) / 8 - 1)) bs).length=bs.length%8:=by simp;omega
 have:=valOf_lt (List.take 8 (List.drop (8*((bs.length+7) / 8 - 1)) bs))
 rw[List.take_of_length_le (by omega),e3] at this
 rw[List.take_of_length_le (by omega)]
 exact this
def bitsB (l:List Nat):List Bool:=l.flatMap fun x=>bitsOf x 8
theorem bitsB_length (l:List Nat):(bitsB l).length=8*l.length:=by
 induction l with
 | nil=>rfl
 | cons x r ih=>simp[bitsB,List.flatMap_cons,bitsOf_length] at ih ⊢;omega
theorem bitsB_cons (x:Nat) (l:List Nat):bitsB (x :: l)=bitsOf x 8++bitsB l:=by simp[bitsB]
theorem bitsB_getD (l:List Nat) (k:Nat) (h:k<8*l.length):(bitsB l).getD k false=(l.getD (k / 8) 0 / 2^(k%8)%2==1):=by
 induction l generalizing k with
 | nil=>simp at h
 | cons x r ih =>
  rw[bitsB_cons]
  by_cases hk:k<8
  ·rw[getD_left _ _ _ _ (by simp[bitsOf_length,hk]),bitsOf_getD _ _ _ hk,Nat.div_eq_of_lt hk,Nat.mod_eq_of_lt hk];rfl
  ·rw[getD_right _ _ _ _ (by simp[bitsOf_length];omega),bitsOf_length,ih (k - 8) (by simp at h;omega)]
   have e1:k / 8=(k - 8) / 8+1:=by omega
   have e2:k%8=(k - 8)%8:=by omega
   rw[e1,e2];rfl
def padded (bs:List Bool):List Bool:=bs++List.replicate (8*((bs.length+7) / 8) - bs.length) false
theorem valOf_replicate (n:Nat):valOf (List.replicate n false)=0:=by
 induction n with
 | zero=>rfl
 | succ n ih=>simp[List.replicate_succ,valOf,ih]
theorem bytesOf_step (bs:List Bool) (h:8≤bs.length):bytesOf bs=valOf (bs.take 8) :: bytesOf (bs.drop 8):=by
 have e:(bs.length+7) / 8=(bs.length - 8+7) / 8+1:=by omega
 simp only[bytesOf,e,List.range_succ_eq_map,List.map_cons,List.map_map,List.length_drop]
 refine (List.cons_eq_cons).2 ⟨by simp,?_⟩
 apply List.map_congr_left
 intro j _
 simp only[Function.comp,List.drop_drop]
 rw[show 8*(j+1)=8+8*j by omega]
theorem bytesOf_short (bs:List Bool) (h:bs.length<8) (h0:bs≠[]):bytesOf bs=[valOf bs]:=by
 have:0<bs.length:=List.length_pos_iff.2 h0
 have e:(bs.length+7) / 8=1:=by omega
 simp[bytesOf,e,List.take_of_length_le (show bs.length≤8 by omega)]
theorem bitsB_bytesOf (bs:List Bool):bitsB (bytesOf bs)=padded bs:=by
 generalize hn:bs.length=n
 induction n using Nat.strongRecOn generalizing bs with
 | ind n ih =>
  by_cases h8:8≤bs.length
  ·rw[bytesOf_step _ h8,bitsB_cons,ih (n - 8) (by omega) (bs.drop 8) (by simp;omega)]
   have e:bitsOf (valOf (bs.take 8)) 8=bs.take 8:=by
    have:=bitsOf_valOf (bs.take 8)
    rwa [show (bs.take 8).length=8 by simp;omega] at this
   rw[e]
   simp only[padded,List.length_drop]
   rw[← List.append_assoc,List.take_append_drop]
   congr 2;omega
  ·by_cases h0:bs=[]
   ·subst h0;rfl
   ·rw[bytesOf_short _ (by omega) h0,bitsB_cons]
    have hp:0<bs.length:=List.length_pos_iff.2 h0
    have e1:(bs.length+7) / 8=1:=by omega
    simp only[padded,e1]
    have e:bitsOf (valOf (bs++List.replicate (8*1 - bs.length) false)) 8=bs++List.replicate (8*1 - bs.length) false:=by
     have:=bitsOf_valOf (bs++List.replicate (8*1 - bs.length) false)
     rwa [show (bs++List.replicate (8*1 - bs.length) false).length=8 by simp;omega] at this
    rw[valOf_append,valOf_replicate,Nat.mul_zero,Nat.add_zero] at e
    rw[e];simp[bitsB]
theorem bytesOf_bitsB (l:List Nat) (h:∀ x∈l,x<256):bytesOf (bitsB l)=l:=by
 induction l with
 | nil=>rfl
 | cons x r ih =>
  rw[bytesOf_step _ (by rw[bitsB_length];simp;omega),bitsB_cons,List.drop_append_of_le_length (by simp[bitsOf_length]),List.drop_of_length_le (by simp[bitsOf_length]),List.nil_append,ih (fun y hy=>h y (by simp[hy])),List.take_append_of_le_length (by simp[bitsOf_length]),List.take_of_length_le (by simp[bitsOf_length]),valOf_bitsOf]
  have:=h x (by simp)
  rw[Nat.mod_eq_of_lt (by omega)]
end Go.Proofs.YtnkpgmibhpmdhaaGreat.A
namespace Go.Proofs.YtnkpgmibhpmdhaaGreat
set_option linter.unusedVariables false
open Go.RowKit
theorem hide {p:Prop} (h:p):Hid p:=h
structure Kept (F:Nat→Prop) (w w':World):Prop where
 os:w'.os=w.os
 tape:w'.tape=w.tape
 output:w'.output=w.output
 size:w.heap.size≤w'.heap.size
 block:∀ k,k<w.heap.size→¬ F k→w'.heap[k]?=w.heap[k]?
theorem Kept.refl (F:Nat→Prop) (w:World):Kept F w w:=⟨rfl,rfl,rfl,Nat.le_refl _,fun _ _ _=>rfl⟩
theorem Kept.trans' {F G:Nat→Prop} {a b c:World} (h:Kept F a b) (k:Kept G b c) (hg:∀ x,G x→F x∨a.heap.size≤x):Kept F a c :=
 ⟨k.os.trans h.os,k.tape.trans h.tape,k.output.trans h.output,Nat.le_trans h.size k.size,fun i hi hn=>by
  have hs:=h.size
  rw[k.block i (by omega) (fun hG=>by rcases hg i hG with h1|h1;exact hn h1;omega)]
  exact h.block i hi hn⟩
theorem Kept.trans {F:Nat→Prop} {a b c:World} (h:Kept F a b) (k:Kept F b c):Kept F a c:=h.trans' k fun _ hx=>.inl hx
theorem Kept.mono {F G:Nat→Prop} {w w':World} (h:Kept F w w') (hg:∀ x,F x→G x∨w.heap.size≤x):Kept G w w':=(Kept.refl G w).trans' h hg
theorem Kept.drew {F:Nat→Prop} {a w:World} (h:Kept F a w):Kept F a w.drew:=⟨h.os,h.tape,h.output,h.size,h.block⟩
theorem Kept.alloc {F:Nat→Prop} {a w:World} (h:Kept F a w) (o:Obj):Kept F a (w.alloc o) :=
 h.trans ⟨rfl,rfl,rfl,by simp,fun k hk _=>Below.heap_alloc _ _ _ hk⟩
theorem Kept.setCell {F:Nat→Prop} {a w:World} (h:Kept F a w) {p:Addr} (hp:F p.block∨a.heap.size≤p.block) (u:Value):Kept F a (w.setCell p u) :=
 h.trans' (G:=fun k=>k=p.block) ⟨rfl,rfl,rfl,by simp[World.setCell],fun k _ hn=>Below.heap_setCell _ _ _ _ hn⟩ (by rintro x rfl;exact hp)
theorem Kept.grown {F:Nat→Prop} {a w w':World} {row:Option Nat} (h:Kept F a w) (hg:w.grownBy w' row) (hr:∀ k,row=some k→F k∨a.heap.size≤k):Kept F a w' :=
 h.trans' (G:=fun k=>row=some k) ⟨hg.os,hg.tape,hg.output,hg.size,fun k hk hn=>hg.block k hk (fun e=>hn e.symm)⟩ hr
theorem Kept.below {F:Nat→Prop} {w w':World} (h:Kept F w w') {B:Nat} (hB:B≤w.heap.size) (hF:∀ k,F k→B≤k):Below B w w' :=
 ⟨h.os,h.tape,h.output,h.size,fun k hk=>h.block k (by omega) (fun hf=>by have:=hF k hf;omega)⟩
theorem Kept.of_below {w w':World} (h:Below w.heap.size w w') (F:Nat→Prop):Kept F w w':=⟨h.os,h.tape,h.output,h.size,fun k hk _=>h.block k hk⟩
theorem Kept.cell {F:Nat→Prop} {w w':World} (h:Kept F w w') {p:Addr} (hp:p.block<w.heap.size) (hf:¬ F p.block):w'.cell? p=w.cell? p:=World.cell?_of_block (h.block _ hp hf)
theorem owns_of_block {w w':World} {base:Nat} {e:TypeId} {size:Nat} {v:Value} {n:Nat} {xs:List Value} (h:w.ownsRow base e size v n xs) (hb:∀ g,v.ownBlock=some g→w'.heap[g]?=w.heap[g]?):w'.ownsRow base e size v n xs:=by
 obtain⟨h1,h2⟩:=h
 refine⟨h1,?_⟩
 rcases h2 with h2|⟨g,cap,cur,hv,hg,hh,r⟩
 ·exact .inl h2
 ·exact .inr ⟨g,cap,cur,hv,hg,by rw[hb g (by rw[hv];rfl)];exact hh,r⟩
theorem owns_base {w:World} {base base':Nat} {e:TypeId} {size:Nat} {v:Value} {n:Nat} {xs:List Value} (h:w.ownsRow base e size v n xs) (hb:∀ g,v.ownBlock=some g→base'≤g):w.ownsRow base' e size v n xs:=by
 obtain⟨h1,h2⟩:=h
 refine⟨h1,?_⟩
 rcases h2 with h2|⟨g,cap,cur,hv,hg,hh,r⟩
 ·exact .inl h2
 ·exact .inr ⟨g,cap,cur,hv,hb g (by rw[hv];rfl),hh,r⟩
theorem owns_pos {w:World} {base:Nat} {e:TypeId} {size:Nat} {v:Value} {n:Nat} {xs:List Value} (h:w.ownsRow base e size v n xs) (hn:0<n) :
  ∃ g cap,v=.slice (some ⟨g,0,none⟩) n cap∧base≤g∧g<w.heap.size∧n≤cap:=by
 have hl:=h.lt
 rcases h.2 with ⟨_,h2⟩|⟨g,cap,cur,hv,hg,hh,hc,_⟩
 ·omega
 ·exact⟨g,cap,hv,hg,(hl g (by rw[hv];rfl)).2,hc⟩
theorem owns_lt {w:World} {base:Nat} {e:TypeId} {size:Nat} {v:Value} {n:Nat} {xs:List Value} (h:w.ownsRow base e size v n xs) {k:Nat} (hk:v.ownBlock=some k):base≤k∧k<w.heap.size:=h.lt k hk
def AS (w:World) (v:Value) (w':World) (v':Value):Prop :=
 Kept (fun k=>v.ownBlock=some k) w w'∧(v'.ownBlock=v.ownBlock∨∀ k,v'.ownBlock=some k→w.heap.size≤k)
theorem AS.refl (w:World) (v:Value):AS w v w v:=⟨Kept.refl _ _,.inl rfl⟩
theorem AS.trans {a b c:World} {u v x:Value} (h:AS a u b v) (k:AS b v c x):AS a u c x:=by
 have hs:=h.1.size
 refine⟨h.1.trans' k.1 ?_,?_⟩
 ·intro y hy
  rcases h.2 with h2|h2
  ·exact .inl (h2 ▸ hy)
  ·exact .inr (h2 y hy)
 ·rcases k.2 with k2|k2
  ·rw[k2];exact h.2
  ·exact .inr fun y hy=>by have:=k2 y hy;omega
theorem AS.pre {a w w':World} {v v':Value} (hk:Kept (fun _=>False) a w) (h:AS w v w' v'):AS a v w' v':=by
 have hs:=hk.size
 refine⟨(hk.mono fun _ hx=>hx.elim).trans h.1,?_⟩
 rcases h.2 with h2|h2
 ·exact .inl h2
 ·exact .inr fun y hy=>by have:=h2 y hy;omega
theorem AS.post {a w w':World} {v v':Value} (h:AS a v w v') (hk:Kept (fun _=>False) w w'):AS a v w' v':=⟨h.1.trans' hk fun _ hx=>hx.elim,h.2⟩
theorem wpList_append_to {P:Program} {w:World} {ops:Array Oper} {rest:List Oper} {o:Oper} {a:Act} {Q:Exit→Act→World→Prop} (hgd:o.guard=none) (s x:Operand) (t:TypeId)
  (ho:o.op=.call { callee:=.builtin .append,args:=#[s,x],argTypes:=#[t,t] })
  (base:Nat) (e:TypeId) (i:TypeInfo) (z:Value) (size bytes:Nat) (ht:P.underlying t=some (.slice e)) (hi:P.info? e=some i) (hz:i.zero=some z)
  (hsize:i.size=size) (hby:i.bytes=bytes) (hzs:z.cells.size=size) (hsz:0<size)
  (v:Value) (n:Nat) (xs:List Value) (hs:a.eval s=v) (hown:w.ownsRow base e size v n xs)
  (ao:Option Addr) (m c:Nat) (news:List Value) (hx:a.eval x=.slice ao m c) (hnone:ao=none→m=0∧c=0) (hl:news.length=m*size) (hnews:∀ ad,ao=some ad→∀ j u,news[j]?=some u→w.cell? (ad.add j)=some u) (h1:∀ u∈news,u.oneCell'=true)
  (h63:n+m≤maxLen) (hbytes:(n+m)*bytes≤140737488355328) (hbase:base≤w.heap.size)
  (h:∀ v' w',w'.ownsRow base e size v' (n+m) (xs++news)→AS w v w' v'→wpList P ops Q rest (a.put o.dst v') w'):wpList P ops Q (o :: rest) a w:=by
 cases ao with
 | none =>
  obtain⟨rfl,rfl⟩:=hnone rfl
  have hn:news=[]:=List.eq_nil_of_length_eq_zero (by simpa using hl)
  subst hn
  exact wpList_append_own_none hgd s x t ho base e i size ht hi v n xs hs hown hx (h v w (by simpa using hown) (AS.refl _ _))
 | some ad =>
  rcases hown.2 with ⟨hv,hn0⟩|⟨g,cap,cur,hv,hg,hh,hc,hm,hcs,_⟩
  ·subst hn0
   have hx0:xs=[]:=List.eq_nil_of_length_eq_zero (by simpa using hown.1)
   subst hx0
   refine wpList_append_own w hgd s x t ho w.heap.size e i z size bytes ht hi hz hsize hby hzs hsz v 0 [] hs (by rw[hv];exact World.ownsRow_nil _ _ _ _) ad m c news hx hl (hnews ad rfl) h1 h63 hbytes (Nat.le_refl _) ?_
   intro v' w' ho' hg' _
   exact h v' w' (owns_base ho' fun g hg=>by have:=(owns_lt ho' hg).1;omega) ⟨(Kept.refl _ _).grown hg' fun k hk=>.inl hk,.inr fun k hk=>(owns_lt ho' hk).1⟩
  ·subst hv
   by_cases hroom:n+m≤cap
   ·refine wpList_append_fits w hgd s x t ho base e i size ht hi hsize g n cap xs hs hown ad m c news hx hl (hnews ad rfl) h1 hroom ?_
    intro w' ho' hg'
    exact h _ w' ho' ⟨(Kept.refl _ _).grown hg' fun k hk=>.inl hk,.inl rfl⟩
   ·refine wpList_append_grows w hgd s x t ho e i z size bytes ht hi hz hsize hby hzs hsz (some ⟨g,0,none⟩) n cap xs hs (by simp) hown.1 (fun b hb j u hu=>by obtain rfl:=Option.some.inj hb;exact hown.cells rfl j u hu) ad m c news hx hl (hnews ad rfl) h1 (by omega) h63 hbytes ?_
    intro v' w' ho' hg'
    exact h v' w' (owns_base ho' fun k hk=>by have:=(owns_lt ho' hk).1;omega) ⟨(Kept.refl _ _).grown hg' (by simp),.inr fun k hk=>(owns_lt ho' hk).1⟩
theorem owns_ne_block {w:World} {b s n:Nat} {e t:TypeId} {v:Value} {xs:List Value} {p:Nat} {c:Array Value} (h:w.ownsRow b e s v n xs) (hp:w.heap[p]?=some (.cells c t (0,0))) (hne:e≠t):v.ownBlock≠some p:=by
 intro hg
 rcases h.2 with ⟨hv,_⟩|⟨g1,c1,cur1,hv,_,hh,_⟩
 ·rw[hv] at hg;simp[Value.ownBlock] at hg
 ·rw[hv] at hg
  simp[Value.ownBlock] at hg
  subst hg
  rw[hp] at hh
  simp at hh
  exact hne hh.2.symm
def B8 (l:List Nat):List Value:=l.map fun x=>Value.int .u8 ((x:Nat):Int)
theorem B8_length (l:List Nat):(B8 l).length=l.length:=by simp[B8]
theorem B8_append (a b:List Nat):B8 (a++b)=B8 a++B8 b:=by simp[B8]
def Sl (w:World) (k:IntKind) (ao:Option Addr) (len cap:Nat) (l:List Int):Prop :=
 l.length=len∧len≤cap∧cap≤maxLen∧(ao=none→cap=0)∧(len=0∨∃ b off,ao=some ⟨b,off,none⟩∧b<w.heap.size∧∀ i,i<len→w.cell? ⟨b,off+i,none⟩=some (.int k (l.getD i 0)))
theorem cell_lt {w:World} {a:Addr} {v:Value} (h:w.cell? a=some v):a.block<w.heap.size:=by
 by_cases hn:a.block<w.heap.size
 ·exact hn
 ·simp[World.cell?,hn] at h
theorem Sl.below {w w':World} {k:IntKind} {ao:Option Addr} {len cap:Nat} {l:List Int} (h:Sl w k ao len cap l) (hb:Below w.heap.size w w'):Sl w' k ao len cap l:=by
 obtain⟨h1,h2,h3,h4,h5⟩:=h
 refine⟨h1,h2,h3,h4,?_⟩
 rcases h5 with h5|⟨b,off,rfl,hlt,h5⟩
 ·exact .inl h5
 ·exact .inr ⟨b,off,rfl,by have:=hb.size;omega,fun i hi=>by rw[hb.cell (p:=⟨b,off+i,none⟩) hlt];exact h5 i hi⟩
theorem Sl.kept {F:Nat→Prop} {w w':World} {k:IntKind} {ao:Option Addr} {len cap:Nat} {l:List Int} (h:Sl w k ao len cap l) (hb:Kept F w w') (hf:∀ x,ao=some x→¬ F x.block):Sl w' k ao len cap l:=by
 obtain⟨h1,h2,h3,h4,h5⟩:=h
 refine⟨h1,h2,h3,h4,?_⟩
 rcases h5 with h5|⟨b,off,rfl,hlt,h5⟩
 ·exact .inl h5
 ·exact .inr ⟨b,off,rfl,by have:=hb.size;omega,fun i hi=>by rw[hb.cell (p:=⟨b,off+i,none⟩) hlt (hf ⟨b,off,none⟩ rfl)];exact h5 i hi⟩
theorem Sl.kept0 {F:Nat→Prop} {w w':World} {k:IntKind} {ao:Option Addr} {len cap:Nat} {l:List Int} (h:Sl w k ao len cap l) (hb:Kept F w w') (hf:len=0∨∀ x,ao=some x→¬ F x.block):Sl w' k ao len cap l:=by
 rcases hf with h0|hf
 ·obtain⟨h1,h2,h3,h4,h5⟩:=h
  exact⟨h1,h2,h3,h4,.inl h0⟩
 ·exact h.kept hb hf
theorem Sl.set {w:World} {k:IntKind} {ao:Option Addr} {len cap:Nat} {l:List Int} {B:Nat} {v:Value} {t:TypeId} (h:Sl w k ao len cap l) (hb:w.heap[B]?=some (.cells #[v] t (0,0))) (hv:∀ n,v≠.int k n) (u:Value):Sl (w.setCell ⟨B,0,none⟩ u) k ao len cap l:=by
 refine h.kept0 (Kept.setCell (F:=fun k=>k=B) (Kept.refl _ _) (.inl rfl) u) ?_
 by_cases h0:len=0
 ·exact .inl h0
 ·refine .inr fun x hx hB=>?_
  rcases h.2.2.2.2 with h5|⟨b,off,hao,hlt,h5⟩
  ·exact h0 h5
  ·rw[hao] at hx
   obtain rfl:=Option.some.inj hx
   have h6:=h5 0 (by omega)
   subst hB
   simp[World.cell?,hb] at h6
   match off,h6 with
   | 0,h6=>simp at h6;exact hv _ h6
theorem Sl.of_owns {w:World} {base:Nat} {e:TypeId} {k:IntKind} {v:Value} {l:List Int} (h:w.ownsRow base e 1 v l.length (l.map (Value.int k))) :
  ∃ ao cap,v=.slice ao l.length cap∧Sl w k ao l.length cap l∧v.ownBlock=ao.map (·.block):=by
 have h0:=h
 rcases h.2 with ⟨h1,h2⟩|⟨g,cap,cur,hv,hg,hh,hc,hm,_⟩
 ·have hl:l=[]:=List.eq_nil_of_length_eq_zero h2
  subst hl
  exact⟨none,0,h1,⟨rfl,Nat.le_refl _,by simp[maxLen],fun _=>rfl,.inl rfl⟩,by rw[h1];rfl⟩
 ·subst hv
  refine⟨some ⟨g,0,none⟩,cap,rfl,⟨rfl,hc,hm,by simp,.inr ⟨g,0,rfl,lt_of_block hh,fun i hi=>?_⟩⟩,rfl⟩
  rw[Nat.zero_add,h0.cellAt i (by omega)]
  simp[List.getD,hi]
theorem heap_setCell_one {w:World} {p:Nat} {a:Value} {t:TypeId} (h:w.heap[p]?=some (.cells #[a] t (0,0))) (u:Value) :
  (w.setCell ⟨p,0,none⟩ u).heap[p]?=some (.cells #[u] t (0,0)):=by
 simp only[World.setCell,Array.getElem?_modify,h];simp
theorem Sl.news {w:World} {k:IntKind} {ao:Option Addr} {len cap:Nat} {l:List Int} (h:Sl w k ao len cap l):∀ ad,ao=some ad→∀ j u,(l.map (Value.int k))[j]?=some u→w.cell? (ad.add j)=some u:=by
 obtain⟨h1,h2,h3,h4,h5⟩:=h
 intro ad had j u hu
 have hj:j<l.length:=by have:=(List.getElem?_eq_some_iff.1 hu).1;simpa using this
 rcases h5 with h5|⟨b,off,hao,hlt,h5⟩
 ·omega
 ·rw[hao] at had
  obtain rfl:=Option.some.inj had
  rw[Addr.add_lit,h5 j (by omega)]
  simpa [List.getD,hj] using hu
def ints (l:List Nat):List Int:=l.map fun x=>((x:Nat):Int)
theorem ints_length (l:List Nat):(ints l).length=l.length:=by simp[ints]
theorem B8_ints (l:List Nat):B8 l=(ints l).map (Value.int .u8):=by simp[B8,ints]
theorem ints_getD (l:List Nat) (i:Nat):(ints l).getD i 0=((l.getD i 0:Nat):Int):=by
 by_cases h:i<l.length<;>simp[ints,List.getD,h]
theorem Sl.of_bytes {w:World} {base:Nat} {e:TypeId} {v:Value} {l:List Nat} (h:w.ownsRow base e 1 v l.length (B8 l)) :
  ∃ ao cap,v=.slice ao l.length cap∧Sl w .u8 ao l.length cap (ints l)∧v.ownBlock=ao.map (·.block):=by
 rw[B8_ints] at h
 have:=Sl.of_owns (l:=ints l) (k:=.u8) (by rw[ints_length];exact h)
 rwa [ints_length] at this
theorem Sl.one (w:World) (t:TypeId) (k:IntKind) (a:Int):Sl (w.alloc (.cells #[.int k a] t)) k (some ⟨w.heap.size,0,none⟩) 1 1 [a]:=by
 refine⟨rfl,Nat.le_refl _,by decide,by simp,.inr ⟨_,_,rfl,by simp,?_⟩⟩
 intro i hi
 match i,hi with
 | 0,_=>simp
theorem AS.below {w w':World} {v v':Value} (h:AS w v w' v') {B:Nat} (hB:B≤w.heap.size) (hv:∀ k,v.ownBlock=some k→B≤k):Below B w w':=h.1.below hB hv
theorem Sl.news1 {w:World} {k:IntKind} (t:TypeId) (a:Int):∀ ad,some (⟨w.heap.size,0,none⟩:Addr)=some ad→∀ j u,[Value.int k a][j]?=some u→(w.alloc (.cells #[.int k a] t)).cell? (ad.add j)=some u:=by
 intro ad had j u hj
 obtain rfl:=Option.some.inj had
 match j,hj with
 | 0,hj=>simp at hj;subst hj;simp[Addr.add]
theorem one_oneCell (k:IntKind) (a:Int):∀ u∈[Value.int k a],u.oneCell'=true:=by
 intro u hu;simp at hu;subst hu;rfl
theorem run_load_none (P:Program) (a:Addr) (w:World):(loadCells a 0).run P w=.ok #[] w:=by
 simp[loadCells,loadCellsFrom]
theorem str_of {w:World} {ao:Option Addr} {len cap:Nat} {l:List Int} (h:Sl w .u8 ao len cap l):(convert 22 9 (.slice ao len cap)).run Tryz.prog w=.ok (.string (strOfNums l)) w:=by
 obtain⟨h1,h2,h3,h4,h5⟩:=h
 cases ao with
 | none =>
  obtain rfl:=h4 rfl
  obtain rfl:len=0:=by omega
  obtain rfl:l=[]:=List.eq_nil_of_length_eq_zero h1
  exact run_convert_bytes_nil w 22 5 Tryz.underlying22 Tryz.underlying5 0 0 9 Tryz.underlying9
 | some x =>
  by_cases h0:len=0
  ·subst h0
   obtain rfl:l=[]:=List.eq_nil_of_length_eq_zero h1
   rw[run_convert_bytes_string w 22 9 5 _ 0 cap Tryz.underlying22 Tryz.underlying5 Tryz.underlying9,run_bytesToString w x 0 cap [] (run_load_none _ _ _)]
   rfl
  ·rcases h5 with h5|⟨b,off,hx,hlt,h5⟩
   ·omega
   ·obtain rfl:=Option.some.inj hx
    exact run_convert_bytes_arg w 22 5 Tryz.underlying22 Tryz.underlying5 b off len cap l h1 h5 9 Tryz.underlying9
theorem Tryz.infoU8:(Tryz.prog.info? 5).map (fun i=>(i.zero,i.size,i.bytes))=some (some (.int .u8 0),1,1):=by kernel_rfl
theorem pow_int (k:Nat):((2^k:Nat):Int)=(2:Int)^k:=Int.natCast_pow 2 k
def bitAt (l:List Nat) (pos:Nat):Nat:=((A.bitsB l).getD pos false).toNat
def getV (l:List Nat) (pos k:Nat):Nat:=A.valOf (((A.bitsB l).drop pos).take k)
theorem bitAt_le (l:List Nat) (pos:Nat):bitAt l pos≤1:=by unfold bitAt;cases (A.bitsB l).getD pos false<;>simp
theorem take_drop_succ (l:List Bool) (pos j:Nat) (h:pos+j<l.length):(l.drop pos).take (j+1)=(l.drop pos).take j++[l.getD (pos+j) false]:=by
 rw[List.take_succ_eq_append_getElem (by simp;omega)]
 simp[List.getD,h]
theorem getV_succ (l:List Nat) (pos j:Nat) (h:pos+j<8*l.length):getV l pos (j+1)=getV l pos j+2^j*bitAt l (pos+j):=by
 unfold getV bitAt
 have hl:(((A.bitsB l).drop pos).take j).length=j:=by simp[A.bitsB_length];omega
 rw[take_drop_succ _ _ _ (by rw[A.bitsB_length];omega),A.valOf_append,hl]
 simp[A.valOf]
theorem getV_lt (l:List Nat) (pos j:Nat):getV l pos j<2^j:=by
 unfold getV
 have h1:=A.valOf_lt (((A.bitsB l).drop pos).take j)
 have h2:(((A.bitsB l).drop pos).take j).length≤j:=List.length_take_le _ _
 exact Nat.lt_of_lt_of_le h1 (Nat.pow_le_pow_right (by omega) h2)
def orAll (l:List Int):Nat:=l.foldl (fun a x=>a ||| x.toNat) 0
theorem orAll_snoc (l:List Int) (x:Int):orAll (l++[x])=orAll l ||| x.toNat:=by simp[orAll]
theorem orAll_lt (l:List Int) (h:∀ x∈l,x<18446744073709551616):orAll l<18446744073709551616:=by
 have gen:∀ (l:List Int) (a:Nat),a<2^64→(∀ x∈l,x<18446744073709551616)→l.foldl (fun a x=>a ||| x.toNat) a<2^64:=by
  intro l
  induction l with
  | nil=>intro a ha _;exact ha
  | cons y r ih =>
   intro a ha hh
   have hy:=hh y (by simp)
   exact ih _ (Nat.or_lt_two_pow ha (by omega)) (fun x hx=>hh x (by simp[hx]))
 have:=gen l 0 (by omega) h
 unfold orAll;omega
theorem take_snocD (l:List Int) (k:Nat) (h:k<l.length):l.take (k+1)=l.take k++[l.getD k 0]:=by
 rw[List.take_succ_eq_append_getElem h];simp[List.getD,h]
def In64 (l:List Int):Prop:=∀ x∈l,0≤x∧x<18446744073709551616
theorem In64.getD {l:List Int} (h:In64 l) (k:Nat):0≤l.getD k 0∧l.getD k 0<18446744073709551616:=by
 by_cases hk:k<l.length
 ·have:l.getD k 0=l[k]:=by simp[List.getD,hk]
  rw[this];exact h _ (List.getElem_mem hk)
 ·have:l.getD k 0=0:=by simp[List.getD,Nat.le_of_not_lt hk]
  rw[this];decide
def bitsAll (l:List Int) (k:Nat):List Bool:=l.flatMap fun x=>A.bitsOf x.toNat k
theorem bitsAll_snoc (l:List Int) (x:Int) (k:Nat):bitsAll (l++[x]) k=bitsAll l k++A.bitsOf x.toNat k:=by simp[bitsAll]
theorem bitsAll_length (l:List Int) (k:Nat):(bitsAll l k).length=l.length*k:=by
 induction l with
 | nil=>simp[bitsAll]
 | cons x r ih=>simp only[bitsAll,List.flatMap_cons,List.length_append,A.bitsOf_length,List.length_cons] at ih ⊢;rw[ih,Nat.succ_mul];omega
theorem bitsAll_le (l:List Int) (k j:Nat) (hk:k≤64):(bitsAll (l.take j) k).length≤l.length*64:=by
 rw[bitsAll_length]
 exact Nat.mul_le_mul (List.length_take_le' _ _) hk
def Fit (l:List Int) (k:Nat):Prop:=∀ x∈l,x<(2:Int)^k
theorem Fit.snoc {l:List Int} {k:Nat} {j:Nat} (h:Fit (l.take j) k) (hj:j<l.length) (hx:l.getD j 0<(2:Int)^k):Fit (l.take (j+1)) k:=by
 rw[take_snocD l j hj]
 intro x hx'
 rcases List.mem_append.1 hx' with h1|h1
 ·exact h x h1
 ·simp only[List.mem_singleton] at h1;subst h1;exact hx
theorem bitLen_or (a b:Nat):bitLen (a ||| b)=max (bitLen a) (bitLen b):=by
 have key:∀ a b:Nat,bitLen a≤bitLen b→bitLen (a ||| b)=bitLen b:=by
  intro a b h
  by_cases hb:b=0
  ·subst hb
   have ha:a=0:=by
    by_cases h0:a=0
    ·exact h0
    ·simp[bitLen,h0] at h
   subst ha;rfl
  ·have h1:=(bitLen_spec a).1
   have h2:=bitLen_spec b
   have h3:a<2^bitLen b:=Nat.lt_of_lt_of_le h1 (Nat.pow_le_pow_right (by omega) h)
   have h4:a ||| b<2^bitLen b:=Nat.or_lt_two_pow h3 h2.1
   have h5:b≤a ||| b:=Nat.right_le_or
   have hne:a ||| b≠0:=by omega
   have hp:0<bitLen b:=by unfold bitLen;rw[if_neg hb];omega
   have h6:=h2.2 hb
   have e:(a ||| b).log2=bitLen b - 1:=(Nat.log2_eq_iff hne).2 ⟨by omega,by rw[show bitLen b - 1+1=bitLen b by omega];exact h4⟩
   unfold bitLen at e hp ⊢
   rw[if_neg hne,e]
   omega
 rcases Nat.le_total (bitLen a) (bitLen b) with h|h
 ·rw[key a b h];omega
 ·rw[Nat.or_comm,key b a h];omega
theorem foldl_or (l:List Int) (a:Nat):l.foldl (fun a x=>a ||| x.toNat) a=a ||| orAll l:=by
 induction l generalizing a with
 | nil=>simp[orAll]
 | cons x r ih =>
  simp only[List.foldl_cons,orAll]
  rw[ih,ih,Nat.zero_or,Nat.or_assoc]
theorem orAll_cons (x:Int) (l:List Int):orAll (x :: l)=x.toNat ||| orAll l:=by
 simp only[orAll,List.foldl_cons,Nat.zero_or]
 rw[foldl_or];rfl
theorem In64.snoc {l:List Int} (h:In64 l) {x:Int} (h0:0≤x) (h1:x<18446744073709551616):In64 (l++[x]):=by
 intro y hy
 rcases List.mem_append.1 hy with h'|h'
 ·exact h y h'
 ·simp only[List.mem_singleton] at h';subst h';exact⟨h0,h1⟩
def wid (l:List Int):Nat:=bitLen (orAll l)
theorem bitLen_le (a:Nat) (h:a<18446744073709551616):bitLen a≤64:=by
 unfold bitLen
 split
 ·omega
 ·rename_i h0
  have:=(Nat.log2_lt h0).2 (show a<2^64 from h)
  omega
theorem wid_le (l:List Int) (h:In64 l):wid l≤64:=bitLen_le _ (orAll_lt l fun x hx=>(h x hx).2)
theorem bitLen_le_iff (a k:Nat):bitLen a≤k↔a<2^k:=by
 have h:=bitLen_spec a
 constructor
 ·intro hk;exact Nat.lt_of_lt_of_le h.1 (Nat.pow_le_pow_right (by omega) hk)
 ·intro hk
  by_cases h0:a=0
  ·subst h0;simp[bitLen]
  ·have h2:=h.2 h0
   rcases Nat.lt_or_ge k (bitLen a) with hlt|hge
   ·have:2^k≤2^(bitLen a - 1):=Nat.pow_le_pow_right (by omega) (by omega)
    omega
   ·exact hge
theorem fit_wid (l:List Int) (k:Nat) (hin:In64 l):Fit l k↔wid l≤k:=by
 induction l with
 | nil=>simp[Fit,wid,orAll,bitLen]
 | cons x r ih =>
  have hx:=hin x (by simp)
  have ih':=ih (fun y hy=>hin y (by simp[hy]))
  unfold wid at ih' ⊢
  rw[orAll_cons,bitLen_or]
  have h1:Fit (x :: r) k↔x<(2:Int)^k∧Fit r k:=by simp[Fit]
  have h2:=bitLen_le_iff x.toNat k
  rw[h1,ih',← pow_int]
  omega
def jb (l:List Nat) (n:Nat):Nat :=
 if l.length<(n+7) / 8 then 3 else if (n+7) / 8<l.length then 4 else if n%8≠0∧l.getD ((n+7) / 8 - 1) 0 / 2^(n%8)≠0 then 4 else 0
theorem jb_zero {l:List Nat} {n:Nat} (h:jb l n=0):l.length=(n+7) / 8∧(n%8≠0→l.getD ((n+7) / 8 - 1) 0 / 2^(n%8)=0):=by
 unfold jb at h
 split at h
 ·omega
 ·split at h
  ·omega
  ·split at h
   ·omega
   ·rename_i h1 h2 h3
    refine⟨by omega,fun h4=>?_⟩
    rcases Nat.eq_zero_or_pos (l.getD ((n+7) / 8 - 1) 0 / 2^(n%8)) with h5|h5
    ·exact h5
    ·exact absurd ⟨h4,by omega⟩ h3
def nums (l:List Nat) (n k:Nat):List Int:=(List.range n).map fun i=>((getV l (i*k) k:Nat):Int)
theorem nums_length (l:List Nat) (n k:Nat):(nums l n k).length=n:=by simp[nums]
theorem nums_succ (l:List Nat) (n k:Nat):nums l (n+1) k=nums l n k++[((getV l (n*k) k:Nat):Int)]:=by simp[nums,List.range_succ]
theorem bitsAll_cons (x:Int) (l:List Int) (k:Nat):bitsAll (x :: l) k=A.bitsOf x.toNat k++bitsAll l k:=by simp[bitsAll]
theorem bitsAll_cut (l:List Int) (k i:Nat) (h:i<l.length):((bitsAll l k).drop (i*k)).take k=A.bitsOf (l.getD i 0).toNat k:=by
 induction l generalizing i with
 | nil=>simp at h
 | cons x r ih =>
  rw[bitsAll_cons]
  cases i with
  | zero =>
   rw[Nat.zero_mul,List.drop_zero,List.take_append_of_le_length (by simp[A.bitsOf_length]),List.take_of_length_le (by simp[A.bitsOf_length])]
   rfl
  | succ i =>
   have hlen:=A.bitsOf_length x.toNat k
   have e:(i+1)*k=(A.bitsOf x.toNat k).length+i*k:=by rw[hlen,Nat.add_mul];omega
   rw[e,List.drop_append,List.drop_of_length_le (by omega),List.nil_append,Nat.add_sub_cancel_left,ih i (by simpa using h)]
   rfl
theorem getV_pack (l:List Int) (k i:Nat) (h:i<l.length) (hin:In64 l) (hf:Fit l k):((getV (A.bytesOf (bitsAll l k)) (i*k) k:Nat):Int)=l.getD i 0:=by
 unfold getV
 have hle:i*k+k≤(bitsAll l k).length:=by
  rw[bitsAll_length]
  have:(i+1)*k≤l.length*k:=Nat.mul_le_mul_right k h
  rw[Nat.add_mul] at this
  omega
 rw[A.bitsB_bytesOf,A.padded,List.drop_append_of_le_length (by omega),List.take_append_of_le_length (by simp;omega),bitsAll_cut l k i h,A.valOf_bitsOf]
 have hm:l.getD i 0∈l:=by
  have:l.getD i 0=l[i]:=by simp[List.getD,h]
  rw[this];exact List.getElem_mem _
 have h1:=hf _ hm
 have h2:=hin _ hm
 generalize l.getD i 0=x at h1 h2
 rw[← pow_int] at h1
 rw[Nat.mod_eq_of_lt (by omega)]
 omega
theorem nums_pack (l:List Int) (k:Nat) (hin:In64 l) (hf:Fit l k):nums (A.bytesOf (bitsAll l k)) l.length k=l:=by
 apply List.ext_getElem
 ·simp[nums]
 ·intro i h1 h2
  have:=getV_pack l k i h2 hin hf
  simp only[nums,List.getElem_map,List.getElem_range]
  rw[this];simp[List.getD,h2]
theorem jb_bytes (bs:List Bool):jb (A.bytesOf bs) bs.length=0:=by
 unfold jb
 rw[A.bytesOf_length,if_neg (by omega),if_neg (by omega),if_neg]
 rintro⟨h1,h2⟩
 exact h2 (Nat.div_eq_of_lt (A.last_lt bs h1))
theorem bits_nums (l:List Nat) (n k:Nat) (h:n*k≤8*l.length):bitsAll (nums l n k) k=(A.bitsB l).take (n*k):=by
 induction n with
 | zero=>simp[nums,bitsAll]
 | succ n ih =>
  have hle:n*k+k≤8*l.length:=by rw[Nat.add_mul] at h;omega
  rw[nums_succ,bitsAll_snoc,ih (by omega),Int.toNat_natCast,Nat.add_mul,Nat.one_mul,List.take_add]
  congr 1
  unfold getV
  have hl:(((A.bitsB l).drop (n*k)).take k).length=k:=by simp[A.bitsB_length];omega
  have:=A.bitsOf_valOf (((A.bitsB l).drop (n*k)).take k)
  rw[hl] at this
  exact this
theorem bytes_cut (l:List Nat) (n:Nat) (h256:∀ x∈l,x<256) (hj:jb l n=0):A.bytesOf ((A.bitsB l).take n)=l:=by
 obtain⟨h1,h2⟩:=jb_zero hj
 have hlen:((A.bitsB l).take n).length=n:=by simp[A.bitsB_length];omega
 have hb:A.bitsB (A.bytesOf ((A.bitsB l).take n))=A.bitsB l:=by
  rw[A.bitsB_bytesOf,A.padded,hlen]
  conv=>rhs;rw[← List.take_append_drop n (A.bitsB l)]
  congr 1
  have hdl:((A.bitsB l).drop n).length=8*((n+7) / 8) - n:=by simp[A.bitsB_length];omega
  symm
  rw[← hdl]
  apply List.eq_replicate_iff.2
  refine⟨rfl,?_⟩
  intro b hb
  obtain⟨i,hi,rfl⟩:=List.getElem_of_mem hb
  rw[hdl] at hi
  have hni:n+i<8*l.length:=by omega
  have h3:=A.bitsB_getD l (n+i) hni
  have h8:n%8≠0:=by omega
  have hz:=h2 h8
  have e1:(n+i) / 8=(n+7) / 8 - 1:=by omega
  have e2:(n+i)%8=n%8+i:=by omega
  rw[e1,e2] at h3
  have h4:l.getD ((n+7) / 8 - 1) 0<2^(n%8):=by
   rcases Nat.lt_or_ge (l.getD ((n+7) / 8 - 1) 0) (2^(n%8)) with h|h
   ·exact h
   ·have:=Nat.div_pos h (Nat.two_pow_pos (n%8));omega
  have h5:l.getD ((n+7) / 8 - 1) 0 / 2^(n%8+i)=0:=Nat.div_eq_of_lt (Nat.lt_of_lt_of_le h4 (Nat.pow_le_pow_right (by omega) (by omega)))
  rw[h5] at h3
  simp only[List.getElem_drop]
  have h6:(A.bitsB l).getD (n+i) false=(A.bitsB l)[n+i]'(by rw[A.bitsB_length];omega):=by simp[List.getD,A.bitsB_length,hni]
  rw[← h6,h3];rfl
 have h7:=congrArg A.bytesOf hb
 rwa [A.bytesOf_bitsB _ (A.bytesOf_lt _),A.bytesOf_bitsB _ h256] at h7
theorem bytes_nums (l:List Nat) (n k:Nat) (h256:∀ x∈l,x<256) (hj:jb l (n*k)=0):A.bytesOf (bitsAll (nums l n k) k)=l:=by
 have h1:=(jb_zero hj).1
 rw[bits_nums l n k (by omega)]
 exact bytes_cut l (n*k) h256 hj
theorem In64_nums (l:List Nat) (n k:Nat) (hk:k≤64):In64 (nums l n k)∧Fit (nums l n k) k:=by
 constructor
 all_goals
  intro x hx
  simp only[nums,List.mem_map] at hx
  obtain⟨i,_,rfl⟩:=hx
  have h1:=getV_lt l (i*k) k
 ·have h2:2^k≤2^64:=Nat.pow_le_pow_right (by omega) hk
  omega
 ·rw[← pow_int];omega
def allFit (l:List Int) (k j:Nat):Bool:=(l.take j).all fun x=>decide (x<(2:Int)^k)
theorem allFit_all (l:List Int) (k:Nat):allFit l k l.length=true↔Fit l k:=by
 unfold allFit Fit;simp
def packOk (l:List Int) (k:Int):Bool:=decide (0≤k)&&decide (k≤64)&&allFit l k.toNat l.length
def packB (l:List Int) (k:Int):List Nat:=if packOk l k then A.bytesOf (bitsAll l k.toNat) else []
def packC (l:List Int) (k:Int):Int:=if packOk l k then 0 else 1
theorem packOk_yes {l:List Int} {k:Int} (h0:0≤k) (h1:k≤64) (hf:Fit l k.toNat):packOk l k=true:=by
 unfold packOk;rw[(allFit_all l k.toNat).2 hf];simp[h0,h1]
theorem packOk_no {l:List Int} {k:Int} (h:k<0∨64<k∨¬ Fit l k.toNat):packOk l k=false:=by
 unfold packOk
 rcases h with h|h|h
 ·rw[decide_eq_false (show ¬ 0≤k by omega)];rfl
 ·rw[decide_eq_false (show ¬ k≤64 by omega)];simp
 ·rw[show allFit l k.toNat l.length=false by rw[← Bool.not_eq_true];exact fun h'=>h ((allFit_all l k.toNat).1 h')];simp
theorem packB_le (l:List Int) (k:Int):(packB l k).length≤l.length*8+1:=by
 unfold packB
 split
 ·rename_i h
  have hk:k.toNat≤64:=by simp[packOk] at h;omega
  rw[A.bytesOf_length,bitsAll_length]
  have:l.length*k.toNat≤l.length*64:=Nat.mul_le_mul_left _ hk
  omega
 ·simp
def unpArg (n k:Int):Bool:=decide (0≤k)&&decide (k≤64)&&decide (0≤n)&&decide (n≤1048576)
def unpC (l:List Nat) (n k:Int):Int:=if unpArg n k then ((jb l (n.toNat*k.toNat):Nat):Int) else 1
def unpL (l:List Nat) (n k:Int):List Int:=if unpArg n k&&jb l (n.toNat*k.toNat)==0 then nums l n.toNat k.toNat else []
theorem unpArg_iff (n k:Int):unpArg n k=true↔0≤k∧k≤64∧0≤n∧n≤1048576:=by simp[unpArg,and_assoc]
theorem unpL_le (l:List Nat) (n k:Int):(unpL l n k).length≤1048576:=by
 unfold unpL
 split
 ·rename_i h
  rw[Bool.and_eq_true,unpArg_iff] at h
  rw[nums_length];omega
 ·simp
end Go.Proofs.YtnkpgmibhpmdhaaGreat

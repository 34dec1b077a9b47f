/- Contracts and plain facts, one behind the other: WB WC T4 PB PC -/
import Derived.Handy
import Derived.Test.YtnkpgmibhpmdhaaGreatBeAO
namespace Go.Proofs.YtnkpgmibhpmdhaaGreat
set_option linter.unusedVariables false
open Go.RowKit
def Z.pl (ws:List Z.V) (v:Z.V):Option Nat:=ws.findIdx? fun x=>decide (Z.cv x v=0)
def Z.cdN (ws:List Z.V) (v:Z.V):Nat:=(Z.pl ws v).getD 0
def Z.cdE (ws l:List Z.V):Int:=if (l.all fun v=>Z.has ws v)=true then 0 else 6
def Z.cdL (ws l:List Z.V):List Nat:=if Z.cdE ws l=0 then l.map (Z.cdN ws) else []
theorem pl_some {ws:List Z.V} {v:Z.V} {j:Nat} (h:Z.pl ws v=some j):∃ y,ws[j]?=some y∧Z.cv y v=0:=by
 unfold Z.pl at h
 obtain⟨h1,h2,_⟩:=List.findIdx?_eq_some_iff_getElem.1 h
 exact⟨ws[j],List.getElem?_eq_getElem h1,by simpa using h2⟩
theorem pl_none {ws:List Z.V} {v:Z.V}:Z.pl ws v=none↔Z.has ws v=false:=by
 unfold Z.pl Z.has
 rw[List.findIdx?_eq_none_iff,List.any_eq_false]
 simp
theorem pl_has {ws:List Z.V} {v:Z.V} (h:Z.has ws v=true):∃ j,Z.pl ws v=some j:=by
 cases hp:Z.pl ws v with
 | none=>rw[pl_none] at hp;rw[hp] at h;exact absurd h (by decide)
 | some j=>exact⟨j,rfl⟩
theorem cdN_has {ws:List Z.V} {v:Z.V} (h:Z.has ws v=true):∃ y,ws[Z.cdN ws v]?=some y∧Z.cv y v=0:=by
 obtain⟨j,hj⟩:=pl_has h
 unfold Z.cdN
 rw[hj]
 exact pl_some hj
theorem cdE_ok {ws l:List Z.V} (h:∀ v∈l,Z.has ws v=true):Z.cdE ws l=0:=by
 unfold Z.cdE
 rw[if_pos (List.all_eq_true.2 h)]
theorem cdE_bad {ws l:List Z.V} {v:Z.V} (hv:v∈l) (h:Z.has ws v=false):Z.cdE ws l=6:=by
 unfold Z.cdE
 rw[if_neg]
 intro h1
 rw[List.all_eq_true] at h1
 rw[h1 v hv] at h
 exact absurd h (by decide)
theorem cdL_ok {ws l:List Z.V} (h:Z.cdE ws l=0):Z.cdL ws l=l.map (Z.cdN ws):=by unfold Z.cdL;rw[if_pos h]
theorem cdL_bad {ws l:List Z.V} (h:Z.cdE ws l≠0):Z.cdL ws l=[]:=by unfold Z.cdL;rw[if_neg h]
theorem rise_cdN {ws:List Z.V} (h:Z.Rise ws) {j:Nat} {y v:Z.V} (hj:ws[j]?=some y) (hv:Z.cv y v=0):Z.cdN ws v=j:=by
 obtain⟨z,hz,hzv⟩:=cdN_has (ws:=ws) (v:=v) (has_iff.2 ⟨y,List.mem_of_getElem? hj,hv⟩)
 exact rise_place h hz hj (cv_eq_trans hzv (cv_eq_sym hv))
theorem words_has (l:List Z.V):∀ v∈l,Z.has (Z.wds l) v=true:=fun v hv=>has_iff.2 ((words_of l).all v hv)
theorem words_cdE (l:List Z.V):Z.cdE (Z.wds l) l=0:=cdE_ok (words_has l)
def Z.dwd (n:Nat):Nat:=bitLen (n - 1)
theorem dwd_le {n:Nat} (h:n≤4096):Z.dwd n≤12:=(bitLen_le_iff (n - 1) 12).2 (by omega)
theorem dwd_fit {n j:Nat} (h:j<n):j<2^Z.dwd n:=by
 have h1:=(bitLen_le_iff (n - 1) (Z.dwd n)).1 (Nat.le_refl _)
 omega
theorem cI_in {c:List Nat} {m:Nat} (hm:m≤4096) (h:∀ x∈c,x<m):In64 (ints c):=by
 intro x hx
 unfold ints at hx
 obtain⟨y,hy,rfl⟩:=List.mem_map.1 hx
 have:=h y hy
 omega
theorem cI_fit {c:List Nat} {m:Nat} (h:∀ x∈c,x<m):Fit (ints c) (Z.dwd m):=by
 intro x hx
 unfold ints at hx
 obtain⟨y,hy,rfl⟩:=List.mem_map.1 hx
 have:=dwd_fit (h y hy)
 rw[← pow_int]
 omega
def Z.db (l:List Z.V):List Nat:=E.leb (Z.wds l).length++(Z.pb (Z.wds l)++A.bytesOf (bitsAll (ints (Z.cdL (Z.wds l) l)) (Z.dwd (Z.wds l).length)))
def Z.dcb (l:List Z.V) (kind:Int):List Nat:=if Z.chk l kind=0 then Z.db l else []
theorem dcb_ok {l:List Z.V} {kind:Int} (h:Z.chk l kind=0):Z.dcb l kind=Z.db l:=by unfold Z.dcb;rw[if_pos h]
theorem dcb_bad {l:List Z.V} {kind:Int} (h:Z.chk l kind≠0):Z.dcb l kind=[]:=by unfold Z.dcb;rw[if_neg h]
def Z.risB:List Z.V→Bool
 | []=>true
 | [_]=>true
 | x :: y :: t=>decide (Z.cv x y<0)&&Z.risB (y :: t)
theorem risB_iff:∀ ws:List Z.V,Z.risB ws=true↔Z.Rise ws
 | []=>by simp[Z.risB,Z.Rise]
 | [x]=>by simp[Z.risB,Z.Rise]
 | x :: y :: t=>by
  rw[Z.risB,Bool.and_eq_true,decide_eq_true_eq,risB_iff (y :: t)]
  constructor
  ·rintro⟨h1,h2⟩
   refine List.pairwise_cons.2 ⟨fun z hz=>?_,h2⟩
   rcases List.mem_cons.1 hz with rfl|hz
   ·exact h1
   ·exact cv_lt_lt h1 ((List.pairwise_cons.1 h2).1 z hz)
  ·intro h
   obtain⟨h1,h2⟩:=List.pairwise_cons.1 h
   exact⟨h1 y (by simp),h2⟩
def Z.cdOk (m:Nat) (c:List Nat):Bool:=(c.all fun x=>decide (x<m))&&((List.range m).all fun j=>c.any fun x=>x==j)
theorem cdOk_iff {m:Nat} {c:List Nat}:Z.cdOk m c=true↔(∀ x∈c,x<m)∧∀ j,j<m→j∈c:=by
 unfold Z.cdOk
 rw[Bool.and_eq_true,List.all_eq_true,List.all_eq_true]
 simp
def Z.dW (kind:Int) (b:List Nat):List Z.V:=Z.pL kind (E.gN b) (b.drop (E.gK b))
def Z.dR (kind:Int) (b:List Nat):List Nat:=Z.pR kind (E.gN b) (b.drop (E.gK b))
def Z.dC (kind:Int) (n:Nat) (b:List Nat):List Nat:=(nums (Z.dR kind b) n (Z.dwd (E.gN b))).map Int.toNat
def Z.dN (kind:Int) (n:Nat) (b:List Nat):Nat :=
 if E.gE b≠0 then E.gE b else if n<E.gN b then 4 else if Z.pE kind (E.gN b) (b.drop (E.gK b))≠0 then Z.pE kind (E.gN b) (b.drop (E.gK b)) else
 if Z.risB (Z.dW kind b)=false then 4 else if jb (Z.dR kind b) (n*Z.dwd (E.gN b))≠0 then jb (Z.dR kind b) (n*Z.dwd (E.gN b)) else if Z.cdOk (E.gN b) (Z.dC kind n b)=false then 4 else 0
structure Z.DOk (kind:Int) (n:Nat) (b:List Nat):Prop where
 num:E.gE b=0
 most:E.gN b≤n
 vals:Z.pE kind (E.gN b) (b.drop (E.gK b))=0
 rise:Z.Rise (Z.dW kind b)
 bits:jb (Z.dR kind b) (n*Z.dwd (E.gN b))=0
 code:Z.cdOk (E.gN b) (Z.dC kind n b)=true
theorem dN_zero {kind:Int} {n:Nat} {b:List Nat} (h:Z.dN kind n b=0):Z.DOk kind n b:=by
 unfold Z.dN at h
 split at h
 ·omega
 ·rename_i h1
  split at h
  ·omega
  ·rename_i h2
   split at h
   ·omega
   ·rename_i h3
    split at h
    ·omega
    ·rename_i h4
     split at h
     ·omega
     ·rename_i h5
      split at h
      ·omega
      ·rename_i h6
       exact⟨by omega,by omega,by omega,(risB_iff _).1 (by simpa using h4),by omega,by simpa using h6⟩
theorem dN_of {kind:Int} {n:Nat} {b:List Nat} (h:Z.DOk kind n b):Z.dN kind n b=0:=by
 unfold Z.dN
 have h1:=h.num
 have h2:=h.most
 have h3:=h.vals
 have h4:=(risB_iff _).2 h.rise
 have h5:=h.bits
 rw[if_neg (by omega),if_neg (by omega),if_neg (by omega),h4,if_neg (by decide),if_neg (by omega),h.code,if_neg (by decide)]
def Z.dV (ws:List Z.V) (c:List Nat):List Z.V:=c.map fun x=>ws.getD x ⟨0,0,⟨#[]⟩⟩
theorem getD_of {ws:List Z.V} {j:Nat} {y:Z.V} (h:ws[j]?=some y):ws.getD j ⟨0,0,⟨#[]⟩⟩=y:=by rw[List.getD_eq_getElem?_getD,h];rfl
theorem get_lt {ws:List Z.V} {j:Nat} (h:j<ws.length):ws[j]?=some (ws.getD j ⟨0,0,⟨#[]⟩⟩):=by
 rw[List.getD_eq_getElem?_getD,List.getElem?_eq_getElem h];rfl
theorem code_words {ws:List Z.V} {c:List Nat} (h:Z.Rise ws) (h1:∀ x∈c,x<ws.length) (h2:∀ j,j<ws.length→j∈c):Z.wds (Z.dV ws c)=ws∧Z.cdL ws (Z.dV ws c)=c:=by
 have hm:∀ x∈Z.dV ws c,∃ j,j∈c∧ws[j]?=some x:=fun x hx=>by
  obtain⟨j,hj,rfl⟩:=List.mem_map.1 hx
  exact⟨j,hj,get_lt (h1 j hj)⟩
 have hw:Z.Words (Z.dV ws c) ws:=by
  refine⟨h,fun x hx=>?_,fun y hy=>?_⟩
  ·obtain⟨j,_,hj⟩:=hm x hx
   exact⟨x,List.mem_of_getElem? hj,Z.cv_refl x⟩
  ·obtain⟨j,hj⟩:=List.getElem?_of_mem hy
   have hjl:=(List.getElem?_eq_some_iff.1 hj).1
   have hyl:y∈Z.dV ws c:=List.mem_map.2 ⟨j,h2 j hjl,getD_of hj⟩
   cases hf:(Z.dV ws c).find? (fun x=>decide (Z.cv x y=0)) with
   | none =>
    rw[List.find?_eq_none] at hf
    exact absurd (by simp[Z.cv_refl]) (hf y hyl)
   | some z =>
    have hv:Z.cv z y=0:=by simpa using List.find?_some hf
    obtain⟨i,_,hi⟩:=hm z (List.mem_of_find?_eq_some hf)
    obtain rfl:=rise_place h hi hj hv
    rw[hi] at hj
    rw[Option.some.inj hj]
 refine⟨words_uniq (words_of _) hw,?_⟩
 have he:Z.cdE ws (Z.dV ws c)=0:=cdE_ok fun v hv=>by
  obtain⟨j,_,hj⟩:=hm v hv
  exact has_iff.2 ⟨v,List.mem_of_getElem? hj,Z.cv_refl v⟩
 rw[cdL_ok he]
 unfold Z.dV
 rw[List.map_map]
 conv=>rhs;rw[← List.map_id c]
 apply List.map_congr_left
 intro j hj
 exact rise_cdN h (get_lt (h1 j hj)) (Z.cv_refl _)
theorem codes_ok (l:List Z.V):Z.cdOk (Z.wds l).length (Z.cdL (Z.wds l) l)=true:=by
 rw[cdOk_iff,cdL_ok (words_cdE l)]
 refine⟨fun x hx=>?_,fun j hj=>?_⟩
 ·obtain⟨v,hv,rfl⟩:=List.mem_map.1 hx
  obtain⟨y,hy,_⟩:=cdN_has (words_has l v hv)
  exact (List.getElem?_eq_some_iff.1 hy).1
 ·have hg:=get_lt hj
  have hm:=words_mem (words_of l) (List.mem_of_getElem? hg)
  exact List.mem_map.2 ⟨_,hm,rise_cdN (wds_rise l) hg (Z.cv_refl _)⟩
theorem codes_back {l:List Z.V} (h:∀ x∈l,∀ y∈l,Z.cv x y=0→x=y):Z.dV (Z.wds l) (Z.cdL (Z.wds l) l)=l:=by
 rw[cdL_ok (words_cdE l)]
 unfold Z.dV
 rw[List.map_map]
 conv=>rhs;rw[← List.map_id l]
 apply List.map_congr_left
 intro v hv
 obtain⟨y,hy,hyv⟩:=cdN_has (words_has l v hv)
 show (Z.wds l).getD (Z.cdN (Z.wds l) v) _=v
 rw[getD_of hy]
 exact h y (words_mem (words_of l) (List.mem_of_getElem? hy)) v hv hyv
theorem nums_nat (r:List Nat) (n k:Nat):ints ((nums r n k).map Int.toNat)=nums r n k:=by
 unfold ints nums
 rw[List.map_map,List.map_map]
 apply List.map_congr_left
 intro i _
 simp
theorem dC_length (kind:Int) (n:Nat) (b:List Nat):(Z.dC kind n b).length=n:=by unfold Z.dC;rw[List.length_map,nums_length]
theorem dW_length (kind:Int) (b:List Nat):(Z.dW kind b).length=E.gN b:=pL_length _ _ _
theorem dV_length (ws:List Z.V) (c:List Nat):(Z.dV ws c).length=c.length:=by simp[Z.dV]
theorem d_two {kind:Int} (hk:kind=1∨kind=2∨kind=3) {n:Nat} (hn:n≤4096) {b:List Nat} (h256:∀ x∈b,x<256) (h:Z.DOk kind n b) :
  (Z.dV (Z.dW kind b) (Z.dC kind n b)).length=n∧Z.chk (Z.dV (Z.dW kind b) (Z.dC kind n b)) kind=0∧Z.db (Z.dV (Z.dW kind b) (Z.dC kind n b))=b:=by
 have hd:∀ x∈b.drop (E.gK b),x<256:=fun x hx=>h256 x (List.mem_of_mem_drop hx)
 obtain⟨p1,p2⟩:=p_two hk (E.gN b) (b.drop (E.gK b)) hd h.vals
 obtain⟨c1,c2⟩:=cdOk_iff.1 h.code
 obtain⟨w1,w2⟩:=code_words h.rise (c:=Z.dC kind n b) (by rw[dW_length];exact c1) (by rw[dW_length];exact c2)
 have hl:(Z.dV (Z.dW kind b) (Z.dC kind n b)).length=n:=by rw[dV_length,dC_length]
 have hm:∀ x∈Z.dV (Z.dW kind b) (Z.dC kind n b),x∈Z.dW kind b:=fun x hx=>by
  obtain⟨j,hj,rfl⟩:=List.mem_map.1 hx
  exact List.mem_of_getElem? (get_lt (by rw[dW_length];exact c1 j hj))
 refine⟨hl,chk_of hk (by rw[hl];exact hn) (fun x hx=>(p1 x (hm x hx)).1) (fun x hx=>(p1 x (hm x hx)).2),?_⟩
 unfold Z.db
 rw[w1,w2,dW_length]
 have e1:bitsAll (ints (Z.dC kind n b)) (Z.dwd (E.gN b))=bitsAll (nums (Z.dR kind b) n (Z.dwd (E.gN b))) (Z.dwd (E.gN b)):=by
  unfold Z.dC
  rw[nums_nat]
 have hr:∀ x∈Z.dR kind b,x<256:=pR_lt _ _ hd
 rw[e1,bytes_nums _ _ _ hr h.bits]
 have e2:Z.pb (Z.dW kind b)++Z.dR kind b=b.drop (E.gK b):=p2
 rw[e2,E.g_ones h.num h256,List.take_append_drop]
theorem kind_i64 {kind:Int} (h:kind=1∨kind=2∨kind=3):Z.I64 kind:=by unfold Z.I64;omega
theorem d_back {l:List Z.V} {kind:Int} (hI:∀ x∈l,Z.I64 x.i) (h:Z.chk l kind=0) :
  Z.DOk kind l.length (Z.db l)∧Z.dV (Z.dW kind (Z.db l)) (Z.dC kind l.length (Z.db l))=l:=by
 obtain⟨hk,hn,h1,h2⟩:=chk_zero h
 have hwl:=wds_len l
 have hfit:∀ x∈Z.wds l,Z.Fit kind x:=fun x hx=>by
  have hm:=words_mem (words_of l) hx
  exact⟨h1 x hm,h2 x hm,hI x hm⟩
 obtain⟨c1,c2⟩:=cdOk_iff.1 (codes_ok l)
 obtain⟨C,hC⟩:∃ C,Z.cdL (Z.wds l) l=C:=⟨_,rfl⟩
 obtain⟨m,hm⟩:∃ m,(Z.wds l).length=m:=⟨_,rfl⟩
 have hCl:C.length=l.length:=by rw[← hC,cdL_ok (words_cdE l),List.length_map]
 have hb:=codes_back (l:=l) fun x hx y hy e=>Z.cv_may (a:=x) (b:=y) ⟨by rw[h1 x hx];exact kind_i64 hk,hI x hx⟩ ⟨by rw[h1 y hy];exact kind_i64 hk,hI y hy⟩ (h2 x hx) (h2 y hy) e
 have hok:=codes_ok l
 rw[hC,hm] at c1 c2 hok
 rw[hC] at hb
 have hd:Z.db l=E.leb m++(Z.pb (Z.wds l)++A.bytesOf (bitsAll (ints C) (Z.dwd m))):=by unfold Z.db;rw[hC,hm]
 obtain⟨g1,g2,g3⟩:=E.g_put m (by omega) (Z.pb (Z.wds l)++A.bytesOf (bitsAll (ints C) (Z.dwd m)))
 rw[← hd] at g1 g2 g3
 have hdrop:(Z.db l).drop (E.gK (Z.db l))=Z.pb (Z.wds l)++A.bytesOf (bitsAll (ints C) (Z.dwd m)):=by rw[g2,hd,List.drop_left]
 obtain⟨q1,q2,q3⟩:=p_back kind (A.bytesOf (bitsAll (ints C) (Z.dwd m))) (Z.wds l) hfit
 rw[hm] at q1 q2 q3
 have hW:Z.dW kind (Z.db l)=Z.wds l:=by unfold Z.dW;rw[hdrop,g3];exact q2
 have hR:Z.dR kind (Z.db l)=A.bytesOf (bitsAll (ints C) (Z.dwd m)):=by unfold Z.dR;rw[hdrop,g3];exact q3
 have hin:In64 (ints C):=cI_in (m:=m) (by omega) c1
 have hft:Fit (ints C) (Z.dwd m):=cI_fit c1
 have hCC:Z.dC kind l.length (Z.db l)=C:=by
  unfold Z.dC
  rw[hR,g3,← hCl]
  have:=nums_pack (ints C) (Z.dwd m) hin hft
  rw[ints_length] at this
  rw[this]
  simp[ints,List.map_map,Function.comp_def]
 refine⟨⟨g1,by rw[g3];omega,by rw[hdrop,g3];exact q1,by rw[hW];exact wds_rise l,?_,by rw[g3,hCC];exact hok⟩,by rw[hW,hCC];exact hb⟩
 rw[hR,g3]
 have:=jb_bytes (bitsAll (ints C) (Z.dwd m))
 rw[bitsAll_length,ints_length,hCl] at this
 exact this
def Z.dE (b:List Nat) (n kind:Int):Int:=if Z.kindOk kind=false then 1 else if n<0∨4096<n then 2 else ((Z.dN kind n.toNat b:Nat):Int)
def Z.dWs (b:List Nat) (n kind:Int):List Z.V:=if Z.dE b n kind=0 then Z.dW kind b else []
def Z.dCs (b:List Nat) (n kind:Int):List Nat:=if Z.dE b n kind=0 then Z.dC kind n.toNat b else []
def Z.dVs (b:List Nat) (n kind:Int):List Z.V:=Z.dV (Z.dWs b n kind) (Z.dCs b n kind)
theorem dE_kind {b:List Nat} {n kind:Int} (h:Z.kindOk kind=false):Z.dE b n kind=1:=by unfold Z.dE;rw[if_pos h]
theorem dE_many {b:List Nat} {n kind:Int} (h:Z.kindOk kind=true) (h1:n<0∨4096<n):Z.dE b n kind=2:=by unfold Z.dE;rw[h,if_neg (by decide),if_pos h1]
theorem dE_is {b:List Nat} {N:Nat} {kind:Int} (h:Z.kindOk kind=true) (hN:N≤4096):Z.dE b (N:Int) kind=((Z.dN kind N b:Nat):Int):=by
 unfold Z.dE
 rw[h,if_neg (by decide),if_neg (by omega),Int.toNat_natCast]
theorem dE_zero {b:List Nat} {n kind:Int} (h:Z.dE b n kind=0):Z.kindOk kind=true∧0≤n∧n≤4096∧Z.DOk kind n.toNat b:=by
 unfold Z.dE at h
 split at h
 ·exact absurd h (by decide)
 ·rename_i h1
  split at h
  ·exact absurd h (by decide)
  ·rename_i h2
   exact⟨by simpa using h1,by omega,by omega,dN_zero (by omega)⟩
theorem dWs_bad {b:List Nat} {n kind:Int} (h:Z.dE b n kind≠0):Z.dWs b n kind=[]∧Z.dCs b n kind=[]∧Z.dVs b n kind=[]:=by
 have e1:Z.dWs b n kind=[]:=by unfold Z.dWs;rw[if_neg h]
 have e2:Z.dCs b n kind=[]:=by unfold Z.dCs;rw[if_neg h]
 exact⟨e1,e2,by unfold Z.dVs;rw[e1,e2];rfl⟩
def anyN (l:List Z.V):Bool:=l.any fun x=>x.k==0
theorem anyN_get {l:List Z.V} {j:Nat} {x:Z.V} (h:l[j]?=some x) (hk:(x.k==0)=true):anyN l=true:=by
 unfold anyN
 exact List.any_eq_true.2 ⟨x,List.mem_of_getElem? h,hk⟩
theorem anyN_take {l:List Z.V} {j:Nat} {x:Z.V} (h:l[j]?=some x) (hk:(x.k==0)=false) (ht:anyN (l.take j)=false):anyN (l.take (j+1))=false:=by
 rw[take_snocV h]
 simp only[anyN,List.any_append,Bool.or_eq_false_iff,List.any_cons,List.any_nil,Bool.or_false]
 exact⟨ht,hk⟩
set_option maxHeartbeats 1000000 in
theorem index_some (b off len cap:Nat) (l:List Z.V) (w:World) (hl:l.length=len) (hcap:len≤140737488355328) (hlt:b<w.heap.size)
  (hc:∀ j x,l[j]?=some x→w.cell? ⟨b,off+j*3,none⟩=some (.int .i64 x.k)∧w.cell? ⟨b,off+j*3+1,none⟩=some (.int .i64 x.i)∧w.cell? ⟨b,off+j*3+2,none⟩=some (.string x.s)) :
  Calls Tryz.prog 98 #[.slice (some ⟨b,off,none⟩) len cap,.func (.func 56) #[] #[]] w fun e w'=>∃ r:Int,e=.returned (.int .i64 r)∧decide (0≤r)=anyN l∧Below w.heap.size w w':=by
 have HC:=hide hc
 have HL:=hide hl
 clear hc hl
 go_enter Tryz.func98,Tryz.ntmps98
 go_wp2_with fail
 go_loopw [8] (fun i wr=>∃ j:Nat,j≤len∧i=.int .i64 j∧Hid (anyN (l.take j)=false)∧Hid (Below w.heap.size w wr)) (fun i _=>len - (intOf i).toNat)
 case atStart=>exact⟨0,Nat.zero_le _,rfl,hide rfl,hide (Below.refl _ _)⟩
 case round =>
  obtain⟨j,hj,rfl,han,hbw⟩:=hrel
  by_cases hjl:j<len
  ·obtain⟨⟨xk,xi,xs⟩,hx⟩:∃ x,l[j]?=some x:=⟨l[j]'(by rw[HL.out];exact hjl),List.getElem?_eq_getElem _⟩
   obtain⟨c1,c2,c3⟩:=HC.out j _ hx
   have d1:wr.cell? ⟨b,off+j*3,none⟩=some (.int .i64 xk):=by rw[hbw.out.cell (p:=⟨b,off+j*3,none⟩) hlt];exact c1
   have d2:wr.cell? ⟨b,off+j*3+1,none⟩=some (.int .i64 xi):=by rw[hbw.out.cell (p:=⟨b,off+j*3+1,none⟩) hlt];exact c2
   have d3:wr.cell? ⟨b,off+j*3+2,none⟩=some (.string xs):=by rw[hbw.out.cell (p:=⟨b,off+j*3+2,none⟩) hlt];exact c3
   have HX:=hide hx
   clear c1 c2 c3 hx
   go_wp2_with fail
   refine (zisnull_any _ _ _ _).mono ?_
   rintro e w2 ⟨rfl,hw2⟩
   have hbn:Below w.heap.size w w2:=by rw[hw2];exact bthen hbw.out (below_one wr _)
   have HBN:=hide hbn
   obtain⟨q,hq⟩:∃ q,(xk==0)=q:=⟨_,rfl⟩
   have HQ:=hide hq
   rw[hq]
   clear hbn hw2 hq d1 d2 d3
   cases q with
   | true =>
    go_wp2
    go_ret
    exact⟨_,rfl,by rw[anyN_get HX.out HQ.out];simp,HBN.out⟩
   | false =>
    go_wp2
    go_roundw
    case rel=>exact⟨j+1,hjl,by go_num,hide (anyN_take HX.out HQ.out han.out),HBN⟩
    case measure=>simp[intOf];omega
  ·obtain rfl:j=len:=by omega
   have HE:Hid (anyN l=false):=by
    have:=han.out
    rwa [← HL.out,List.take_length] at this
   go_wp2
   go_ret
   exact⟨_,rfl,by rw[HE.out];rfl,hbw.out⟩
theorem index_none (ao:Option Addr) (cap:Nat) (w:World) :
  Calls Tryz.prog 98 #[.slice ao 0 cap,.func (.func 56) #[] #[]] w fun e w'=>∃ r:Int,e=.returned (.int .i64 r)∧decide (0≤r)=anyN []∧Below w.heap.size w w':=by
 go_enter Tryz.func98,Tryz.ntmps98
 go_wp2_with fail
 go_rounds 1
 go_ret
 exact⟨_,rfl,rfl,Below.refl _ _⟩
theorem contains_any (ao:Option Addr) (len cap:Nat) (l:List Z.V) (w:World) (h:SlV w ao len cap l) (hcap:len≤140737488355328) :
  Calls Tryz.prog 63 #[.slice ao len cap,.func (.func 56) #[] #[]] w fun e w'=>e=.returned (.bool (anyN l))∧Below w.heap.size w w':=by
 have HC:Hid (Calls Tryz.prog 98 #[.slice ao len cap,.func (.func 56) #[] #[]] w fun e w'=>∃ r:Int,e=.returned (.int .i64 r)∧decide (0≤r)=anyN l∧Below w.heap.size w w'):=by
  show Calls _ _ _ _ _
  rcases h.2.2.2.2 with h5|⟨b,off,rfl,hlt,h5⟩
  ·subst h5
   obtain rfl:l=[]:=List.eq_nil_of_length_eq_zero h.1
   exact index_none ao cap w
  ·exact index_some b off len cap l w h.1 hcap hlt h5
 clear h
 go_enter Tryz.func63,Tryz.ntmps63
 go_wp2_with fail
 refine HC.out.mono ?_
 rintro e w1 ⟨r,rfl,hr,hb1⟩
 replace hb1:=hide hb1
 obtain⟨q,hq⟩:∃ q,anyN l=q:=⟨_,rfl⟩
 rw[hq] at hr
 have HQ:=hide hq
 clear hq
 cases q with
 | true =>
  have h0:0≤r:=by simpa using hr
  clear hr
  go_wp2
  go_ret
  exact⟨by simp[HQ.out],hb1.out⟩
 | false =>
  have h0:¬ 0≤r:=by simpa using hr
  clear hr
  go_wp2
  go_ret
  exact⟨by simp[HQ.out,h0],hb1.out⟩
def joinV:List Bool→List Z.V→List Z.V
 | [],_=>[]
 | true :: bs,l=>Z.z0 :: joinV bs l
 | false :: bs,l=>l.getD 0 Z.z0 :: joinV bs (l.drop 1)
theorem joinV_length:∀ (bs:List Bool) (l:List Z.V),(joinV bs l).length=bs.length
 | [],_=>rfl
 | true :: bs,l=>by simp[joinV,joinV_length bs l]
 | false :: bs,l=>by simp only[joinV,List.length_cons,joinV_length bs (l.drop 1)]
theorem joinV_yes:∀ (bs:List Bool) (l:List Z.V),joinV (bs++[true]) l=joinV bs l++[Z.z0]
 | [],_=>rfl
 | true :: bs,l=>by simp[joinV,joinV_yes bs l]
 | false :: bs,l=>by simp only[joinV,List.cons_append,joinV_yes bs (l.drop 1)]
theorem joinV_no:∀ (bs:List Bool) (l:List Z.V),joinV (bs++[false]) l=joinV bs l++[l.getD (bs.count false) Z.z0]
 | [],_=>rfl
 | true :: bs,l=>by simp[joinV,joinV_no bs l]
 | false :: bs,l=>by
  have:=joinV_no bs (l.drop 1)
  simp only[List.cons_append,joinV,this,List.count_cons_self]
  congr 2
  simp[List.getD]
def laid (l:List Z.V) (len:Nat) (pre:List { i:Nat // i<len }):List Z.V:=pre.zipIdx.foldl (fun m p=>m.set p.1.1 (l.getD p.2 Z.z0)) (List.replicate len Z.z0)
theorem laid_nil (l:List Z.V) (len:Nat):laid l len []=List.replicate len Z.z0:=rfl
theorem laid_snoc (l:List Z.V) (len:Nat) (pre:List { i:Nat // i<len }) (x:{ i:Nat // i<len }):laid l len (pre++[x])=(laid l len pre).set x.1 (l.getD pre.length Z.z0):=by
 simp[laid,List.zipIdx_append]
theorem foldl_set_length {β:Type} (f:β→Nat) (g:β→Z.V):∀ (ps:List β) (m:List Z.V),(ps.foldl (fun m p=>m.set (f p) (g p)) m).length=m.length
 | [],_=>rfl
 | p :: ps,m=>by rw[List.foldl_cons,foldl_set_length f g ps,List.length_set]
theorem laid_length (l:List Z.V) (len:Nat) (pre:List { i:Nat // i<len }):(laid l len pre).length=len:=by
 unfold laid
 exact (foldl_set_length (β:={ i:Nat // i<len } × Nat) (fun p=>p.1.1) (fun p=>l.getD p.2 Z.z0) _ _).trans (by simp)
theorem plc_false (bs:List Bool):∀ k,k≤bs.length→(plc bs bs.length k).length=(bs.take k).count false
 | 0,_=>rfl
 | k+1,h=>by
  have ih:=plc_false bs k (by omega)
  rw[take_snocB bs k h]
  cases hb:bs.getD k false with
  | true=>rw[plc_yes bs bs.length k h hb];simp[ih]
  | false=>rw[plc_no bs bs.length k h hb];simp[ih]
theorem laid_plc (bs:List Bool) (l:List Z.V):∀ k,k≤bs.length→laid l bs.length (plc bs bs.length k)=joinV (bs.take k) l++List.replicate (bs.length - k) Z.z0
 | 0,_=>by simp[plc,laid_nil,joinV]
 | k+1,h=>by
  have ih:=laid_plc bs l k (by omega)
  have hlen:(joinV (bs.take k) l).length=k:=by rw[joinV_length,List.length_take];omega
  have hr:List.replicate (bs.length - k) Z.z0=Z.z0 :: List.replicate (bs.length - (k+1)) Z.z0:=by
   rw[show bs.length - k=(bs.length - (k+1))+1 by omega,List.replicate_succ]
  rw[take_snocB bs k h]
  cases hb:bs.getD k false with
  | true=>rw[plc_yes bs bs.length k h hb,ih,joinV_yes,hr];simp
  | false =>
   rw[plc_no bs bs.length k h hb,laid_snoc,ih,joinV_no,hr,plc_false bs k (by omega),List.set_append_right _ _ (by rw[hlen];exact Nat.le_refl _),hlen,Nat.sub_self,List.set_cons_zero]
   simp
theorem laid_all (bs:List Bool) (l:List Z.V) {len:Nat} (h:bs.length=len):laid l len (plc bs len len)=joinV bs l:=by
 subst h
 rw[laid_plc bs l bs.length (Nat.le_refl _),List.take_length]
 simp
theorem count_tf (bs:List Bool):bs.count false+cntT bs=bs.length:=by
 induction bs with
 | nil=>rfl
 | cons b bs ih=>cases b<;>simp[cntT] at ih ⊢<;>omega
def joinOk (bs:List Bool) (l:List Z.V):Bool:=(l.length+cntT bs==bs.length)&&!anyN l
def joinL (bs:List Bool) (l:List Z.V):List Z.V:=if joinOk bs l then joinV bs l else []
def joinE (bs:List Bool) (l:List Z.V):Int:=if joinOk bs l then 0 else 4
theorem cellsV_set:∀ (m:List Z.V) (j:Nat) (y:Z.V),j<m.length→cellsV (m.set j y)=(((cellsV m).set (j*3) (.int .i64 y.k)).set (j*3+1) (.int .i64 y.i)).set (j*3+2) (.string y.s)
 | [],j,y,h=>by simp at h
 | x :: m,0,y,h=>by simp[cellsV_cons]
 | x :: m,j+1,y,h=>by
  have ih:=cellsV_set m j y (by simpa using h)
  rw[List.set_cons_succ,cellsV_cons,cellsV_cons,ih,show (j+1)*3=j*3+1+1+1 by omega,show j*3+1+1+1+1=(j*3+1)+1+1+1 by omega,show j*3+1+1+1+2=(j*3+2)+1+1+1 by omega]
  simp only[List.set_cons_succ]
theorem cellsV_replicate:∀ n:Nat,cellsV (List.replicate n Z.z0)=(madeCells #[.int .i64 0,.int .i64 0,.string ⟨#[]⟩] (n*3)).toList:=by
 intro n
 apply List.ext_getElem?
 intro j
 by_cases hj:j<n*3
 ·have h1:(List.replicate n Z.z0)[j / 3]?=some Z.z0:=by rw[List.getElem?_replicate,if_pos (by omega)]
  obtain⟨g0,g1,g2⟩:=cellsV_get _ _ _ h1
  have hm:(madeCells #[.int .i64 0,.int .i64 0,.string ⟨#[]⟩] (n*3)).toList[j]?=some (#[(.int .i64 0:Value),.int .i64 0,.string ⟨#[]⟩][j%3]!):=by
   simp[madeCells,hj]
  rw[hm]
  have hr:j=j / 3*3∨j=j / 3*3+1∨j=j / 3*3+2:=by omega
  rcases hr with hr|hr|hr
  ·have h3:j%3=0:=by omega
   rw[h3];rw[← hr] at g0;rw[g0];rfl
  ·have h3:j%3=1:=by omega
   rw[h3];rw[← hr] at g1;rw[g1];rfl
  ·have h3:j%3=2:=by omega
   rw[h3];rw[← hr] at g2;rw[g2];rfl
 ·rw[List.getElem?_eq_none (by rw[cellsV_length,List.length_replicate];omega),List.getElem?_eq_none (by simp[madeCells];omega)]
theorem E.lead_take:∀ (f m:Nat) (l:List Nat),f≤m→E.lead f (l.take m)=E.lead f l
 | 0,_,_,_=>rfl
 | f+1,m+1,[],_=>rfl
 | f+1,m+1,c :: r,h=>by
  simp only[List.take_succ_cons,E.lead]
  rw[E.lead_take f m r (by omega)]
 | f+1,0,_,h=>by omega
theorem E.g_take {m:Nat} (hm:10≤m) (l:List Nat):E.gE (l.take m)=E.gE l∧E.gK (l.take m)=E.gK l∧E.gN (l.take m)=E.gN l:=by
 have h1:=E.lead_take 9 m l (by omega)
 have h2:=(E.lead_is 9 l).1
 have h3:=(E.lead_is 9 l).2.1
 have hl:(l.take m).length=min m l.length:=List.length_take
 have hE:E.gE (l.take m)=E.gE l:=by
  unfold E.gE
  rw[h1,E.getD_take l 9 m (by omega),E.getD_take l (E.lead 9 l) m (by omega),hl]
  by_cases h4:E.lead 9 l=l.length
  ·rw[if_pos h4,if_pos (by omega)]
  ·rw[if_neg h4,if_neg (by omega)]
 refine⟨hE,?_,?_⟩
 ·unfold E.gK;rw[hE,h1]
 ·unfold E.gN;rw[hE,h1,List.take_take,Nat.min_eq_left (by omega)]
theorem E.gK_ten (l:List Nat):E.gK l≤10:=by
 have h2:=(E.lead_is 9 l).1
 unfold E.gK
 split<;>omega
def Z.most (kind:Int):Nat:=if kind=3 then 1034 else 10
theorem o8_take (l:List Nat) (m:Nat) (h:8≤m):Z.o8 (l.take m)=Z.o8 l:=by
 unfold Z.o8
 simp only[E.getD_take l 0 m (by omega),E.getD_take l 1 m (by omega),E.getD_take l 2 m (by omega),E.getD_take l 3 m (by omega),E.getD_take l 4 m (by omega),E.getD_take l 5 m (by omega),E.getD_take l 6 m (by omega),E.getD_take l 7 m (by omega)]
theorem drop_len {l:List Nat} {m K:Nat} (hK:K≤(l.take m).length):l.drop ((l.take m).length - ((l.take m).drop K).length)=l.drop K∧((l.take m).drop K).length≤(l.take m).length:=by
 rw[List.length_drop]
 exact⟨by congr 1;omega,by omega⟩
theorem gK_take (l:List Nat) (m:Nat) (hm:10≤m):E.gK l≤(l.take m).length:=by
 have h2:=(E.lead_is 9 l).2.1
 have h1:=(E.lead_is 9 l).1
 rw[List.length_take]
 unfold E.gK
 split
 ·rename_i h
  have h4:E.lead 9 l≠l.length:=fun h4=>by unfold E.gE at h;rw[if_pos h4] at h;omega
  omega
 ·omega
theorem oE_two (l:List Nat):Z.oE l 2=if l.length<8 then 3 else if D.ky (D.bt ((Z.o8 l:Nat):Int))=((Z.o8 l:Nat):Int) then 0 else 4:=by unfold Z.oE;rw[if_neg (by decide),if_neg (by decide),if_pos rfl]
theorem o_ahead {kind:Int} (hk:kind=1∨kind=2∨kind=3) (l:List Nat) :
  Z.oE (l.take (Z.most kind)) kind=Z.oE l kind∧Z.oV (l.take (Z.most kind)) kind=Z.oV l kind ∧
   (Z.oE l kind=0→l.drop ((l.take (Z.most kind)).length - (Z.oR (l.take (Z.most kind)) kind).length)=Z.oR l kind)∧(Z.oR (l.take (Z.most kind)) kind).length≤(l.take (Z.most kind)).length:=by
 have key:∀ m,Z.most kind=m→Z.oE (l.take m) kind=Z.oE l kind→(Z.oE l kind=0→Z.oW (l.take m) kind=Z.oW l kind∧∃ K,K≤(l.take m).length∧Z.oS (l.take m) kind=(l.take m).drop K∧Z.oS l kind=l.drop K) →
   Z.oE (l.take m) kind=Z.oE l kind∧Z.oV (l.take m) kind=Z.oV l kind∧(Z.oE l kind=0→l.drop ((l.take m).length - (Z.oR (l.take m) kind).length)=Z.oR l kind)∧(Z.oR (l.take m) kind).length≤(l.take m).length:=by
  intro m _ hE h
  refine⟨hE,?_,?_,?_⟩
  ·unfold Z.oV
   rw[hE]
   split
   ·rename_i h0;exact (h h0).1
   ·rfl
  ·intro h0
   obtain⟨_,K,hK,e1,e2⟩:=h h0
   unfold Z.oR
   rw[hE,if_pos h0,if_pos h0,e1,e2]
   exact (drop_len hK).1
  ·unfold Z.oR
   rw[hE]
   split
   ·rename_i h0
    obtain⟨_,K,hK,e1,e2⟩:=h h0
    rw[e1]
    exact (drop_len hK).2
   ·simp
 refine key _ rfl ?_ ?_
 ·rcases hk with rfl|rfl|rfl
  ·show Z.oE (l.take 10) 1=_
   unfold Z.oE
   rw[if_neg (by decide),if_pos rfl,if_neg (by decide),if_pos rfl,(E.g_take (by omega) l).1]
  ·show Z.oE (l.take 10) 2=_
   rw[oE_two,oE_two,o8_take l 10 (by omega),List.length_take]
   by_cases h8:l.length<8
   ·rw[if_pos (by omega),if_pos h8]
   ·rw[if_neg (by omega),if_neg h8]
  ·show Z.oE (l.take 1034) 3=_
   unfold Z.oE
   rw[if_neg (by decide),if_neg (by decide),if_neg (by decide),if_pos rfl,if_neg (by decide),if_neg (by decide),if_neg (by decide),if_pos rfl]
   obtain⟨g1,g2,g3⟩:=E.g_take (m:=1034) (by omega) l
   have g4:=E.gK_ten l
   unfold E.xE
   rw[g1,g2,g3,List.length_take]
   split
   ·rfl
   ·split
    ·rfl
    ·by_cases h8:l.length - E.gK l<E.gN l
     ·rw[if_pos (by omega),if_pos h8]
     ·rw[if_neg (by omega),if_neg h8]
 ·intro h0
  rcases hk with rfl|rfl|rfl
  ·show Z.oW (l.take 10) 1=_∧∃ K,K≤(l.take 10).length∧Z.oS (l.take 10) 1=(l.take 10).drop K∧_
   obtain⟨g1,g2,g3⟩:=E.g_take (m:=10) (by omega) l
   refine⟨?_,E.gK l,gK_take l 10 (by omega),?_,?_⟩
   ·unfold Z.oW;rw[if_pos rfl,if_pos rfl,g3]
   ·unfold Z.oS;rw[if_pos rfl,g2]
   ·unfold Z.oS;rw[if_pos rfl]
  ·show Z.oW (l.take 10) 2=_∧∃ K,K≤(l.take 10).length∧Z.oS (l.take 10) 2=(l.take 10).drop K∧_
   have h8:8≤l.length:=by
    unfold Z.oE at h0
    rw[if_neg (by decide),if_neg (by decide),if_pos rfl] at h0
    split at h0
    ·exact absurd h0 (by decide)
    ·omega
   refine⟨?_,8,by rw[List.length_take];omega,?_,?_⟩
   ·unfold Z.oW;rw[if_neg (by decide),if_pos rfl,if_neg (by decide),if_pos rfl,o8_take l 10 (by omega)]
   ·unfold Z.oS;rw[if_neg (by decide),if_pos rfl]
   ·unfold Z.oS;rw[if_neg (by decide),if_pos rfl]
  ·show Z.oW (l.take 1034) 3=_∧∃ K,K≤(l.take 1034).length∧Z.oS (l.take 1034) 3=(l.take 1034).drop K∧_
   obtain⟨g1,g2,g3⟩:=E.g_take (m:=1034) (by omega) l
   have g4:=E.gK_ten l
   have hx:E.gN l≤1024∧E.gN l≤l.length - E.gK l:=by
    unfold Z.oE at h0
    rw[if_neg (by decide),if_neg (by decide),if_neg (by decide),if_pos rfl] at h0
    unfold E.xE at h0
    split at h0
    ·exact absurd h0 (by assumption)
    ·split at h0
     ·exact absurd h0 (by decide)
     ·split at h0
      ·exact absurd h0 (by decide)
      ·omega
   have hgk:=gK_take l 1034 (by omega)
   refine⟨?_,E.gK l+E.gN l,?_,?_,?_⟩
   ·unfold Z.oW
    rw[if_neg (by decide),if_neg (by decide),if_pos rfl,if_neg (by decide),if_neg (by decide),if_pos rfl]
    unfold E.xS
    rw[g2,g3,List.drop_take,List.take_take,Nat.min_eq_left (by omega)]
   ·rw[List.length_take] at hgk ⊢;omega
   ·unfold Z.oS;rw[if_neg (by decide),if_neg (by decide),if_pos rfl];unfold E.xR;rw[g2,g3,List.drop_drop]
   ·unfold Z.oS;rw[if_neg (by decide),if_neg (by decide),if_pos rfl];unfold E.xR;rw[List.drop_drop]
theorem any_get {l:List Z.V} {p:Z.V→Bool} {j:Nat} {x:Z.V} (h:l[j]?=some x) (hk:p x=true):l.any p=true:=List.any_eq_true.2 ⟨x,List.mem_of_getElem? h,hk⟩
theorem any_take {l:List Z.V} {p:Z.V→Bool} {j:Nat} {x:Z.V} (h:l[j]?=some x) (hk:p x=false) (ht:(l.take j).any p=false):(l.take (j+1)).any p=false:=by
 rw[take_snocV h,List.any_append,ht,List.any_cons,hk];rfl
def Z.isOther (kind:Int) (x:Z.V):Bool:=x.k != kind
def Z.mayNot (x:Z.V):Bool:=!Z.may x
theorem isother_any (B:Nat) (kind:Int) (k i:Int) (s:ByteArray) (w:World) (hb:w.heap[B]?=some (.cells #[.int .i64 kind] 3 (0,0))) :
  Calls Tryz.prog 59 #[.agg #[.int .i64 k,.int .i64 i,.string s],.pointer (some ⟨B,0,none⟩)] w fun e w'=>e=.returned (.bool (Z.isOther kind ⟨k,i,s⟩))∧Below w.heap.size w w':=by
 have hA:=At.new w k i s
 have b0:=hide (below_one w (.cells #[.int .i64 k,.int .i64 i,.string s] 25))
 have hb1:=heap_alloc_keep (.cells #[.int .i64 k,.int .i64 i,.string s] 25) hb
 obtain⟨c1,_⟩:=cell_of_heap hb1
 obtain⟨a1,a2,a3⟩:=hA.cells
 clear hA hb hb1
 obtain⟨q,hq⟩:∃ q,(k != kind)=q:=⟨_,rfl⟩
 have HQ:Hid (Z.isOther kind ⟨k,i,s⟩=q):=hq
 go_enter Tryz.func59,Tryz.ntmps59
 go_wp2
 go_ret
 exact⟨by rw[HQ.out];rfl,b0.out⟩
theorem maynot_any (k i:Int) (s:ByteArray) (w:World) (hi:Z.I64 i) :
  Calls Tryz.prog 60 #[.agg #[.int .i64 k,.int .i64 i,.string s]] w fun e w'=>e=.returned (.bool (Z.mayNot ⟨k,i,s⟩))∧Below w.heap.size w w':=by
 have hA:=At.new w k i s
 have b0:=hide (below_one w (.cells #[.int .i64 k,.int .i64 i,.string s] 25))
 obtain⟨a1,a2,a3⟩:=hA.cells
 clear hA
 obtain⟨q,hq⟩:∃ q,Z.may ⟨k,i,s⟩=q:=⟨_,rfl⟩
 have HQ:=hide hq
 clear hq
 go_enter Tryz.func60,Tryz.ntmps60
 go_wp2_with fail
 refine (may_any _ _ _ _ hi).mono ?_
 rintro e w1 ⟨rfl,hb⟩
 rw[HQ.out]
 replace b0:=hide (bthen b0.out hb)
 clear hb
 go_wp2
 go_ret
 exact⟨by simp[Z.mayNot,HQ.out],b0.out⟩
set_option maxHeartbeats 1000000 in
theorem index_other (b off len cap:Nat) (l:List Z.V) (B:Nat) (kind:Int) (w:World) (hl:l.length=len) (hcap:len≤140737488355328) (hlt:b<w.heap.size) (hB:w.heap[B]?=some (.cells #[.int .i64 kind] 3 (0,0)))
  (hc:∀ j x,l[j]?=some x→w.cell? ⟨b,off+j*3,none⟩=some (.int .i64 x.k)∧w.cell? ⟨b,off+j*3+1,none⟩=some (.int .i64 x.i)∧w.cell? ⟨b,off+j*3+2,none⟩=some (.string x.s)) :
  Calls Tryz.prog 98 #[.slice (some ⟨b,off,none⟩) len cap,.func (.func 59) #[] #[.pointer (some ⟨B,0,none⟩)]] w fun e w'=>∃ r:Int,e=.returned (.int .i64 r)∧decide (0≤r)=l.any (Z.isOther kind)∧Below w.heap.size w w':=by
 have HC:=hide hc
 have HL:=hide hl
 have HP:=hide hB
 clear hc hl hB
 go_enter Tryz.func98,Tryz.ntmps98
 go_wp2_with fail
 go_loopw [8] (fun i wr=>∃ j:Nat,j≤len∧i=.int .i64 j∧Hid ((l.take j).any (Z.isOther kind)=false)∧Hid (Below w.heap.size w wr)) (fun i _=>len - (intOf i).toNat)
 case atStart=>exact⟨0,Nat.zero_le _,rfl,hide rfl,hide (Below.refl _ _)⟩
 case round =>
  obtain⟨j,hj,rfl,han,hbw⟩:=hrel
  by_cases hjl:j<len
  ·obtain⟨⟨xk,xi,xs⟩,hx⟩:∃ x,l[j]?=some x:=⟨l[j]'(by rw[HL.out];exact hjl),List.getElem?_eq_getElem _⟩
   obtain⟨c1,c2,c3⟩:=HC.out j _ hx
   have d1:wr.cell? ⟨b,off+j*3,none⟩=some (.int .i64 xk):=by rw[hbw.out.cell (p:=⟨b,off+j*3,none⟩) hlt];exact c1
   have d2:wr.cell? ⟨b,off+j*3+1,none⟩=some (.int .i64 xi):=by rw[hbw.out.cell (p:=⟨b,off+j*3+1,none⟩) hlt];exact c2
   have d3:wr.cell? ⟨b,off+j*3+2,none⟩=some (.string xs):=by rw[hbw.out.cell (p:=⟨b,off+j*3+2,none⟩) hlt];exact c3
   have HX:=hide hx
   clear c1 c2 c3 hx
   go_wp2_with fail
   refine (isother_any B kind _ _ _ _ (by rw[hbw.out.block B (lt_of_block HP.out)];exact HP.out)).mono ?_
   rintro e w2 ⟨rfl,hw2⟩
   have HBN:=hide (bthen hbw.out hw2)
   obtain⟨q,hq⟩:∃ q,(Z.isOther kind) ⟨xk,xi,xs⟩=q:=⟨_,rfl⟩
   have HQ:=hide hq
   rw[hq]
   clear hw2 hq d1 d2 d3
   cases q with
   | true =>
    go_wp2
    go_ret
    exact⟨_,rfl,by rw[any_get HX.out HQ.out];simp,HBN.out⟩
   | false =>
    go_wp2
    go_roundw
    case rel=>exact⟨j+1,hjl,by go_num,hide (any_take HX.out HQ.out han.out),HBN⟩
    case measure=>simp[intOf];omega
  ·obtain rfl:j=len:=by omega
   have HE:Hid (l.any (Z.isOther kind)=false):=by
    have:=han.out
    rwa [← HL.out,List.take_length] at this
   go_wp2
   go_ret
   exact⟨_,rfl,by rw[HE.out];rfl,hbw.out⟩
theorem index_other0 (ao:Option Addr) (cap:Nat) (B:Nat) (kind:Int) (w:World) :
  Calls Tryz.prog 98 #[.slice ao 0 cap,.func (.func 59) #[] #[.pointer (some ⟨B,0,none⟩)]] w fun e w'=>∃ r:Int,e=.returned (.int .i64 r)∧decide (0≤r)=([]:List Z.V).any (Z.isOther kind)∧Below w.heap.size w w':=by
 go_enter Tryz.func98,Tryz.ntmps98
 go_wp2_with fail
 go_rounds 1
 go_ret
 exact⟨_,rfl,rfl,Below.refl _ _⟩
theorem contains_other (ao:Option Addr) (len cap:Nat) (l:List Z.V) (B:Nat) (kind:Int) (w:World) (h:SlV w ao len cap l) (hcap:len≤140737488355328) (hB:w.heap[B]?=some (.cells #[.int .i64 kind] 3 (0,0))) :
  Calls Tryz.prog 63 #[.slice ao len cap,.func (.func 59) #[] #[.pointer (some ⟨B,0,none⟩)]] w fun e w'=>e=.returned (.bool (l.any (Z.isOther kind)))∧Below w.heap.size w w':=by
 have HC:Hid (Calls Tryz.prog 98 #[.slice ao len cap,.func (.func 59) #[] #[.pointer (some ⟨B,0,none⟩)]] w fun e w'=>∃ r:Int,e=.returned (.int .i64 r)∧decide (0≤r)=l.any (Z.isOther kind)∧Below w.heap.size w w'):=by
  show Calls _ _ _ _ _
  rcases h.2.2.2.2 with h5|⟨b,off,rfl,hlt,h5⟩
  ·subst h5
   obtain rfl:l=[]:=List.eq_nil_of_length_eq_zero h.1
   exact index_other0 ao cap B kind w
  ·exact index_other b off len cap l B kind w h.1 hcap hlt hB h5
 clear h hB
 go_enter Tryz.func63,Tryz.ntmps63
 go_wp2_with fail
 refine HC.out.mono ?_
 rintro e w1 ⟨r,rfl,hr,hb1⟩
 replace hb1:=hide hb1
 obtain⟨q,hq⟩:∃ q,l.any (Z.isOther kind)=q:=⟨_,rfl⟩
 rw[hq] at hr
 have HQ:=hide hq
 clear hq
 cases q with
 | true =>
  have h0:0≤r:=by simpa using hr
  clear hr
  go_wp2
  go_ret
  exact⟨by rw[HQ.out];simp,hb1.out⟩
 | false =>
  have h0:¬ 0≤r:=by simpa using hr
  clear hr
  go_wp2
  go_ret
  exact⟨by rw[HQ.out];simp[h0],hb1.out⟩
set_option maxHeartbeats 1000000 in
theorem index_mayNot (b off len cap:Nat) (l:List Z.V) (w:World) (hl:l.length=len) (hcap:len≤140737488355328) (hlt:b<w.heap.size) (hI:∀ x∈l,Z.I64 x.i)
  (hc:∀ j x,l[j]?=some x→w.cell? ⟨b,off+j*3,none⟩=some (.int .i64 x.k)∧w.cell? ⟨b,off+j*3+1,none⟩=some (.int .i64 x.i)∧w.cell? ⟨b,off+j*3+2,none⟩=some (.string x.s)) :
  Calls Tryz.prog 98 #[.slice (some ⟨b,off,none⟩) len cap,.func (.func 60) #[] #[]] w fun e w'=>∃ r:Int,e=.returned (.int .i64 r)∧decide (0≤r)=l.any Z.mayNot∧Below w.heap.size w w':=by
 have HC:=hide hc
 have HL:=hide hl
 have HP:=hide hI
 clear hc hl hI
 go_enter Tryz.func98,Tryz.ntmps98
 go_wp2_with fail
 go_loopw [8] (fun i wr=>∃ j:Nat,j≤len∧i=.int .i64 j∧Hid ((l.take j).any Z.mayNot=false)∧Hid (Below w.heap.size w wr)) (fun i _=>len - (intOf i).toNat)
 case atStart=>exact⟨0,Nat.zero_le _,rfl,hide rfl,hide (Below.refl _ _)⟩
 case round =>
  obtain⟨j,hj,rfl,han,hbw⟩:=hrel
  by_cases hjl:j<len
  ·obtain⟨⟨xk,xi,xs⟩,hx⟩:∃ x,l[j]?=some x:=⟨l[j]'(by rw[HL.out];exact hjl),List.getElem?_eq_getElem _⟩
   obtain⟨c1,c2,c3⟩:=HC.out j _ hx
   have d1:wr.cell? ⟨b,off+j*3,none⟩=some (.int .i64 xk):=by rw[hbw.out.cell (p:=⟨b,off+j*3,none⟩) hlt];exact c1
   have d2:wr.cell? ⟨b,off+j*3+1,none⟩=some (.int .i64 xi):=by rw[hbw.out.cell (p:=⟨b,off+j*3+1,none⟩) hlt];exact c2
   have d3:wr.cell? ⟨b,off+j*3+2,none⟩=some (.string xs):=by rw[hbw.out.cell (p:=⟨b,off+j*3+2,none⟩) hlt];exact c3
   have HX:=hide hx
   clear c1 c2 c3 hx
   go_wp2_with fail
   refine (maynot_any _ _ _ _ (HP.out _ (List.mem_of_getElem? HX.out))).mono ?_
   rintro e w2 ⟨rfl,hw2⟩
   have HBN:=hide (bthen hbw.out hw2)
   obtain⟨q,hq⟩:∃ q,Z.mayNot ⟨xk,xi,xs⟩=q:=⟨_,rfl⟩
   have HQ:=hide hq
   rw[hq]
   clear hw2 hq d1 d2 d3
   cases q with
   | true =>
    go_wp2
    go_ret
    exact⟨_,rfl,by rw[any_get HX.out HQ.out];simp,HBN.out⟩
   | false =>
    go_wp2
    go_roundw
    case rel=>exact⟨j+1,hjl,by go_num,hide (any_take HX.out HQ.out han.out),HBN⟩
    case measure=>simp[intOf];omega
  ·obtain rfl:j=len:=by omega
   have HE:Hid (l.any Z.mayNot=false):=by
    have:=han.out
    rwa [← HL.out,List.take_length] at this
   go_wp2
   go_ret
   exact⟨_,rfl,by rw[HE.out];rfl,hbw.out⟩
theorem index_mayNot0 (ao:Option Addr) (cap:Nat) (w:World) :
  Calls Tryz.prog 98 #[.slice ao 0 cap,.func (.func 60) #[] #[]] w fun e w'=>∃ r:Int,e=.returned (.int .i64 r)∧decide (0≤r)=([]:List Z.V).any Z.mayNot∧Below w.heap.size w w':=by
 go_enter Tryz.func98,Tryz.ntmps98
 go_wp2_with fail
 go_rounds 1
 go_ret
 exact⟨_,rfl,rfl,Below.refl _ _⟩
theorem contains_mayNot (ao:Option Addr) (len cap:Nat) (l:List Z.V) (w:World) (h:SlV w ao len cap l) (hcap:len≤140737488355328) (hI:∀ x∈l,Z.I64 x.i) :
  Calls Tryz.prog 63 #[.slice ao len cap,.func (.func 60) #[] #[]] w fun e w'=>e=.returned (.bool (l.any Z.mayNot))∧Below w.heap.size w w':=by
 have HC:Hid (Calls Tryz.prog 98 #[.slice ao len cap,.func (.func 60) #[] #[]] w fun e w'=>∃ r:Int,e=.returned (.int .i64 r)∧decide (0≤r)=l.any Z.mayNot∧Below w.heap.size w w'):=by
  show Calls _ _ _ _ _
  rcases h.2.2.2.2 with h5|⟨b,off,rfl,hlt,h5⟩
  ·subst h5
   obtain rfl:l=[]:=List.eq_nil_of_length_eq_zero h.1
   exact index_mayNot0 ao cap  w
  ·exact index_mayNot b off len cap l  w h.1 hcap hlt hI h5
 clear h hI
 go_enter Tryz.func63,Tryz.ntmps63
 go_wp2_with fail
 refine HC.out.mono ?_
 rintro e w1 ⟨r,rfl,hr,hb1⟩
 replace hb1:=hide hb1
 obtain⟨q,hq⟩:∃ q,l.any Z.mayNot=q:=⟨_,rfl⟩
 rw[hq] at hr
 have HQ:=hide hq
 clear hq
 cases q with
 | true =>
  have h0:0≤r:=by simpa using hr
  clear hr
  go_wp2
  go_ret
  exact⟨by rw[HQ.out];simp,hb1.out⟩
 | false =>
  have h0:¬ 0≤r:=by simpa using hr
  clear hr
  go_wp2
  go_ret
  exact⟨by rw[HQ.out];simp[h0],hb1.out⟩
end Go.Proofs.YtnkpgmibhpmdhaaGreat

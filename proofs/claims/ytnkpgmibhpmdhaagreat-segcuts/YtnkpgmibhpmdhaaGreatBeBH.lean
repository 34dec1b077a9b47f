/- Contracts and plain facts, one behind the other: K1 K2 K3 K4 GD GF -/
import Derived.WalkKit
import Derived.Test.YtnkpgmibhpmdhaaGreatBeBG
namespace Go.Proofs.YtnkpgmibhpmdhaaGreat.K
set_option linter.unusedVariables false
def pol:Nat:=3988292384
def st (w b:Nat):Nat:=if w%2=b then w / 2 else (w / 2) ^^^ pol
theorem xor_mod2 (a b:Nat):(a ^^^ b)%2=(a%2+b%2)%2:=by
 have h:=Nat.testBit_xor a b 0
 simp only[Nat.testBit_zero] at h
 rcases Nat.mod_two_eq_zero_or_one a with h1|h1<;>rcases Nat.mod_two_eq_zero_or_one b with h2|h2<;>rcases Nat.mod_two_eq_zero_or_one (a ^^^ b) with h3|h3<;>simp[h1,h2,h3] at h ⊢
theorem xor_div2 (a b:Nat):(a ^^^ b) / 2=a / 2 ^^^ b / 2:=by
 have:=Nat.shiftRight_xor_distrib (a:=a) (b:=b) (i:=1)
 simpa [Nat.shiftRight_eq_div_pow] using this
theorem xor_lt32 {a b:Nat} (ha:a<4294967296) (hb:b<4294967296):a ^^^ b<4294967296:=Nat.xor_lt_two_pow (n:=32) ha hb
theorem pol_lt:pol<4294967296:=by decide
theorem xor4 (a b c d:Nat):(a ^^^ b) ^^^ (c ^^^ d)=(a ^^^ c) ^^^ (b ^^^ d):=by
 rw[Nat.xor_assoc,Nat.xor_assoc,← Nat.xor_assoc b,Nat.xor_comm b c,Nat.xor_assoc c]
theorem st_lt (w b:Nat) (h:w<4294967296):st w b<4294967296:=by
 unfold st;split
 ·omega
 ·exact xor_lt32 (by omega) pol_lt
theorem st_xor (a b x y:Nat) (hx:x<2) (hy:y<2):st (a ^^^ b) ((x+y)%2)=st a x ^^^ st b y:=by
 have h1:=xor_mod2 a b
 have h2:=xor_div2 a b
 unfold st
 rw[h1,h2]
 by_cases ha:a%2=x<;>by_cases hb:b%2=y
 ·rw[if_pos ha,if_pos hb,if_pos (by omega)]
 ·rw[if_pos ha,if_neg hb,if_neg (by omega),Nat.xor_assoc]
 ·rw[if_neg ha,if_pos hb,if_neg (by omega),Nat.xor_assoc,Nat.xor_comm (b / 2),← Nat.xor_assoc]
 ·rw[if_neg ha,if_neg hb,if_pos (by omega),xor4,Nat.xor_self,Nat.xor_zero]
def sts (w:Nat) (l:List Nat):Nat:=l.foldl st w
theorem sts_append (w:Nat) (a b:List Nat):sts w (a++b)=sts (sts w a) b:=by simp[sts]
theorem sts_lt (l:List Nat) (w:Nat) (h:w<4294967296):sts w l<4294967296:=by
 induction l generalizing w with
 | nil=>exact h
 | cons b r ih=>exact ih _ (st_lt w b h)
def bin (l:List Nat):Prop:=∀ x∈l,x<2
def joinB:List Nat→List Nat→List Nat
 | x :: r,y :: q=>(x+y)%2 :: joinB r q
 | _,_=>[]
theorem sts_xor:∀ (l m:List Nat) (a b:Nat),bin l→bin m→l.length=m.length→sts (a ^^^ b) (joinB l m)=sts a l ^^^ sts b m
 | [],[],a,b,_,_,_=>rfl
 | x :: r,y :: q,a,b,hl,hm,he=>by
  have:=sts_xor r q (st a x) (st b y) (fun z hz=>hl z (by simp[hz])) (fun z hz=>hm z (by simp[hz])) (by simpa using he)
  rw[← st_xor a b x y (hl x (by simp)) (hm y (by simp))] at this
  exact this
 | [],_ :: _,_,_,_,_,he=>by simp at he
 | _ :: _,[],_,_,_,_,he=>by simp at he
theorem xor_top {a p:Nat} (ha:a<2147483648):2147483648≤a ^^^ pol:=by
 have h1:(a ^^^ pol).testBit 31=true:=by
  rw[Nat.testBit_xor]
  have:a.testBit 31=false:=Nat.testBit_lt_two_pow (by omega)
  rw[this];decide
 exact Nat.ge_two_pow_of_testBit h1
theorem st_top (w b k:Nat) (hw:w<4294967296) (h:2^(k+1)≤w) (hk:k≤31):2^k≤st w b:=by
 unfold st
 have e:2^(k+1)=2*2^k:=by rw[Nat.pow_succ];omega
 split
 ·omega
 ·have h1:=xor_top (p:=0) (a:=w / 2) (by omega)
  have h2:2^k≤2^31:=Nat.pow_le_pow_right (by omega) hk
  omega
theorem st_first (b:Nat) (hb:b<2) (h:b=1):2^31≤st 0 b:=by
 subst h;decide
theorem sts_top:∀ (l:List Nat) (w k:Nat),w<4294967296→2^k≤w→l.length≤k→k≤31→2^(k - l.length)≤sts w l
 | [],w,k,_,h,_,_=>by simpa [sts] using h
 | b :: r,w,k,hw,h,hl,hk=>by
  simp only[List.length_cons] at hl ⊢
  obtain⟨j,rfl⟩:∃ j,k=j+1:=⟨k - 1,by omega⟩
  have:=sts_top r (st w b) j (st_lt w b hw) (st_top w b j hw h (by omega)) (by omega) (by omega)
  rw[show j+1 - (r.length+1)=j - r.length by omega]
  exact this
theorem burst_top (l:List Nat) (h:l.length≤31):2^(31 - l.length)≤sts 0 (1 :: l):=by
 have h1:sts 0 (1 :: l)=sts (st 0 1) l:=rfl
 rw[h1]
 exact sts_top l (st 0 1) 31 (st_lt 0 1 (by omega)) (st_first 1 (by omega) rfl) h (by omega)
theorem st_zero:st 0 0=0:=by decide
theorem sts_zeros (n:Nat):sts 0 (List.replicate n 0)=0:=by
 induction n with
 | zero=>rfl
 | succ n ih =>
  have h:sts 0 (List.replicate (n+1) 0)=sts (st 0 0) (List.replicate n 0):=by rw[List.replicate_succ];rfl
  rw[h,st_zero,ih]
theorem st_nz (w:Nat) (h:w≠0) (hw:w<4294967296):st w 0≠0:=by
 unfold st
 split
 ·omega
 ·have:=xor_top (p:=0) (a:=w / 2) (by omega)
  omega
theorem sts_nz (n w:Nat) (h:w≠0) (hw:w<4294967296):sts w (List.replicate n 0)≠0:=by
 induction n generalizing w with
 | zero=>exact h
 | succ n ih=>rw[List.replicate_succ];exact ih _ (st_nz w h hw) (st_lt w 0 hw)
def bits8 (c:Nat):List Nat:=[c%2,c / 2%2,c / 4%2,c / 8%2,c / 16%2,c / 32%2,c / 64%2,c / 128%2]
theorem bits8_bin (c:Nat):bin (bits8 c):=by
 intro x hx;simp[bits8] at hx;omega
def bitsB (l:List Nat):List Nat:=l.flatMap bits8
theorem bitsB_bin (l:List Nat):bin (bitsB l):=by
 intro x hx
 obtain⟨c,_,h⟩:=List.mem_flatMap.1 hx
 exact bits8_bin c x h
theorem bitsB_length (l:List Nat):(bitsB l).length=8*l.length:=by
 induction l with
 | nil=>rfl
 | cons c r ih=>simp only[bitsB,List.flatMap_cons,List.length_append,List.length_cons] at ih ⊢;rw[ih];simp[bits8];omega
def reg (w:Nat) (l:List Nat):Nat:=sts w (bitsB l)
def crc (l:List Nat):Nat:=4294967295 - reg 4294967295 l
theorem reg_lt (w:Nat) (l:List Nat) (h:w<4294967296):reg w l<4294967296:=sts_lt _ _ h
theorem crc_lt (l:List Nat):crc l<4294967296:=by unfold crc;omega
theorem reg_cons (w c:Nat) (l:List Nat):reg w (c :: l)=reg (sts w (bits8 c)) l:=by
 unfold reg bitsB;rw[List.flatMap_cons,sts_append]
def row (i:Nat):Nat:=sts i (List.replicate 8 0)
theorem not_xor (w:Nat) (h:w<4294967296):4294967295 - w=w ^^^ 4294967295:=by
 have h1:(BitVec.ofNat 32 w ^^^ BitVec.allOnes 32).toNat=w ^^^ 4294967295:=by
  rw[BitVec.toNat_xor,BitVec.toNat_ofNat,BitVec.toNat_allOnes]
  congr 1
  omega
 rw[BitVec.xor_allOnes,BitVec.toNat_not,BitVec.toNat_ofNat] at h1
 rw[← h1]
 omega
def bitsK (c:Nat):Nat→List Nat
 | 0=>[]
 | k+1=>c%2 :: bitsK (c / 2) k
theorem bits8_K (c:Nat):bits8 c=bitsK c 8:=by
 simp[bits8,bitsK,Nat.div_div_eq_div_mul]
theorem sts_first (k:Nat):∀ (w c:Nat),c<2^k→sts w (bitsK c k)=sts (w ^^^ c) (List.replicate k 0):=by
 induction k with
 | zero =>
  intro w c h
  have:c=0:=by simpa using h
  subst this;simp[bitsK,sts]
 | succ k ih =>
  intro w c h
  have h1:sts w (bitsK c (k+1))=sts (st w (c%2)) (bitsK (c / 2) k):=rfl
  have h2:sts (w ^^^ c) (List.replicate (k+1) 0)=sts (st (w ^^^ c) 0) (List.replicate k 0):=by rw[List.replicate_succ];rfl
  have h3:st (w ^^^ c) 0=st w (c%2) ^^^ (c / 2):=by
   unfold st
   rw[xor_mod2,xor_div2]
   by_cases h:w%2=c%2
   ·rw[if_pos (by omega),if_pos h]
   ·rw[if_neg (by omega),if_neg h,Nat.xor_assoc,Nat.xor_comm (c / 2),← Nat.xor_assoc]
  rw[h1,h2,h3,ih _ _ (by rw[Nat.pow_succ] at h;omega)]
theorem joinB_zeros (k:Nat):joinB (List.replicate k 0) (List.replicate k 0)=List.replicate k 0:=by
 induction k with
 | zero=>rfl
 | succ k ih=>rw[List.replicate_succ];simp[joinB,ih]
theorem sts_zeros_xor (k a b:Nat):sts (a ^^^ b) (List.replicate k 0)=sts a (List.replicate k 0) ^^^ sts b (List.replicate k 0):=by
 have hz:bin (List.replicate k 0):=by intro x hx;have:=List.eq_of_mem_replicate hx;omega
 have:=sts_xor (List.replicate k 0) (List.replicate k 0) a b hz hz rfl
 rwa [joinB_zeros] at this
theorem sts_high (k h:Nat):sts (2^k*h) (List.replicate k 0)=h:=by
 induction k with
 | zero=>simp[sts]
 | succ k ih =>
  have h2:sts (2^(k+1)*h) (List.replicate (k+1) 0)=sts (st (2^(k+1)*h) 0) (List.replicate k 0):=by rw[List.replicate_succ];rfl
  have e:2^(k+1)*h=2*(2^k*h):=by rw[Nat.pow_succ,Nat.mul_comm (2^k) 2,Nat.mul_assoc]
  have h3:st (2^(k+1)*h) 0=2^k*h:=by unfold st;rw[e,if_pos (by omega)];omega
  rw[h2,h3,ih]
theorem xor_low_high (v k:Nat):v=(v%2^k) ^^^ (2^k*(v / 2^k)):=by
 apply Nat.eq_of_testBit_eq
 intro i
 rw[Nat.testBit_xor,Nat.testBit_mod_two_pow,Nat.testBit_two_pow_mul,Nat.testBit_div_two_pow]
 by_cases hi:i<k
 ·simp[hi,show ¬ k≤i by omega]
 ·simp[hi,show k≤i by omega]
theorem row_lt (i:Nat) (h:i<4294967296):row i<4294967296:=sts_lt _ _ h
theorem by8 (w c:Nat) (hc:c<256):sts w (bits8 c)=(w / 256) ^^^ row ((w%256) ^^^ c):=by
 rw[bits8_K,sts_first 8 w c (by omega)]
 have h1:=xor_low_high (w ^^^ c) 8
 have h2:(w ^^^ c)%2^8=(w%256) ^^^ c:=by
  rw[Nat.xor_mod_two_pow]
  congr 1
  omega
 have h3:(w ^^^ c) / 2^8=w / 256:=by
  have:=Nat.shiftRight_xor_distrib (a:=w) (b:=c) (i:=8)
  simp only[Nat.shiftRight_eq_div_pow] at this
  rw[this,show c / 2^8=0 by omega,Nat.xor_zero]
 rw[h2,h3] at h1
 rw[h1,sts_zeros_xor,sts_high,Nat.xor_comm]
 rfl
def joinL:List Nat→List Nat→List Nat
 | x :: r,y :: q=>(x ^^^ y) :: joinL r q
 | _,_=>[]
theorem bitsK_xor (k:Nat):∀ a b,bitsK (a ^^^ b) k=joinB (bitsK a k) (bitsK b k):=by
 induction k with
 | zero=>intro a b;rfl
 | succ k ih=>intro a b;simp only[bitsK,joinB,xor_mod2,xor_div2,ih]
theorem joinB_append:∀ (a b c d:List Nat),a.length=c.length→joinB (a++b) (c++d)=joinB a c++joinB b d
 | [],b,[],d,_=>rfl
 | x :: r,b,y :: q,d,h=>by simp only[List.cons_append,joinB];rw[joinB_append r b q d (by simpa using h)]
 | [],_,_ :: _,_,h=>by simp at h
 | _ :: _,_,[],_,h=>by simp at h
theorem bitsB_join:∀ (l m:List Nat),l.length=m.length→bitsB (joinL l m)=joinB (bitsB l) (bitsB m)
 | [],[],_=>rfl
 | x :: r,y :: q,h=>by
  have ih:=bitsB_join r q (by simpa using h)
  unfold bitsB at ih ⊢
  simp only[joinL,List.flatMap_cons]
  rw[joinB_append _ _ _ _ (by simp[bits8]),ih,bits8_K,bits8_K,bits8_K,bitsK_xor]
 | [],_ :: _,h=>by simp at h
 | _ :: _,[],h=>by simp at h
theorem reg_xor (a b:Nat) (l m:List Nat) (h:l.length=m.length):reg (a ^^^ b) (joinL l m)=reg a l ^^^ reg b m:=by
 unfold reg
 rw[bitsB_join l m h]
 exact sts_xor _ _ a b (bitsB_bin l) (bitsB_bin m) (by rw[bitsB_length,bitsB_length,h])
def val2:List Nat→Nat
 | []=>0
 | b :: r=>b+2*val2 r
theorem val2_lt (l:List Nat) (h:bin l):val2 l<2^l.length:=by
 induction l with
 | nil=>simp[val2]
 | cons b r ih =>
  have h1:=ih fun x hx=>h x (by simp[hx])
  have h2:=h b (by simp)
  simp only[val2,List.length_cons,Nat.pow_succ];omega
theorem val2_append (a b:List Nat):val2 (a++b)=val2 a+2^a.length*val2 b:=by
 induction a with
 | nil=>simp[val2]
 | cons x r ih =>
  simp only[List.cons_append,val2,ih,List.length_cons,Nat.pow_succ]
  rw[Nat.mul_add,← Nat.mul_assoc,Nat.mul_comm 2 (2^r.length)]
  omega
theorem val2_zeros (n:Nat):val2 (List.replicate n 0)=0:=by
 induction n with
 | zero=>rfl
 | succ n ih=>rw[List.replicate_succ];simp[val2,ih]
theorem val2_zero_iff (l:List Nat) (h:val2 l=0):∀ x∈l,x=0:=by
 induction l with
 | nil=>intro x hx;simp at hx
 | cons b r ih =>
  simp only[val2] at h
  intro x hx
  rcases List.mem_cons.1 hx with rfl|hx
  ·omega
  ·exact ih (by omega) x hx
theorem burst_tail (l:List Nat) (n:Nat) (h:l.length≤31):sts 0 (1 :: (l++List.replicate n 0))≠0:=by
 rw[← List.cons_append,sts_append]
 have ht:=burst_top l h
 have hp:0<2^(31 - l.length):=Nat.pow_pos (by omega)
 exact sts_nz _ _ (by omega) (sts_lt _ _ (by omega))
theorem map_zero (e:Nat→Nat) (lo n:Nat) (h:∀ k,lo≤k→k<lo+n→e k=0):(List.range n).map (fun k=>e (lo+k))=List.replicate n 0:=by
 apply List.ext_getElem
 ·simp
 ·intro i h1 h2
  simp at h1 ⊢
  exact h (lo+i) (by omega) (by omega)
theorem range_split (e:Nat→Nat) (a b:Nat):(List.range (a+b)).map e=(List.range a).map e++(List.range b).map fun k=>e (a+k):=by
 rw[List.range_add,List.map_append,List.map_map];rfl
theorem tail_zero (e:Nat→Nat) (b n q:Nat) (h:∀ k,b+n≤k→e k=0):(List.range (n+q)).map (fun k=>e (b+k))=(List.range n).map (fun k=>e (b+k))++List.replicate q 0:=by
 rw[range_split (fun k=>e (b+k)) n q]
 congr 1
 have:=map_zero e (b+n) q (fun k h1 _=>h k h1)
 simpa [Nat.add_assoc] using this
theorem burst (e:Nat→Nat) (hb:∀ k,e k<2) (N lo:Nat) (hw:∀ k,e k=1→lo≤k∧k<lo+32) (hz:∃ k,k<N+32∧e k=1) :
  sts 0 ((List.range N).map e)≠val2 ((List.range 32).map fun j=>e (N+j)):=by
 -- the first bit that is turned
 obtain⟨p,hp,hp1,hmin⟩:∃ p,p<N+32∧e p=1∧∀ k,k<p→e k=0:=by
  obtain⟨k,hk,hk1⟩:=hz
  induction k using Nat.strongRecOn with
  | _ k ih =>
   by_cases hex:∃ j,j<k∧e j=1
   ·obtain⟨j,hj,hj1⟩:=hex
    exact ih j hj (by omega) hj1
   ·exact⟨k,hk,hk1,fun j hj=>by
     have:=hb j
     have h2:e j≠1:=fun h=>hex ⟨j,hj,h⟩
     omega⟩
 have hlo:=hw p hp1
 have hafter:∀ k,p+32≤k→e k=0:=fun k hk=>by
  have h1:=hb k
  have h2:e k≠1:=fun h=>by have:=hw k h;omega
  omega
 have hz0:∀ n,(∀ k,k<n→e k=0)→(List.range n).map e=List.replicate n 0:=fun n h=>by
  have:=map_zero e 0 n (fun k _ hk=>h k (by omega))
  simpa using this
 by_cases hpN:p<N
 ·obtain⟨r,hr⟩:∃ r,N=p+(1+r):=⟨N - p - 1,by omega⟩
  have hsplit:(List.range N).map e=List.replicate p 0++1 :: (List.range r).map fun k=>e (p+1+k):=by
   rw[hr,range_split e p (1+r),hz0 p hmin]
   congr 1
   have:=range_split (fun k=>e (p+k)) 1 r
   rw[this]
   simp only[List.range_one,List.map_cons,List.map_nil,Nat.add_zero,hp1,List.cons_append,List.nil_append,Nat.add_assoc]
  have hs:sts 0 ((List.range N).map e)=sts 0 (1 :: (List.range r).map fun k=>e (p+1+k)):=by
   rw[hsplit,sts_append,sts_zeros]
  rw[hs]
  by_cases hr31:r≤31
  ·have ht:=burst_top ((List.range r).map fun k=>e (p+1+k)) (by simpa using hr31)
   simp only[List.length_map,List.length_range] at ht
   have hv:val2 ((List.range 32).map fun j=>e (N+j))<2^(31 - r):=by
    have h1:=tail_zero e N (31 - r) (r+1) (fun k hk=>hafter k (by omega))
    rw[show 31 - r+(r+1)=32 by omega] at h1
    rw[h1,val2_append,val2_zeros,Nat.mul_zero,Nat.add_zero]
    have:=val2_lt ((List.range (31 - r)).map fun j=>e (N+j)) (by
     intro x hx
     obtain⟨k,_,rfl⟩:=List.mem_map.1 hx
     exact hb _)
    simpa using this
   omega
  ·have hv:val2 ((List.range 32).map fun j=>e (N+j))=0:=by
    rw[map_zero e N 32 (fun k h1 _=>hafter k (by omega)),val2_zeros]
   have h1:=tail_zero e (p+1) 31 (r - 31) (fun k hk=>hafter k (by omega))
   rw[show 31+(r - 31)=r by omega] at h1
   rw[hv,h1]
   exact burst_tail _ _ (by rw[List.length_map,List.length_range];omega)
 ·rw[hz0 N (fun k hk=>hmin k (by omega)),sts_zeros]
  intro h0
  have:=val2_zero_iff _ h0.symm (e p) (List.mem_map.2 ⟨p - N,by simp;omega,by rw[show N+(p - N)=p by omega]⟩)
  omega
end Go.Proofs.YtnkpgmibhpmdhaaGreat.K
namespace Go.Proofs.YtnkpgmibhpmdhaaGreat.K
set_option linter.unusedVariables false
def le4 (n:Nat):List Nat:=[n%256,n / 256%256,n / 65536%256,n / 16777216%256]
def of4 (l:List Nat):Nat:=l.getD 0 0+256*l.getD 1 0+65536*l.getD 2 0+16777216*l.getD 3 0
theorem le4_length (n:Nat):(le4 n).length=4:=rfl
theorem le4_lt (n:Nat):∀ x∈le4 n,x<256:=by intro x hx;simp[le4] at hx;omega
theorem of4_le4 (n:Nat) (h:n<4294967296):of4 (le4 n)=n:=by simp[of4,le4];omega
def block (l:List Nat):List Nat:=E.leb l.length++(l++le4 (crc l))
theorem block_length (l:List Nat):(block l).length=(E.leb l.length).length+l.length+4:=by
 simp[block,le4_length];omega
theorem block_lt (l:List Nat) (h:∀ x∈l,x<256):∀ x∈block l,x<256:=by
 intro x hx
 rcases List.mem_append.1 hx with h1|h1
 ·exact E.leb_lt _ x h1
 ·rcases List.mem_append.1 h1 with h2|h2
  ·exact h x h2
  ·exact le4_lt _ x h2
def oX (b:List Nat):List Nat:=(b.drop (E.gK b)).take (E.gN b)
def oS (b:List Nat):List Nat:=((b.drop (E.gK b)).drop (E.gN b)).take 4
def oR (b:List Nat):List Nat:=((b.drop (E.gK b)).drop (E.gN b)).drop 4
def oE (most:Int) (b:List Nat):Nat:=if E.gE b≠0 then E.gE b else if most<0∨most<((E.gN b:Nat):Int) then 2 else if b.length - E.gK b<E.gN b+4 then 3 else if oS b=le4 (crc (oX b)) then 0 else 5
theorem oE_bad {most:Int} {b:List Nat} (h:E.gE b≠0):oE most b=E.gE b:=by unfold oE;rw[if_pos h]
theorem oE_range {most:Int} {b:List Nat} (h:E.gE b=0) (h1:most<0∨most<((E.gN b:Nat):Int)):oE most b=2:=by unfold oE;rw[if_neg (by simpa using h),if_pos h1]
theorem oE_short {most:Int} {b:List Nat} (h:E.gE b=0) (h1:0≤most) (h2:((E.gN b:Nat):Int)≤most) (h3:b.length - E.gK b<E.gN b+4):oE most b=3:=by unfold oE;rw[if_neg (by simpa using h),if_neg (by omega),if_pos h3]
theorem oE_sum {most:Int} {b:List Nat} (h:E.gE b=0) (h1:0≤most) (h2:((E.gN b:Nat):Int)≤most) (h3:E.gN b+4≤b.length - E.gK b):oE most b=if oS b=le4 (crc (oX b)) then 0 else 5:=by unfold oE;rw[if_neg (by simpa using h),if_neg (by omega),if_neg (by omega)]
theorem o_parts (n:Nat) (hn:n<18446744073709551616) (x s more:List Nat) (hx:x.length=n) (hs:s.length=4) :
  E.gE (E.leb n++(x++(s++more)))=0∧E.gN (E.leb n++(x++(s++more)))=n∧oX (E.leb n++(x++(s++more)))=x∧oS (E.leb n++(x++(s++more)))=s∧oR (E.leb n++(x++(s++more)))=more∧(E.leb n++(x++(s++more))).length - E.gK (E.leb n++(x++(s++more)))=n+4+more.length:=by
 obtain⟨g1,g2,g3⟩:=E.g_put n hn (x++(s++more))
 unfold oX oS oR
 rw[g1,g2,g3,List.drop_left]
 subst hx
 refine⟨rfl,rfl,List.take_left,?_,?_,?_⟩
 ·rw[List.drop_left,← hs,List.take_left]
 ·rw[List.drop_left,← hs,List.drop_left]
 ·simp[hs];omega
theorem o_block (l more:List Nat) (hl:l.length<9223372036854775808) (most:Int) (hm:(l.length:Int)≤most):oE most (block l++more)=0∧oX (block l++more)=l∧oR (block l++more)=more:=by
 obtain⟨p1,p2,p3,p4,p5,p6⟩:=o_parts l.length (by omega) l (le4 (crc l)) more rfl (le4_length _)
 have e:block l++more=E.leb l.length++(l++(le4 (crc l)++more)):=by simp[block]
 rw[e]
 refine⟨?_,p3,p5⟩
 rw[oE_sum p1 (by omega) (by rw[p2];exact hm) (by rw[p2,p6];omega),p3,p4,if_pos rfl]
end Go.Proofs.YtnkpgmibhpmdhaaGreat.K
namespace Go.Proofs.YtnkpgmibhpmdhaaGreat.K
set_option linter.unusedVariables false
theorem bits_of:∀ (d:List Nat) (e:Nat→Nat),(∀ j,j<d.length→∀ b,b<8→d.getD j 0 / 2^b%2=e (8*j+b))→bitsB d=(List.range (8*d.length)).map e
 | [],e,_=>rfl
 | c :: r,e,h=>by
  have ih:=bits_of r (fun k=>e (8+k)) (fun j hj b hb=>by
   have:=h (j+1) (by simp;omega) b hb
   simp only[List.getD_cons_succ] at this
   rw[this,show 8*(j+1)+b=8+(8*j+b) by omega])
  have e8:bits8 c=(List.range 8).map e:=by
   have h0:=fun b hb=>h 0 (by simp) b hb
   simp only[List.getD_cons_zero,Nat.mul_zero,Nat.zero_add] at h0
   have:=h0 0 (by omega);have:=h0 1 (by omega);have:=h0 2 (by omega);have:=h0 3 (by omega)
   have:=h0 4 (by omega);have:=h0 5 (by omega);have:=h0 6 (by omega);have:=h0 7 (by omega)
   simp only[List.range,List.range.loop,List.map_cons,List.map_nil,bits8]
   simp_all
  have:bitsB (c :: r)=bits8 c++bitsB r:=rfl
  rw[this,ih,e8,List.length_cons,show 8*(r.length+1)=8+8*r.length by omega,range_split e 8]
theorem xor_bit (x y m n:Nat) (hx:x<2) (hy:y<2):(x+2*m) ^^^ (y+2*n)=(x+y)%2+2*(m ^^^ n):=by
 have h1:=xor_mod2 (x+2*m) (y+2*n)
 have h2:=xor_div2 (x+2*m) (y+2*n)
 rw[show (x+2*m) / 2=m by omega,show (y+2*n) / 2=n by omega] at h2
 omega
theorem val2_join:∀ (u v:List Nat),bin u→bin v→u.length=v.length→val2 (joinB u v)=val2 u ^^^ val2 v
 | [],[],_,_,_=>rfl
 | x :: r,y :: q,hu,hv,h=>by
  have ih:=val2_join r q (fun z hz=>hu z (by simp[hz])) (fun z hz=>hv z (by simp[hz])) (by simpa using h)
  simp only[joinB,val2,ih]
  rw[xor_bit x y _ _ (hu x (by simp)) (hv y (by simp))]
 | [],_ :: _,_,_,h=>by simp at h
 | _ :: _,[],_,_,h=>by simp at h
theorem val2_bits8 (c:Nat) (h:c<256):val2 (bits8 c)=c:=by
 simp only[bits8,val2];omega
theorem val2_four (a b c d:Nat) (ha:a<256) (hb:b<256) (hc:c<256) (hd:d<256):val2 (bitsB [a,b,c,d])=of4 [a,b,c,d]:=by
 have:bitsB [a,b,c,d]=bits8 a++(bits8 b++(bits8 c++bits8 d)):=by simp[bitsB]
 have l8:∀ c,(bits8 c).length=8:=fun _=>rfl
 rw[this,val2_append,val2_append,val2_append,val2_bits8 a ha,val2_bits8 b hb,val2_bits8 c hc,val2_bits8 d hd,l8,l8,l8]
 simp[of4];omega
theorem of4_val (s:List Nat) (hs:s.length=4) (h:∀ x∈s,x<256):of4 s=val2 (bitsB s):=by
 match s,hs with
 | [a,b,c,d],_=>rw[val2_four a b c d (h a (by simp)) (h b (by simp)) (h c (by simp)) (h d (by simp))]
theorem crc_join (x l:List Nat) (h:x.length=l.length):crc x ^^^ crc l=reg 0 (joinL x l):=by
 have h1:=reg_xor 4294967295 4294967295 x l h
 rw[Nat.xor_self] at h1
 unfold crc
 rw[not_xor _ (reg_lt _ _ (by omega)),not_xor _ (reg_lt _ _ (by omega)),xor4,Nat.xor_self,Nat.xor_zero,h1]
theorem joinL_length:∀ (a b:List Nat),a.length=b.length→(joinL a b).length=a.length
 | [],[],_=>rfl
 | x :: r,y :: q,h=>by simp only[joinL,List.length_cons];rw[joinL_length r q (by simpa using h)]
 | [],_ :: _,h=>by simp at h
 | _ :: _,[],h=>by simp at h
theorem joinL_getD:∀ (a b:List Nat) (j:Nat),a.length=b.length→j<a.length→(joinL a b).getD j 0=a.getD j 0 ^^^ b.getD j 0
 | x :: r,y :: q,0,_,_=>by simp[joinL]
 | x :: r,y :: q,j+1,h,hj=>by
  simp only[joinL,List.getD_cons_succ]
  exact joinL_getD r q j (by simpa using h) (by simpa using hj)
 | [],[],j,_,hj=>by simp at hj
 | [],_ :: _,_,h,_=>by simp at h
 | _ :: _,[],_,h,_=>by simp at h
def Dt (at_ mask:Nat) (k:Nat) (p:Nat):Bool:=decide (at_≤p)&&decide (p<at_+k)&&mask.testBit (p - at_)
def Turn (D:Nat→Bool) (p q:List Nat):Prop:=p.length=q.length∧(∀ x∈p,x<256)∧∀ j,j<q.length→∀ b,b<8→(p.getD j 0).testBit b=Bool.xor ((q.getD j 0).testBit b) (D (8*j+b))
theorem testBit_nat (n b:Nat):n / 2^b%2=if n.testBit b then 1 else 0:=by
 have h:=Nat.testBit_eq_decide_div_mod_eq (x:=n) (i:=b)
 rw[h]
 by_cases hc:n / 2^b%2=1
 ·simp[hc]
 ·have:=Nat.mod_two_eq_zero_or_one (n / 2^b)
  simp[hc];omega
theorem Turn.bit {D:Nat→Bool} {p q:List Nat} (h:Turn D p q) (j b:Nat) (hj:j<q.length) (hb:b<8):(p.getD j 0 ^^^ q.getD j 0) / 2^b%2=if D (8*j+b) then 1 else 0:=by
 rw[testBit_nat,Nat.testBit_xor,h.2.2 j hj b hb]
 cases (q.getD j 0).testBit b<;>cases D (8*j+b)<;>rfl
theorem getD_take' (l:List Nat) (n j:Nat) (h:j<n):(l.take n).getD j 0=l.getD j 0:=by
 simp[List.getD,h]
theorem getD_drop' (l:List Nat) (n j:Nat):(l.drop n).getD j 0=l.getD (n+j) 0:=by
 simp[List.getD,List.getElem?_drop]
theorem turned_sum (l:List Nat) (h256:∀ x∈l,x<256) (D:Nat→Bool) (p:List Nat) (h:Turn D p (l++le4 (crc l))) (lo:Nat) (hw:∀ k,D k=true→lo≤k∧k<lo+32) (hz:∃ k,k<8*(l.length+4)∧D k=true) :
  p.drop l.length≠le4 (crc (p.take l.length)):=by
 intro he
 have hpl:p.length=l.length+4:=by rw[h.1,List.length_append,le4_length]
 have hx:(p.take l.length).length=l.length:=by rw[List.length_take];omega
 have hs:(p.drop l.length).length=4:=by rw[List.length_drop];omega
 have hsb:∀ x∈p.drop l.length,x<256:=fun x hx=>h.2.1 x (List.mem_of_mem_drop hx)
 have h1:=burst (fun k=>if D k then 1 else 0) (fun k=>by split<;>omega) (8*l.length) lo (fun k hk=>hw k (by
  cases hd:D k with
  | true=>rfl
  | false=>simp[hd] at hk)) (by
  obtain⟨k,hk,hd⟩:=hz
  exact⟨k,by omega,by simp[hd]⟩)
 apply h1
 -- the bytes' part
 have hb1:bitsB (joinL (p.take l.length) l)=(List.range (8*l.length)).map fun k=>if D k then 1 else 0:=by
  have:=bits_of (joinL (p.take l.length) l) (fun k=>if D k then 1 else 0) (fun j hj b hb=>by
   rw[joinL_length _ _ hx,hx] at hj
   rw[joinL_getD _ _ j hx (by omega),getD_take' _ _ _ hj]
   have:=h.bit j b (by rw[List.length_append];omega) hb
   rwa [show (l++le4 (crc l)).getD j 0=l.getD j 0 by simp[List.getD,List.getElem?_append_left hj]] at this)
  rwa [joinL_length _ _ hx,hx] at this
 -- the sum's part
 have hb2:bitsB (joinL (p.drop l.length) (le4 (crc l)))=(List.range 32).map fun k=>if D (8*l.length+k) then 1 else 0:=by
  have h4:(p.drop l.length).length=(le4 (crc l)).length:=by rw[hs,le4_length]
  have:=bits_of (joinL (p.drop l.length) (le4 (crc l))) (fun k=>if D (8*l.length+k) then 1 else 0) (fun j hj b hb=>by
   rw[joinL_length _ _ h4,hs] at hj
   rw[joinL_getD _ _ j h4 (by omega),getD_drop']
   have:=h.bit (l.length+j) b (by rw[List.length_append,le4_length];omega) hb
   rw[show (l++le4 (crc l)).getD (l.length+j) 0=(le4 (crc l)).getD j 0 by simp[List.getD,List.getElem?_append_right]] at this
   rw[this,show 8*(l.length+j)+b=8*l.length+(8*j+b) by omega])
  rwa [joinL_length _ _ h4,hs] at this
 rw[← hb2,← hb1,bitsB_join (p.drop l.length) (le4 (crc l)) (by rw[hs,le4_length]),val2_join _ _ (bitsB_bin _) (bitsB_bin _) (by rw[bitsB_length,bitsB_length,hs,le4_length]),← of4_val _ hs hsb,← of4_val _ (le4_length _) (le4_lt _),of4_le4 _ (crc_lt l),he,of4_le4 _ (crc_lt _),crc_join _ _ hx]
 rfl
theorem Dt_next (a m k p:Nat):Dt a m (k+1) p=(Dt a m k p||(decide (p=a+k)&&m.testBit k)):=by
 unfold Dt
 by_cases h1:p=a+k
 ·subst h1
  simp[show a+k - a=k by omega]
 ·by_cases h2:a≤p<;>by_cases h3:p<a+k
  ·simp[h1,h2,h3,show p<a+(k+1) by omega]
  ·simp[h1,h3,show ¬ p<a+(k+1) by omega]
  ·simp[h1,h2]
  ·simp[h1,h2]
theorem Dt_zero (a m p:Nat):Dt a m 0 p=false:=by
 unfold Dt
 by_cases h:a≤p
 ·simp[show ¬ p<a by omega]
 ·simp[h]
theorem Dt_late (a m k:Nat):Dt a m k (a+k)=false:=by
 unfold Dt;simp
theorem Turn.zero (a m:Nat) (q:List Nat) (h:∀ x∈q,x<256):Turn (Dt a m 0) q q :=
 ⟨rfl,h,fun j _ b _=>by rw[Dt_zero];simp⟩
theorem Turn.congr {D D':Nat→Bool} {p q:List Nat} (h:Turn D p q) (hd:∀ j,j<q.length→∀ b,b<8→D (8*j+b)=D' (8*j+b)):Turn D' p q :=
 ⟨h.1,h.2.1,fun j hj b hb=>by rw[← hd j hj b hb];exact h.2.2 j hj b hb⟩
theorem Turn.skip {a m k:Nat} {p q:List Nat} (h:Turn (Dt a m k) p q) (hs:m.testBit k=false∨q.length≤(a+k) / 8):Turn (Dt a m (k+1)) p q:=by
 refine h.congr fun j hj b hb=>?_
 rw[Dt_next]
 rcases hs with hs|hs
 ·simp[hs]
 ·simp[show ¬ 8*j+b=a+k by omega]
theorem testBit_two_pow (i j:Nat):(2^i).testBit j=decide (i=j):=by
 rw[Nat.testBit_two_pow]
theorem Turn.flip {a m k:Nat} {p q:List Nat} (h:Turn (Dt a m k) p q) (hm:m.testBit k=true) (hj:(a+k) / 8<q.length) :
  Turn (Dt a m (k+1)) (p.set ((a+k) / 8) (p.getD ((a+k) / 8) 0 ^^^ 2^((a+k)%8))) q:=by
 have hpl:=h.1
 have hlt:p.getD ((a+k) / 8) 0 ^^^ 2^((a+k)%8)<256:=by
  have h1:p.getD ((a+k) / 8) 0<2^8:=E.getD_lt h.2.1 _
  have h2:2^((a+k)%8)<2^8:=Nat.pow_lt_pow_right (by omega) (by omega)
  exact Nat.xor_lt_two_pow (n:=8) h1 h2
 refine⟨by simp[hpl],fun x hx=>?_,fun j hj' b hb=>?_⟩
 ·rcases List.mem_or_eq_of_mem_set hx with h1|rfl
  ·exact h.2.1 x h1
  ·exact hlt
 ·have hjp:j<p.length:=by omega
  rw[Dt_next]
  by_cases he:j=(a+k) / 8
  ·subst he
   have e1:(p.set ((a+k) / 8) (p.getD ((a+k) / 8) 0 ^^^ 2^((a+k)%8))).getD ((a+k) / 8) 0=p.getD ((a+k) / 8) 0 ^^^ 2^((a+k)%8):=by
    simp[List.getD,hjp]
   rw[e1,Nat.testBit_xor,testBit_two_pow,h.2.2 _ hj b hb]
   by_cases hbb:(a+k)%8=b
   ·have e2:8*((a+k) / 8)+b=a+k:=by omega
    rw[e2,Dt_late]
    simp[hbb,hm]
   ·have e2:¬ 8*((a+k) / 8)+b=a+k:=by omega
    simp[hbb,e2]
  ·have e1:(p.set ((a+k) / 8) (p.getD ((a+k) / 8) 0 ^^^ 2^((a+k)%8))).getD j 0=p.getD j 0:=by
    simp[List.getD,List.getElem?_set_ne (fun e=>he e.symm)]
   rw[e1,h.2.2 j hj' b hb]
   simp[show ¬ 8*j+b=a+k by omega]
theorem Turn.same {D:Nat→Bool} {p q:List Nat} (h:Turn D p q) (hq:∀ x∈q,x<256) (hd:∀ k,k<8*q.length→D k=false):p=q:=by
 apply List.ext_getElem h.1
 intro j h1 h2
 apply Nat.eq_of_testBit_eq
 intro b
 by_cases hb:b<8
 ·have:=h.2.2 j h2 b hb
  rw[hd _ (by omega)] at this
  simpa [List.getD,h1,h2] using this
 ·have e1:p[j]<2^b:=Nat.lt_of_lt_of_le (h.2.1 _ (List.getElem_mem h1)) (by
   have:2^8≤2^b:=Nat.pow_le_pow_right (by omega) (by omega)
   omega)
  have e2:q[j]<2^b:=Nat.lt_of_lt_of_le (hq _ (List.getElem_mem h2)) (by
   have:2^8≤2^b:=Nat.pow_le_pow_right (by omega) (by omega)
   omega)
  rw[Nat.testBit_lt_two_pow e1,Nat.testBit_lt_two_pow e2]
theorem Dt_in {a m k p:Nat} (h:Dt a m k p=true):a≤p∧p<a+k:=by
 simp[Dt] at h;omega
end Go.Proofs.YtnkpgmibhpmdhaaGreat.K
namespace Go.Proofs.YtnkpgmibhpmdhaaGreat.K
set_option linter.unusedVariables false
theorem o_cut (l:List Nat) (hl:l.length<9223372036854775808) (k:Nat) (hk:k<(block l).length):oE (l.length:Int) ((block l).take k)=3:=by
 by_cases h1:k<(E.leb l.length).length
 ·have e:(block l).take k=(E.leb l.length).take k:=by
   unfold block;rw[List.take_append_of_le_length (by omega)]
  rw[e]
  have:=E.g_cut l.length (by omega) k h1
  rw[oE_bad (by rw[this];decide),this]
 ·have e:(block l).take k=E.leb l.length++(l++le4 (crc l)).take (k - (E.leb l.length).length):=by
   unfold block
   rw[List.take_append,List.take_of_length_le (by omega)]
  obtain⟨g1,g2,g3⟩:=E.g_put l.length (by omega) ((l++le4 (crc l)).take (k - (E.leb l.length).length))
  rw[← e] at g1 g2 g3
  have hb:=block_length l
  refine oE_short g1 (by omega) (by rw[g3];exact Int.le_refl _) ?_
  rw[g2,g3,List.length_take]
  omega
end Go.Proofs.YtnkpgmibhpmdhaaGreat.K
namespace Go.Proofs.YtnkpgmibhpmdhaaGreat
set_option linter.unusedVariables false
set_option maxRecDepth 10000
open Go.RowKit
theorem oE_more {m m':Int} {b:List Nat} (h1:m≤m') (h:K.oE m b≠2):K.oE m' b=K.oE m b:=by
 by_cases hE:E.gE b=0
 ·by_cases hm:m<0∨m<((E.gN b:Nat):Int)
  ·exact absurd (K.oE_range hE hm) h
  ·have e:¬ E.gE b≠0:=by omega
   have hm':¬ (m'<0∨m'<((E.gN b:Nat):Int)):=by omega
   unfold K.oE
   rw[if_neg e,if_neg e,if_neg hm',if_neg hm]
 ·rw[K.oE_bad hE,K.oE_bad hE]
theorem cut_short {l:List Nat} {m:Int} (hl:l.length<9223372036854775808) (hm:(l.length:Int)≤m) {k:Nat} (hk:k<(K.block l).length):K.oE m ((K.block l).take k)=3:=by
 have h:=K.o_cut l hl k hk
 rw[oE_more hm (by rw[h];decide),h]
theorem turned_bad {l P:List Nat} {m:Int} (hl:l.length<9223372036854775808) (hm:(l.length:Int)≤m) (h256:∀ x∈l,x<256) {D:Nat→Bool} (hT:K.Turn D P (l++K.le4 (K.crc l))) {lo:Nat} (hw:∀ k,D k=true→lo≤k∧k<lo+32) (hz:∃ k,k<8*(l.length+4)∧D k=true) :
  K.oE m (E.leb l.length++P)=5:=by
 have hP:P.length=l.length+4:=by rw[hT.1,List.length_append,K.le4_length]
 have e:E.leb l.length++P=E.leb l.length++(P.take l.length++(P.drop l.length++[])):=by rw[List.append_nil,List.take_append_drop]
 obtain⟨p1,p2,p3,p4,p5,p6⟩:=K.o_parts l.length (by omega) (P.take l.length) (P.drop l.length) [] (by rw[List.length_take];omega) (by rw[List.length_drop];omega)
 rw[← e] at p1 p2 p3 p4 p6
 rw[K.oE_sum p1 (by omega) (by rw[p2];exact hm) (by rw[p2,p6];omega),p3,p4,if_neg (K.turned_sum l h256 D P hT lo hw hz)]
theorem turned_not {l P:List Nat} (h256:∀ x∈l,x<256) {D:Nat→Bool} (hT:K.Turn D P (l++K.le4 (K.crc l))) (hz:∀ k,k<8*(l.length+4)→D k=false):E.leb l.length++P=K.block l:=by
 have hP:P=l++K.le4 (K.crc l):=hT.same (fun y hy=>by
  rcases List.mem_append.1 hy with h|h
  ·exact h256 y h
  ·exact K.le4_lt _ y h) (fun k hk=>hz k (by rwa [List.length_append,K.le4_length] at hk))
 rw[hP]
 rfl
theorem end_le {l:List Z.V} {kind:Int} (hwf:∀ x∈l,Z.Wf x) (h:Z.chk l kind=0):(Z.bl (Z.lo l)).length≤1034∧(Z.bl (Z.hi l)).length≤1034:=by
 cases l with
 | nil =>
  have e:Z.bl Z.z0=[]:=bl_z0
  have e1:Z.lo []=Z.z0:=rfl
  have e2:Z.hi []=Z.z0:=rfl
  rw[e1,e2,e]
  simp
 | cons x t =>
  have m1:=(lo_all t x).1
  have m2:=(hi_all t x).1
  have g:=(chk_zero h).2.2.2
  rw[bl_may (g _ m1),bl_may (g _ m2)]
  exact⟨lb_le (hwf _ m1).2.1 (g _ m1),lb_le (hwf _ m2).2.1 (g _ m2)⟩
theorem end_lt {l:List Z.V} (hwf:∀ x∈l,Z.Wf x):(∀ y∈Z.bl (Z.lo l),y<256)∧∀ y∈Z.bl (Z.hi l),y<256:=by
 cases l with
 | nil =>
  have e:Z.bl Z.z0=[]:=bl_z0
  have e1:Z.lo []=Z.z0:=rfl
  have e2:Z.hi []=Z.z0:=rfl
  rw[e1,e2,e]
  simp
 | cons x t =>
  have m1:=(lo_all t x).1
  have m2:=(hi_all t x).1
  have hp:∀ v∈x :: t,∀ y∈Z.bl v,y<256:=fun v hv y hy=>by
   unfold Z.bl at hy
   split at hy
   ·have:=pb_lt (l:=[v]) (fun z hz=>by simp at hz;subst hz;exact hwf _ hv) y
    rw[show Z.pb [v]=Z.lb v by simp[Z.pb]] at this
    exact this hy
   ·simp at hy
  exact⟨hp _ m1,hp _ m2⟩
theorem seg_size {l:List Z.V} {kind:Int} (hwf:∀ x∈l,Z.Wf x) (h:Z.Made l kind 0) (hl:l.length≤1000):(Z.mS l kind 0).bd.length≤1034000∧(Z.sB (Z.mS l kind 0)).length≤1040000:=by
 have ho:∀ x∈oth l,Z.Wf x:=fun x hx=>hwf x (List.mem_filter.1 hx).1
 have hol:(oth l).length≤l.length:=List.length_filter_le _ _
 have hcc:Z.cc l kind 0=((Z.bst (oth l) kind 4:Nat):Int):=by unfold Z.cc;rw[if_pos rfl]
 have hb:(Z.bd (oth l) kind (Z.cc l kind 0)).length≤1034000:=by
  have h1:=(bst_ok h.chk).2.2.2 1 (by omega) (by omega) (by unfold Z.bE;rw[if_pos (by omega)];exact h.chk)
  rw[hcc]
  have h2:Z.bd (oth l) kind ((1:Nat):Int)=Z.pb (oth l):=by
   rw[show ((1:Nat):Int)=1 from rfl,bd_one,cb_ok h.chk]
  rw[h2] at h1
  have h3:=pb_le (oth l) (fun x hx=>(ho x hx).2.1) (chk_zero h.chk).2.2.2
  omega
 refine⟨hb,?_⟩
 obtain⟨e1,e2⟩:=end_le ho h.chk
 have hk:=(chk_zero h.chk).1
 have hc:=cc_few h
 have a1:=E.leb_ten kind.toNat (by omega)
 have a2:=E.leb_ten (Z.cc l kind 0).toNat (by omega)
 have a3:=E.leb_ten l.length (by omega)
 have hcn:=cntT_oth l
 have a4:=E.leb_ten (cntT (nus l)) (by omega)
 have a5:(A.bytesOf (if cntT (nus l)=0 then [] else nus l)).length≤125:=by
  rw[A.bytesOf_length]
  split
  ·simp
  ·rw[nus_length];omega
 unfold Z.sB Z.mS
 simp only[List.length_append]
 omega
theorem seg_lt {l:List Z.V} {kind codec:Int} (hwf:∀ x∈l,Z.Wf x):∀ y∈Z.sB (Z.mS l kind codec),y<256:=by
 have ho:∀ x∈oth l,Z.Wf x:=fun x hx=>hwf x (List.mem_filter.1 hx).1
 obtain⟨e1,e2⟩:=end_lt ho
 intro y hy
 unfold Z.sB Z.mS at hy
 simp only[List.mem_append] at hy
 rcases hy with hy|hy|hy|hy|hy|hy|hy|hy
 ·exact E.leb_lt _ y hy
 ·exact E.leb_lt _ y hy
 ·exact E.leb_lt _ y hy
 ·exact E.leb_lt _ y hy
 ·exact A.bytesOf_lt _ y hy
 ·exact e1 y hy
 ·exact e2 y hy
 ·exact body_lt ho y hy
def Z.ofE (b:List Nat):Int:=if K.oE 1048576 b≠0 then ((K.oE 1048576 b:Nat):Int) else Z.rE (K.oX b)
def Z.ofR (b:List Nat):List Nat:=if Z.ofE b=0 then K.oR b else []
theorem of_made_block {l:List Z.V} {kind codec:Int} (hwf:∀ x∈l,Z.Wf x) (h:Z.mE l kind codec=0) (hs:(Z.sB (Z.mS l kind codec)).length≤1048576) (more:List Nat) :
  Z.ofE (K.block (Z.sB (Z.mS l kind codec))++more)=0∧K.oX (K.block (Z.sB (Z.mS l kind codec))++more)=Z.sB (Z.mS l kind codec)∧Z.ofR (K.block (Z.sB (Z.mS l kind codec))++more)=more:=by
 obtain⟨o1,o2,o3⟩:=K.o_block (Z.sB (Z.mS l kind codec)) more (by omega) 1048576 (by omega)
 have e:Z.ofE (K.block (Z.sB (Z.mS l kind codec))++more)=0:=by
  unfold Z.ofE
  rw[o1,if_neg (by decide),o2]
  exact (read_back hwf h).1
 exact⟨e,o2,by unfold Z.ofR;rw[if_pos e];exact o3⟩
theorem of_bad {b:List Nat} (h:K.oE 1048576 b≠0):Z.ofE b=((K.oE 1048576 b:Nat):Int):=by unfold Z.ofE;rw[if_pos h]
theorem wf_z0:Z.Wf Z.z0:=⟨⟨by decide,by decide⟩,⟨by decide,by decide⟩,by decide⟩
theorem may_wf {x:Z.V} (hi:Z.I64 x.i) (h:Z.may x=true):Z.Wf x:=by
 obtain⟨k,i,s⟩:=x
 have hk:=may_kind h
 refine⟨by show Z.I64 k;unfold Z.I64;omega,hi,?_⟩
 show s.size≤maxLen
 have hs:s.size≤1024:=by
  rcases hk with rfl|rfl|rfl|rfl
  ·unfold Z.may at h;simp at h;rw[h.2];decide
  ·unfold Z.may at h;simp at h;rw[h];decide
  ·unfold Z.may at h;simp at h;rw[h.2];decide
  ·exact may_size h
 unfold maxLen
 omega
theorem gL_wf {b:List Nat} {n kind codec:Int} (h256:∀ x∈b,x<256) (h:Z.gE b n kind codec=0):∀ x∈Z.gL b n kind codec,Z.Wf x∧x.k=kind:=by
 obtain⟨N,_,_,h3,_⟩:=body_two h256 h
 have hc:=chk_zero (bE_chk h3)
 exact fun x hx=>⟨may_wf (gL_i64 h256 x hx) (hc.2.2.2 x hx),hc.2.2.1 x hx⟩
theorem joinV_mem:∀ (bs:List Bool) (l:List Z.V) (x:Z.V),x∈joinV bs l→x=Z.z0∨x∈l
 | [],l,x,h=>by simp[joinV] at h
 | true :: bs,l,x,h=>by
  rw[joinV] at h
  rcases List.mem_cons.1 h with rfl|h
  ·exact .inl rfl
  ·exact joinV_mem bs l x h
 | false :: bs,l,x,h=>by
  rw[joinV] at h
  rcases List.mem_cons.1 h with rfl|h
  ·cases l with
   | nil=>exact .inl rfl
   | cons y t=>exact .inr (by simp)
  ·rcases joinV_mem bs (l.drop 1) x h with e|e
   ·exact .inl e
   ·exact .inr (List.mem_of_mem_drop e)
theorem vL_wf {s:Z.S} (h256:∀ x∈s.bd,x<256):∀ x∈Z.vL s,Z.Wf x:=by
 intro x hx
 unfold Z.vL at hx
 split at hx
 ·simp at hx
 ·rename_i h1
  have hg:Z.gE s.bd ((s.rows:Int) - (cntT s.ns:Int)) s.k s.c=0:=by
   by_cases e:Z.gE s.bd ((s.rows:Int) - (cntT s.ns:Int)) s.k s.c=0
   ·exact e
   ·exact absurd e h1
  split at hx
  ·exact (gL_wf h256 hg x hx).1
  ·unfold joinL at hx
   split at hx
   ·rcases joinV_mem _ _ x hx with rfl|h
    ·exact wf_z0
    ·exact (gL_wf h256 hg x h).1
   ·simp at hx
theorem drop_lt {b:List Nat} (h:∀ x∈b,x<256) (n:Nat):∀ x∈b.drop n,x<256:=fun x hx=>h x (List.mem_of_mem_drop hx)
theorem fb_lt {b:List Nat} (h:∀ x∈b,x<256):∀ x∈Z.fb b,x<256:=drop_lt h _
theorem r4_lt {b:List Nat} (h:∀ x∈b,x<256):∀ x∈Z.r4 b,x<256:=fb_lt (fb_lt (fb_lt (fb_lt h)))
theorem nR_lt {b:List Nat} (h:∀ x∈b,x<256) (rows nulls:Nat):∀ x∈Z.nR rows nulls b,x<256:=by
 unfold Z.nR
 split
 ·exact h
 ·exact drop_lt h _
theorem r5_lt {b:List Nat} (h:∀ x∈b,x<256):∀ x∈Z.r5 b,x<256:=nR_lt (r4_lt h) _ _
theorem zR_lt {b:List Nat} (h:∀ x∈b,x<256) (k:Int) (rows nulls:Nat):∀ x∈Z.zR k rows nulls b,x<256:=by
 unfold Z.zR
 split
 ·exact oR_lt (oR_lt h k) k
 ·exact h
structure Z.Read (b:List Nat):Prop where
 n1:E.gE b=0
 n2:E.gE (Z.fb b)=0
 n3:E.gE (Z.fb (Z.fb b))=0
 n4:E.gE (Z.fb (Z.fb (Z.fb b)))=0
 kind:Z.kindOk (Z.rk b)=true
 rows:Z.rr' b≤4096
 nulls:Z.rn b≤Z.rr' b
 places:Z.nE (Z.rr' b) (Z.rn b) (Z.r4 b)=0
 ends:Z.zE (Z.rk b) (Z.rr' b) (Z.rn b) (Z.r5 b)=0
 vals:Z.vE (Z.rS b)=0
 codec:Z.rc b≠0
 make:Z.mE (Z.vL (Z.rS b)) (Z.rk b) (Z.rc b)=0
 same:Z.sB (Z.mS (Z.vL (Z.rS b)) (Z.rk b) (Z.rc b))=b
theorem rE_read {b:List Nat} (h:Z.rE b=0):Z.Read b:=by
 unfold Z.rE at h
 by_cases h1:E.gE b=0
 ·rw[if_neg (by omega)] at h
  by_cases h2:E.gE (Z.fb b)=0
  ·rw[if_neg (by omega)] at h
   by_cases h3:E.gE (Z.fb (Z.fb b))=0
   ·rw[if_neg (by omega)] at h
    by_cases h4:E.gE (Z.fb (Z.fb (Z.fb b)))=0
    ·rw[if_neg (by omega)] at h
     by_cases h5:Z.kindOk (Z.rk b)=false∨4096<Z.rr' b∨Z.rr' b<Z.rn b
     ·rw[if_pos h5] at h;cases h
     ·rw[if_neg h5] at h
      by_cases h6:Z.nE (Z.rr' b) (Z.rn b) (Z.r4 b)=0
      ·rw[if_neg (by omega)] at h
       by_cases h7:Z.zE (Z.rk b) (Z.rr' b) (Z.rn b) (Z.r5 b)=0
       ·rw[if_neg (by omega)] at h
        by_cases h8:Z.vE (Z.rS b)=0
        ·rw[if_neg (by omega)] at h
         by_cases h9:Z.rc b=0∨Z.mE (Z.vL (Z.rS b)) (Z.rk b) (Z.rc b)≠0∨Z.sB (Z.mS (Z.vL (Z.rS b)) (Z.rk b) (Z.rc b))≠b
         ·rw[if_pos h9] at h;cases h
         ·have hk:Z.kindOk (Z.rk b)=true:=by
           cases hq:Z.kindOk (Z.rk b) with
           | true=>rfl
           | false=>exact absurd (.inl hq) h5
          refine⟨h1,h2,h3,h4,hk,by omega,by omega,h6,h7,h8,fun e=>h9 (.inl e),?_,?_⟩
          ·by_cases e:Z.mE (Z.vL (Z.rS b)) (Z.rk b) (Z.rc b)=0
           ·exact e
           ·exact absurd (.inr (.inl e)) h9
          ·by_cases e:Z.sB (Z.mS (Z.vL (Z.rS b)) (Z.rk b) (Z.rc b))=b
           ·exact e
           ·exact absurd (.inr (.inr e)) h9
        ·rw[if_pos (by omega)] at h;cases h
       ·rw[if_pos (by omega)] at h;omega
      ·rw[if_pos (by omega)] at h;omega
    ·rw[if_pos (by omega)] at h;omega
   ·rw[if_pos (by omega)] at h;omega
  ·rw[if_pos (by omega)] at h;omega
 ·rw[if_pos (by omega)] at h;omega
theorem read_same {b:List Nat} (h256:∀ x∈b,x<256) (h:Z.Read b):Z.mS (Z.vL (Z.rS b)) (Z.rk b) (Z.rc b)=Z.rS b:=by
 have hb:∀ x∈(Z.rS b).bd,x<256:=by
  intro x hx
  simp only[Z.rS] at hx
  exact zR_lt (r5_lt h256) (Z.rk b) (Z.rr' b) (Z.rn b) x hx
 have hw:∀ x∈Z.vL (Z.rS b),Z.Wf x:=vL_wf hb
 have:=(parts_made hw (made_of h.make)).2.2.2.2.2.2
 rw[h.same] at this
 exact this.symm
end Go.Proofs.YtnkpgmibhpmdhaaGreat

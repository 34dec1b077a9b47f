/- Contracts and plain facts, one behind the other: E1 E2 D6 D9 Z1 Z2 -/
import Derived.WalkKit
import Derived.Laws.BitsAllLaws
import Derived.Lib.Bytealg
import Derived.Test.YtnkpgmibhpmdhaaGreatBeAB
namespace Go.Proofs.YtnkpgmibhpmdhaaGreat.E
set_option linter.unusedVariables false
def lebF:Nat→Nat→List Nat
 | 0,n=>[n]
 | f+1,n=>if n<128 then [n] else (n%128+128) :: lebF f (n / 128)
def leb (n:Nat):List Nat:=lebF n n
theorem lebF_any (n:Nat):∀ f g,n≤f→n≤g→lebF f n=lebF g n:=by
 induction n using Nat.strongRecOn with
 | _ n ih =>
  intro f g hf hg
  by_cases h:n<128
  ·cases f<;>cases g<;>simp[lebF,h]
  ·match f,g,hf,hg with
   | f+1,g+1,hf,hg =>
    simp only[lebF,if_neg h]
    rw[ih (n / 128) (by omega) f g (by omega) (by omega)]
   | 0,_,hf,_=>omega
   | _,0,_,hg=>omega
theorem leb_small (n:Nat) (h:n<128):leb n=[n]:=by
 unfold leb;cases n<;>simp[lebF];omega
theorem leb_big (n:Nat) (h:128≤n):leb n=(n%128+128) :: leb (n / 128):=by
 unfold leb
 rw[lebF_any n n ((n / 128)+1+n) (Nat.le_refl _) (by omega),show n / 128+1+n=(n / 128+n)+1 by omega]
 simp only[lebF,if_neg (show ¬ n<128 by omega)]
 rw[lebF_any (n / 128) (n / 128+n) (n / 128) (by omega) (Nat.le_refl _)]
def val:List Nat→Nat
 | []=>0
 | c :: r=>c%128+128*val r
theorem val_append (a b:List Nat):val (a++b)=val a+128^a.length*val b:=by
 induction a with
 | nil=>simp[val]
 | cons x r ih =>
  simp only[List.cons_append,val,ih,List.length_cons,Nat.pow_succ]
  rw[Nat.mul_add,← Nat.mul_assoc,Nat.mul_comm 128 (128^r.length)]
  omega
theorem val_lt (l:List Nat):val l<128^l.length:=by
 induction l with
 | nil=>simp[val]
 | cons c r ih=>simp only[val,List.length_cons,Nat.pow_succ];omega
theorem val_leb (n:Nat):val (leb n)=n:=by
 induction n using Nat.strongRecOn with
 | _ n ih =>
  by_cases h:n<128
  ·rw[leb_small n h];simp[val];omega
  ·rw[leb_big n (by omega)];simp only[val,ih (n / 128) (by omega)];omega
def Can (l:List Nat) (k:Nat):Prop:=l.length=k+1∧(∀ j,j<k→128≤l.getD j 0∧l.getD j 0<256)∧l.getD k 0<128∧(0<k→l.getD k 0≠0)
theorem can_cons {c:Nat} {r:List Nat} {k:Nat} (h:Can (c :: r) (k+1)):128≤c∧c<256∧Can r k∧(k=0→r.getD 0 0≠0):=by
 obtain⟨h1,h2,h3,h4⟩:=h
 have h0:=h2 0 (by omega)
 refine⟨h0.1,h0.2,⟨by simpa using h1,fun j hj=>?_,by simpa using h3,fun hk=>by simpa using h4 (by omega)⟩,fun hk=>?_⟩
 ·have:=h2 (j+1) (by omega)
  simpa using this
 ·subst hk;simpa using h4 (by omega)
theorem val_pos {l:List Nat} {k:Nat} (h:Can l k) (hl:k=0→l.getD 0 0≠0):0<val l:=by
 induction k generalizing l with
 | zero =>
  obtain⟨h1,h2,h3,h4⟩:=h
  match l,h1 with
  | [c],_ =>
   have:=hl rfl
   simp[val] at this h3 ⊢
   omega
 | succ k ih =>
  match l,h.1 with
  | c :: r,_ =>
   obtain⟨h1,h2,h3,h4⟩:=can_cons h
   have:=ih h3 h4
   simp only[val];omega
theorem leb_val {l:List Nat} {k:Nat} (h:Can l k):leb (val l)=l:=by
 induction k generalizing l with
 | zero =>
  obtain⟨h1,h2,h3,h4⟩:=h
  match l,h1 with
  | [c],_ =>
   simp[val] at h3 ⊢
   rw[leb_small _ (by omega)]
   simp;omega
 | succ k ih =>
  match l,h.1 with
  | c :: r,_ =>
   obtain⟨h1,h2,h3,h4⟩:=can_cons h
   have hp:=val_pos h3 h4
   simp only[val]
   rw[leb_big _ (by omega),show (c%128+128*val r) / 128=val r by omega,ih h3]
   congr 1;omega
theorem leb_can (n:Nat):∃ k,Can (leb n) k:=by
 induction n using Nat.strongRecOn with
 | _ n ih =>
  by_cases h:n<128
  ·exact⟨0,by rw[leb_small n h];exact⟨rfl,fun j hj=>by omega,by simpa using h,by omega⟩⟩
  ·obtain⟨k,hk⟩:=ih (n / 128) (by omega)
   refine⟨k+1,?_⟩
   have hv:=val_leb (n / 128)
   rw[leb_big n (by omega)]
   obtain⟨h1,h2,h3,h4⟩:=hk
   refine⟨by simp[h1],fun j hj=>?_,by simpa using h3,fun _=>?_⟩
   ·match j with
    | 0=>simp;omega
    | j+1=>simpa using h2 j (by omega)
   ·simp only[List.getD_cons_succ]
    rcases Nat.eq_zero_or_pos k with h0|h0
    ·subst h0
     intro he
     match hl:leb (n / 128),h1 with
     | [c],_=>rw[hl] at he hv;simp[val] at he hv;omega
    ·exact h4 h0
theorem leb_length_le (n k:Nat) (hk:0<k) (h:n<128^k):(leb n).length≤k:=by
 induction k generalizing n with
 | zero=>omega
 | succ k ih =>
  by_cases hn:n<128
  ·rw[leb_small n hn];simp
  ·rw[leb_big n (by omega)]
   rcases Nat.eq_zero_or_pos k with h0|h0
   ·subst h0;simp at h;omega
   ·have:=ih (n / 128) h0 (by rw[Nat.pow_succ] at h;omega)
    simp;omega
theorem leb_pos (n:Nat):0<(leb n).length:=by obtain⟨k,hk⟩:=leb_can n;rw[hk.1];omega
theorem leb_ten (n:Nat) (h:n<18446744073709551616):(leb n).length≤10:=leb_length_le n 10 (by omega) (by omega)
theorem leb_lt (n:Nat):∀ x∈leb n,x<256:=by
 induction n using Nat.strongRecOn with
 | _ n ih =>
  by_cases h:n<128
  ·rw[leb_small n h];intro x hx;simp at hx;omega
  ·rw[leb_big n (by omega)]
   intro x hx
   rcases List.mem_cons.1 hx with rfl|hx
   ·omega
   ·exact ih (n / 128) (by omega) x hx
def lead:Nat→List Nat→Nat
 | 0,_=>0
 | _+1,[]=>0
 | f+1,c :: r=>if 128≤c then lead f r+1 else 0
def IsLead (f:Nat) (l:List Nat) (k:Nat):Prop:=k≤f∧k≤l.length∧(∀ j,j<k→128≤l.getD j 0)∧(k=f∨k=l.length∨l.getD k 0<128)
theorem lead_is (f:Nat) (l:List Nat):IsLead f l (lead f l):=by
 induction f generalizing l with
 | zero=>exact⟨Nat.le_refl _,Nat.zero_le _,fun j hj=>absurd hj (by simp[lead]),.inl rfl⟩
 | succ f ih =>
  cases l with
  | nil=>exact⟨by simp[lead],by simp[lead],fun j hj=>absurd hj (by simp[lead]),.inr (.inl rfl)⟩
  | cons c r =>
   by_cases hc:128≤c
   ·obtain⟨h1,h2,h3,h4⟩:=ih r
    simp only[lead,if_pos hc]
    refine⟨by omega,by simpa using h2,fun j hj=>?_,?_⟩
    ·match j with
     | 0=>simpa using hc
     | j+1=>simpa using h3 j (by omega)
    ·rcases h4 with h|h|h
     ·exact .inl (by omega)
     ·exact .inr (.inl (by simpa using h))
     ·exact .inr (.inr (by simpa using h))
   ·simp only[lead,if_neg hc]
    exact⟨by omega,by omega,fun j hj=>by omega,.inr (.inr (by simp;omega))⟩
theorem lead_uniq {f:Nat} {l:List Nat} {a b:Nat} (ha:IsLead f l a) (hb:IsLead f l b):a=b:=by
 obtain⟨a1,a2,a3,a4⟩:=ha
 obtain⟨b1,b2,b3,b4⟩:=hb
 rcases Nat.lt_trichotomy a b with h|h|h
 ·have:=b3 a h
  omega
 ·exact h
 ·have:=a3 b h
  omega
theorem lead_eq {f:Nat} {l:List Nat} {k:Nat} (h:IsLead f l k):lead f l=k:=lead_uniq (lead_is f l) h
def gE (l:List Nat):Nat:=if lead 9 l=l.length then 3 else if (lead 9 l=9∧1<l.getD 9 0)∨(0<lead 9 l∧l.getD (lead 9 l) 0=0) then 4 else 0
def gK (l:List Nat):Nat:=if gE l=0 then lead 9 l+1 else 0
def gN (l:List Nat):Nat:=if gE l=0 then val (l.take (lead 9 l+1)) else 0
theorem gE_short {l:List Nat} {k:Nat} (h:IsLead 9 l k) (hk:k=l.length):gE l=3:=by
 unfold gE;rw[lead_eq h,if_pos hk]
theorem gE_form {l:List Nat} {k:Nat} (h:IsLead 9 l k) (hk:k<l.length) (hf:(k=9∧1<l.getD k 0)∨(0<k∧l.getD k 0=0)):gE l=4:=by
 unfold gE;rw[lead_eq h,if_neg (by omega),if_pos]
 rcases hf with ⟨rfl,hf⟩|hf
 ·exact .inl ⟨rfl,hf⟩
 ·exact .inr hf
theorem gE_ok {l:List Nat} {k:Nat} (h:IsLead 9 l k) (hk:k<l.length) (h9:k=9→l.getD k 0≤1) (h0:0<k→l.getD k 0≠0):gE l=0∧gK l=k+1∧gN l=val (l.take (k+1)):=by
 have e:gE l=0:=by
  unfold gE;rw[lead_eq h,if_neg (by omega),if_neg]
  rintro (⟨rfl,hf⟩|⟨a,b⟩)
  ·have:=h9 rfl;omega
  ·exact h0 a b
 refine⟨e,?_,?_⟩
 ·unfold gK;rw[if_pos e,lead_eq h]
 ·unfold gN;rw[if_pos e,lead_eq h]
theorem getD_lt {l:List Nat} (h:∀ x∈l,x<256) (j:Nat):l.getD j 0<256:=by
 by_cases hj:j<l.length
 ·have:l.getD j 0=l[j]:=by simp[List.getD,hj]
  rw[this];exact h _ (List.getElem_mem hj)
 ·simp[List.getD,hj]
theorem getD_take (l:List Nat) (j k:Nat) (h:j<k):(l.take k).getD j 0=l.getD j 0:=by
 simp[List.getD,h]
theorem gE_zero {l:List Nat} (h:gE l=0) (h256:∀ x∈l,x<256):gK l≤l.length∧0<gK l∧Can (l.take (gK l)) (gK l - 1)∧gN l=val (l.take (gK l))∧(gK l=10→l.getD 9 0≤1)∧gK l≤10:=by
 have hl:=lead_is 9 l
 obtain⟨h1,h2,h3,h4⟩:=hl
 have hk:gK l=lead 9 l+1:=by unfold gK;rw[if_pos h]
 have hn:gN l=val (l.take (lead 9 l+1)):=by unfold gN;rw[if_pos h]
 rw[hk,hn]
 unfold gE at h
 by_cases hs:lead 9 l=l.length
 ·rw[if_pos hs] at h;omega
 ·rw[if_neg hs] at h
  by_cases hf:(lead 9 l=9∧1<l.getD 9 0)∨(0<lead 9 l∧l.getD (lead 9 l) 0=0)
  ·rw[if_pos hf] at h;omega
  ·generalize lead 9 l=k at *
   have h9:k=9→l.getD 9 0≤1:=fun e=>by
    rcases Nat.lt_or_ge 1 (l.getD 9 0) with h|h
    ·exact absurd (.inl ⟨e,h⟩) hf
    ·exact h
   refine⟨by omega,by omega,⟨by simp;omega,fun j hj=>?_,?_,fun hk0=>?_⟩,rfl,fun e=>h9 (by omega),by omega⟩
   ·rw[getD_take _ _ _ (by omega)]
    exact⟨h3 j (by omega),getD_lt h256 j⟩
   ·rw[Nat.add_sub_cancel,getD_take _ _ _ (by omega)]
    rcases h4 with h4|h4|h4
    ·subst h4;have:=h9 rfl;omega
    ·omega
    ·exact h4
   ·rw[Nat.add_sub_cancel,getD_take _ _ _ (by omega)]
    intro he
    exact hf (.inr ⟨by omega,he⟩)
theorem val_ten (l:List Nat) (h:l.length≤10) (h9:l.getD 9 0≤1):val l<18446744073709551616:=by
 rcases Nat.lt_or_ge l.length 10 with hl|hl
 ·have h1:=val_lt l
  have h2:128^l.length≤128^9:=Nat.pow_le_pow_right (by omega) (by omega)
  omega
 ·have e:l=l.take 9++[l.getD 9 0]:=by
   have h1:l.take (9+1)=l.take 9++[l[9]]:=List.take_succ_eq_append_getElem (by omega)
   have h2:l.getD 9 0=l[9]:=by simp[List.getD,show 9<l.length by omega]
   rw[h2,← h1,List.take_of_length_le (by omega)]
  rw[e,val_append]
  have h1:=val_lt (l.take 9)
  have h2:(l.take 9).length=9:=by simp;omega
  rw[h2] at h1 ⊢
  simp only[val]
  omega
theorem g_ones {l:List Nat} (h:gE l=0) (h256:∀ x∈l,x<256):leb (gN l)=l.take (gK l):=by
 obtain⟨_,_,h3,h4,_⟩:=gE_zero h h256
 rw[h4];exact leb_val h3
theorem gN_lt {l:List Nat} (h256:∀ x∈l,x<256):gN l<18446744073709551616:=by
 by_cases h:gE l=0
 ·obtain⟨h1,h2,h3,h4,h5,h6⟩:=gE_zero h h256
  rw[h4]
  refine val_ten _ (by simp;omega) ?_
  rcases Nat.lt_or_ge (gK l) 10 with hk|hk
  ·simp[List.getD,List.getElem?_take,show ¬ 9<gK l by omega]
  ·rw[getD_take _ _ _ (by omega)];exact h5 (by omega)
 ·unfold gN;rw[if_neg h];omega
theorem lead_leb (n:Nat) (hn:n<18446744073709551616) (more:List Nat):∃ k,(leb n).length=k+1∧IsLead 9 (leb n++more) k∧(k=9→(leb n++more).getD k 0≤1)∧(0<k→(leb n++more).getD k 0≠0)∧∀ j,j<k→128≤(leb n).getD j 0:=by
 obtain⟨k,h1,h2,h3,h4⟩:=leb_can n
 have h10:=leb_ten n hn
 have hg:∀ j,j≤k→(leb n++more).getD j 0=(leb n).getD j 0:=fun j hj=>by simp[List.getD,List.getElem?_append_left (show j<(leb n).length by omega)]
 refine⟨k,h1,⟨by omega,by simp;omega,fun j hj=>by rw[hg j (by omega)];exact (h2 j hj).1,.inr (.inr (by rw[hg k (by omega)];exact h3))⟩,fun e=>?_,fun hk=>by rw[hg k (by omega)];exact h4 hk,fun j hj=>(h2 j hj).1⟩
 rw[hg k (by omega)]
 subst e
 have e:leb n=(leb n).take 9++[(leb n).getD 9 0]:=by
  have h1:(leb n).take (9+1)=(leb n).take 9++[(leb n)[9]]:=List.take_succ_eq_append_getElem (by omega)
  have h2:(leb n).getD 9 0=(leb n)[9]:=by simp[List.getD,show 9<(leb n).length by omega]
  rw[h2,← h1,List.take_of_length_le (by omega)]
 have hv:=val_leb n
 rw[e,val_append] at hv
 have h2:((leb n).take 9).length=9:=by simp;omega
 rw[h2] at hv
 simp only[val] at hv
 have:(leb n).getD 9 0%128=(leb n).getD 9 0:=by omega
 omega
theorem g_put (n:Nat) (hn:n<18446744073709551616) (more:List Nat):gE (leb n++more)=0∧gK (leb n++more)=(leb n).length∧gN (leb n++more)=n:=by
 obtain⟨k,h1,h2,h3,h4,_⟩:=lead_leb n hn more
 obtain⟨e1,e2,e3⟩:=gE_ok h2 (by simp;omega) h3 h4
 refine⟨e1,by omega,?_⟩
 rw[e3,← h1,List.take_left,val_leb]
theorem g_cut (n:Nat) (hn:n<18446744073709551616) (k:Nat) (hk:k<(leb n).length):gE ((leb n).take k)=3:=by
 obtain⟨j,h1,_,_,_,h5⟩:=lead_leb n hn []
 have h10:=leb_ten n hn
 refine gE_short (k:=k) ⟨by omega,by simp;omega,fun i hi=>?_,.inr (.inl (by simp;omega))⟩ (by simp;omega)
 rw[getD_take _ _ _ hi];exact h5 i (by omega)
theorem g_zero {l:List Nat} (h:gE l≠0):gK l=0∧gN l=0:=by
 unfold gK gN;rw[if_neg h,if_neg h];exact⟨rfl,rfl⟩
theorem gE_le (l:List Nat):gE l=0∨gE l=3∨gE l=4:=by
 unfold gE;split
 ·exact .inr (.inl rfl)
 ·split
  ·exact .inr (.inr rfl)
  ·exact .inl rfl
def zig (n:Int):Nat:=if n<0 then (-2*n - 1).toNat else (2*n).toNat
def zag (n:Nat):Int:=if n%2=1 then -((n / 2:Nat):Int) - 1 else ((n / 2:Nat):Int)
theorem zag_zig (n:Int):zag (zig n)=n:=by
 unfold zig zag;split<;>split<;>omega
theorem zig_zag (n:Nat):zig (zag n)=n:=by
 unfold zig zag;split<;>split<;>omega
theorem zig_lt (n:Int) (h0 : -9223372036854775808≤n) (h1:n<9223372036854775808):zig n<18446744073709551616:=by
 unfold zig;split<;>omega
theorem zag_lt (n:Nat) (h:n<18446744073709551616) : -9223372036854775808≤zag n∧zag n<9223372036854775808:=by
 unfold zag;split<;>omega
def In (l:List Int):Prop:=∀ x∈l,-9223372036854775808≤x∧x<9223372036854775808
def tE:Nat→List Nat→Nat
 | 0,_=>0
 | n+1,b=>if gE b=0 then tE n (b.drop (gK b)) else gE b
def tL:Nat→List Nat→List Int
 | 0,_=>[]
 | n+1,b=>zag (gN b) :: tL n (b.drop (gK b))
def tR:Nat→List Nat→List Nat
 | 0,b=>b
 | n+1,b=>tR n (b.drop (gK b))
theorem tR_succ (n:Nat) (b:List Nat):tR (n+1) b=(tR n b).drop (gK (tR n b)):=by
 induction n generalizing b with
 | zero=>rfl
 | succ n ih=>rw[tR,ih,← tR]
theorem tL_succ (n:Nat) (b:List Nat):tL (n+1) b=tL n b++[zag (gN (tR n b))]:=by
 induction n generalizing b with
 | zero=>rfl
 | succ n ih=>rw[tL,ih,tL,tR,List.cons_append]
theorem tL_length (n:Nat) (b:List Nat):(tL n b).length=n:=by
 induction n generalizing b with
 | zero=>rfl
 | succ n ih=>simp[tL,ih]
theorem tE_succ (n:Nat) (b:List Nat) (h:tE n b=0):tE (n+1) b=gE (tR n b):=by
 induction n generalizing b with
 | zero=>simp only[tE,tR];split<;>simp_all
 | succ n ih =>
  rw[tE] at h ⊢
  by_cases hg:gE b=0
  ·rw[if_pos hg] at h ⊢;rw[ih _ h,tR]
  ·rw[if_neg hg] at h;exact absurd h hg
theorem tE_more (n m:Nat) (b:List Nat) (h:tE n b≠0):tE (n+m) b=tE n b:=by
 induction n generalizing b with
 | zero=>exact absurd rfl h
 | succ n ih =>
  rw[show n+1+m=(n+m)+1 by omega]
  rw[tE] at h ⊢
  rw[tE]
  by_cases hg:gE b=0
  ·rw[if_pos hg] at h ⊢;rw[if_pos hg,ih _ h]
  ·rw[if_neg hg,if_neg hg]
theorem tE_stop {j n:Nat} {b:List Nat} (h:tE j b=0) (hj:j<n) (hg:gE (tR j b)≠0):tE n b=gE (tR j b):=by
 obtain⟨m,rfl⟩:=Nat.le.dest (show j+1≤n from hj)
 have h1:=tE_succ j b h
 rw[tE_more (j+1) m b (by rw[h1];exact hg),h1]
theorem mem_drop {l:List Nat} {k:Nat} (h:∀ x∈l,x<256):∀ x∈l.drop k,x<256:=fun x hx=>h x (List.mem_of_mem_drop hx)
theorem tR_length (n:Nat) (b:List Nat) (h256:∀ x∈b,x<256) (h:tE n b=0):(tR n b).length+n≤b.length:=by
 induction n generalizing b with
 | zero=>simp[tR]
 | succ n ih =>
  rw[tE] at h
  by_cases hg:gE b=0
  ·rw[if_pos hg] at h
   have h1:=ih (b.drop (gK b)) (mem_drop h256) h
   obtain⟨h2,h3,_⟩:=gE_zero hg h256
   rw[tR];simp at h1;omega
  ·rw[if_neg hg] at h;exact absurd h hg
theorem tR_lt (n:Nat) (b:List Nat) (h256:∀ x∈b,x<256):∀ x∈tR n b,x<256:=by
 induction n generalizing b with
 | zero=>exact h256
 | succ n ih=>rw[tR];exact ih _ (mem_drop h256)
def iE (n:Int) (l:List Nat):Nat:=if n<0 then 1 else tE n.toNat l
theorem iE_neg {n:Int} {l:List Nat} (h:n<0):iE n l=1:=by unfold iE;rw[if_pos h]
theorem iE_pos {n:Int} {l:List Nat} (h:0≤n):iE n l=tE n.toNat l:=by unfold iE;rw[if_neg (by omega)]
def iL (n:Int) (l:List Nat):List Int:=if iE n l=0 then tL n.toNat l else []
def iR (n:Int) (l:List Nat):List Nat:=if iE n l=0 then tR n.toNat l else []
def xE (most:Int) (l:List Nat):Nat:=if gE l≠0 then gE l else if most<0∨most<((gN l:Nat):Int) then 2 else if l.length - gK l<gN l then 3 else 0
def xS (l:List Nat):List Nat:=(l.drop (gK l)).take (gN l)
def xR (l:List Nat):List Nat:=(l.drop (gK l)).drop (gN l)
theorem xE_bad {most:Int} {l:List Nat} (h:gE l≠0):xE most l=gE l:=by unfold xE;rw[if_pos h]
theorem xE_range {most:Int} {l:List Nat} (h:gE l=0) (h1:most<0∨most<((gN l:Nat):Int)):xE most l=2:=by unfold xE;rw[if_neg (by simpa using h),if_pos h1]
theorem xE_short {most:Int} {l:List Nat} (h:gE l=0) (h1:0≤most) (h2:((gN l:Nat):Int)≤most) (h3:l.length - gK l<gN l):xE most l=3:=by unfold xE;rw[if_neg (by simpa using h),if_neg (by omega),if_pos h3]
theorem xE_ok {most:Int} {l:List Nat} (h:gE l=0) (h1:0≤most) (h2:((gN l:Nat):Int)≤most) (h3:gN l≤l.length - gK l):xE most l=0:=by unfold xE;rw[if_neg (by simpa using h),if_neg (by omega),if_neg (by omega)]
def yS (most:Int) (l:List Nat):List Nat:=if xE most l=0 then xS l else []
def yR (most:Int) (l:List Nat):List Nat:=if xE most l=0 then xR l else []
end Go.Proofs.YtnkpgmibhpmdhaaGreat.E
namespace Go.Proofs.YtnkpgmibhpmdhaaGreat
set_option linter.unusedVariables false
open Go.RowKit
theorem ret_int {k:IntKind} {a b:Int} (h:a=b):Ending.returned (.int k a)=.returned (.int k b):=by rw[h]
theorem u64_wrap (n:Int):IntKind.u64.wrap n=n%18446744073709551616:=by simp[IntKind.wrap,IntKind.bits,IntKind.signed]
theorem zig_neg (n:Int) (h0 : -9223372036854775808≤n) (h:n<0):IntKind.u64.wrap (IntKind.u64.wrap (-IntKind.u64.wrap (IntKind.u64.wrap n*2)) - 1)=((E.zig n:Nat):Int):=by
 simp only[u64_wrap,E.zig,if_pos h];omega
theorem zig_pos (n:Int) (h:0≤n):n*2=((E.zig n:Nat):Int):=by
 unfold E.zig;rw[if_neg (by omega)];omega
theorem zag_odd (n:Int) (h0:0≤n) (h:n%2=1) : -(n / 2) - 1=E.zag n.toNat:=by
 unfold E.zag;rw[if_pos (by omega)];omega
theorem zag_even (n:Int) (h0:0≤n) (h:n%2≠1):n / 2=E.zag n.toNat:=by
 unfold E.zag;rw[if_neg (by omega)];omega
set_option maxRecDepth 100000 in
theorem or_128:∀ x<256,x ||| 128=x%128+128:=by decide
theorem or128 (m:Int) (h0:0≤m):bits .or .u8 (m%256) 128=(((m.toNat%128+128:Nat)):Int):=by
 obtain⟨n,rfl⟩:=Int.eq_ofNat_of_zero_le h0
 have hj:=u8_or_nat (n%256) 128 (by omega) (by omega)
 have h1:n%256<256:=by omega
 rw[or_128 _ h1] at hj
 rw[Int.toNat_natCast,show n%128+128=n%256%128+128 by omega,← hj]
 rfl
set_option maxHeartbeats 400000 in
theorem put_in (base:Nat) (v:Value) (l:List Nat) (n:Int) (w:World) (ho:w.ownsRow base 5 1 v l.length (B8 l)) (hl:l.length+10≤140737488355328) (hb:base≤w.heap.size) (hn0:0≤n) (hn1:n<18446744073709551616) :
  Calls Tryz.prog 115 #[v,.int .u64 n] w fun e w'=>∃ v',e=.returned v'∧w'.ownsRow base 5 1 v' (l++E.leb n.toNat).length (B8 (l++E.leb n.toNat))∧AS w v w' v':=by
 obtain⟨i0,hi,hz0,hz1,hz2⟩:=info_parts Tryz.infoU8
 have h10:=E.leb_ten n.toNat (by omega)
 go_enter Tryz.func115,Tryz.ntmps115
 go_wp2_with fail
 go_loopw [0,1] (fun b m wr=>∃ (pre:List Nat) (k:Int),m=.int .u64 k∧0≤k∧k<18446744073709551616∧pre++E.leb k.toNat=l++E.leb n.toNat∧wr.ownsRow base 5 1 b pre.length (B8 pre)∧AS w v wr b) (fun _ m _=>(intOf m).toNat)
 case atStart=>exact⟨l,n,rfl,hn0,hn1,rfl,ho,AS.refl _ _⟩
 case round =>
  obtain⟨pre,k,rfl,hk0,hk1,hpre,hown,has⟩:=hrel
  have hlen:pre.length+(E.leb k.toNat).length=l.length+(E.leb n.toNat).length:=by
   have:=congrArg List.length hpre
   simpa using this
  have hlp:=E.leb_pos k.toNat
  have hsz:=has.1.size
  have HP:=hide hpre
  have HL:=hide hlen
  have hpl:pre.length+1≤140737488355328:=by omega
  by_cases hk:128≤k
  ·have HO:=hide (or128 k hk0)
   have HB:=hide (E.leb_big k.toNat (by omega))
   clear hpre hlen h10 hlp
   go_wp2_with (at_builtin;refine wpList_append_to rfl _ _ 22 rfl base 5 i0 (.int .u8 0) 1 1 Tryz.underlying22 hi hz0 hz1 hz2 rfl (by decide) _ _ _ rfl (hown.alloc _) (some ⟨wr.heap.size,0,none⟩) 1 1 [.int .u8 (bits .or .u8 (k%256) 128)] rfl (by simp) rfl (Sl.news1 _ _) (one_oneCell _ _) (by unfold maxLen;omega) (by omega) (by simp;omega) ?_)
   intro v' w1 ho1 has1
   go_wp2
   go_roundw
   case rel =>
    refine⟨pre++[k.toNat%128+128],k / 128,rfl,by omega,by omega,?_,?_,has.trans (AS.pre ((Kept.refl _ wr).alloc _) has1)⟩
    ·rw[← HP.out,HB.out,List.append_assoc,show (k / 128).toNat=k.toNat / 128 by omega];rfl
    ·rw[HO.out] at ho1
     rw[B8_append,List.length_append];exact ho1
   case measure=>simp[intOf];omega
  ·have HB:=hide (E.leb_small k.toNat (by omega))
   clear hpre hlen h10 hlp
   go_wp2_with (at_builtin;refine wpList_append_to rfl _ _ 22 rfl base 5 i0 (.int .u8 0) 1 1 Tryz.underlying22 hi hz0 hz1 hz2 rfl (by decide) _ _ _ rfl (hown.alloc _) (some ⟨wr.heap.size,0,none⟩) 1 1 [.int .u8 k] rfl (by simp) rfl (Sl.news1 _ _) (one_oneCell _ _) (by unfold maxLen;omega) (by omega) (by simp;omega) ?_)
   intro v' w1 ho1 has1
   go_wp2
   go_ret
   refine⟨v',rfl,?_,has.trans (AS.pre ((Kept.refl _ wr).alloc _) has1)⟩
   rw[← HP.out,HB.out,B8_append,List.length_append,show B8 [k.toNat]=[Value.int .u8 k] by simp[B8];omega]
   exact ho1
theorem put_any (n:Int) (w:World) (hn0:0≤n) (hn1:n<18446744073709551616) :
  Calls Tryz.prog 70 #[.int .u64 n] w fun e w'=>∃ v',e=.returned v'∧w'.ownsRow w.heap.size 5 1 v' (E.leb n.toNat).length (B8 (E.leb n.toNat))∧Below w.heap.size w w':=by
 go_enter Tryz.func70,Tryz.ntmps70
 go_wp2_with fail
 refine (put_in w.heap.size _ [] n w (World.ownsRow_nil _ _ _ _) (by simp) (Nat.le_refl _) hn0 hn1).mono ?_
 rintro e w' ⟨v',rfl,ho,has⟩
 go_wp2
 go_ret
 exact⟨v',rfl,by simpa using ho,has.below (Nat.le_refl _) (by simp[Value.ownBlock])⟩
set_option maxHeartbeats 400000 in
theorem zig_any (n:Int) (w:World) (h0 : -9223372036854775808≤n) (h1:n<9223372036854775808) :
  Calls Tryz.prog 71 #[.int .i64 n] w fun e w'=>e=.returned (.int .u64 ((E.zig n:Nat):Int))∧w'=w:=by
 by_cases hn:n<0
 ·go_enter Tryz.func71,Tryz.ntmps71
  go_wp2
  go_ret
  exact⟨ret_int (zig_neg n h0 hn),rfl⟩
 ·go_enter Tryz.func71,Tryz.ntmps71
  go_wp2
  go_ret
  exact⟨ret_int (zig_pos n (by omega)),rfl⟩
set_option maxHeartbeats 400000 in
theorem zag_any (n:Int) (w:World) (h0:0≤n) (h1:n<18446744073709551616) :
  Calls Tryz.prog 163 #[.int .u64 n] w fun e w'=>e=.returned (.int .i64 (E.zag n.toNat))∧w'=w:=by
 by_cases hn:n%2=1
 ·have hb:(n%2==1)=true:=by simpa using hn
  clear hn
  go_enter Tryz.func163,Tryz.ntmps163
  go_wp2
  go_ret
  exact⟨ret_int (zag_odd n h0 (by simpa using hb)),rfl⟩
 ·have hb:(n%2==1)=false:=by simpa using hn
  clear hn
  go_enter Tryz.func163,Tryz.ntmps163
  go_wp2
  go_ret
  exact⟨ret_int (zag_even n h0 (by simpa using hb)),rfl⟩
end Go.Proofs.YtnkpgmibhpmdhaaGreat
namespace Go.Proofs.YtnkpgmibhpmdhaaGreat.D
set_option linter.unusedVariables false
def isN (b:Int):Bool:=(b / 4503599627370496%2048==2047)&&(b%4503599627370496 != 0)
def cl (b:Int):Int:=if isN b then 9221120237041090560 else b
def ky (b:Int):Int:=if 9223372036854775808≤cl b then 18446744073709551615 - cl b else cl b+9223372036854775808
def bt (k:Int):Int:=cl (if 9223372036854775808≤k then k - 9223372036854775808 else 18446744073709551615 - k)
def cp (a b:Int):Int:=if ky a<ky b then -1 else if ky b<ky a then 1 else 0
def In64 (b:Int):Prop:=0≤b∧b<18446744073709551616
theorem isN_iff (b:Int):isN b=true↔b / 4503599627370496%2048=2047∧b%4503599627370496≠0:=by
 simp[isN]
theorem isN_nan:isN 9221120237041090560=true:=by decide
theorem cl_nan {b:Int} (h:isN b=true):cl b=9221120237041090560:=by unfold cl;rw[if_pos h]
theorem cl_num {b:Int} (h:isN b=false):cl b=b:=by unfold cl;rw[if_neg (by simp[h])]
theorem cl_in {b:Int} (h:In64 b):In64 (cl b):=by
 unfold cl;split
 ·exact⟨by omega,by omega⟩
 ·exact h
theorem cl_cl (b:Int):cl (cl b)=cl b:=by
 cases h:isN b with
 | true=>rw[cl_nan h,cl_nan isN_nan]
 | false=>rw[cl_num h,cl_num h]
theorem ky_in {b:Int} (h:In64 b):In64 (ky b):=by
 have h1:=cl_in h
 unfold In64 at h1
 unfold ky In64;split<;>omega
theorem bt_in {k:Int} (h:In64 k):In64 (bt k):=by
 apply cl_in
 unfold In64 at h ⊢;split<;>omega
theorem bt_ky {b:Int} (h:In64 b):bt (ky b)=cl b:=by
 have h1:=cl_in h
 unfold In64 at h1
 unfold bt ky
 by_cases hc:9223372036854775808≤cl b
 ·rw[if_pos hc,if_neg (by omega),show 18446744073709551615 - (18446744073709551615 - cl b)=cl b by omega,cl_cl]
 ·rw[if_neg hc,if_pos (by omega),show cl b+9223372036854775808 - 9223372036854775808=cl b by omega,cl_cl]
theorem ky_inj {a b:Int} (ha:In64 a) (hb:In64 b):ky a=ky b↔cl a=cl b:=by
 constructor
 ·intro h;rw[← bt_ky ha,h,bt_ky hb]
 ·intro h;unfold ky;rw[h]
theorem cp_cases (a b:Int):(cp a b = -1∧ky a<ky b)∨(cp a b=0∧ky a=ky b)∨(cp a b=1∧ky b<ky a):=by
 unfold cp
 by_cases h1:ky a<ky b
 ·left;exact⟨by rw[if_pos h1],h1⟩
 ·by_cases h2:ky b<ky a
  ·right;right;exact⟨by rw[if_neg h1,if_pos h2],h2⟩
  ·right;left;exact⟨by rw[if_neg h1,if_neg h2],by omega⟩
end Go.Proofs.YtnkpgmibhpmdhaaGreat.D
namespace Go.Proofs.YtnkpgmibhpmdhaaGreat.D
set_option linter.unusedVariables false
theorem and_top {b:Int} (h:In64 b):bits .and .u64 b 9223372036854775808=if 9223372036854775808≤b then 9223372036854775808 else 0:=by
 obtain⟨h0,h1⟩:=h
 rw[u64_and b 9223372036854775808 h0 h1 (by omega) (by omega)]
 obtain⟨x,rfl⟩:=Int.eq_ofNat_of_zero_le h0
 have e:(x &&& 9223372036854775808:Nat)=if 9223372036854775808≤x then 9223372036854775808 else 0:=by
  apply Nat.eq_of_testBit_eq
  intro i
  have e63:(9223372036854775808:Nat)=2^63:=by decide
  rw[Nat.testBit_and]
  by_cases hi:i=63
  ·subst hi
   have ht:x.testBit 63=decide (9223372036854775808≤x):=by
    rw[Nat.testBit_eq_decide_div_mod_eq]
    congr 1
    rw[show (2:Nat)^63=9223372036854775808 by decide]
    apply propext;omega
   rw[ht]
   by_cases hx:9223372036854775808≤x
   ·rw[if_pos hx];simp[hx]
   ·rw[if_neg hx];simp[hx]
  ·have h63:¬ 63=i:=fun h=>hi h.symm
   by_cases hx:9223372036854775808≤x
   ·rw[if_pos hx,e63,Nat.testBit_two_pow];simp[h63]
   ·rw[if_neg hx,e63,Nat.testBit_two_pow];simp[h63]
 show ((x &&& 9223372036854775808:Nat):Int)=_
 rw[e]
 split<;>split<;>omega
theorem andNot_top {b:Int} (h:In64 b):bits .andNot .u64 b 9223372036854775808=b%9223372036854775808:=by
 obtain⟨h0,h1⟩:=h
 rw[u64_andNot b 9223372036854775808 h0 h1 (by omega) (by omega)]
 obtain⟨x,rfl⟩:=Int.eq_ofNat_of_zero_le h0
 show ((x &&& 9223372036854775807:Nat):Int)=_
 have e:x &&& 9223372036854775807=x%9223372036854775808:=Nat.and_two_pow_sub_one_eq_mod x 63
 rw[e];omega
theorem or_top {b:Int} (h0:0≤b) (h1:b<9223372036854775808):bits .or .u64 b 9223372036854775808=b+9223372036854775808:=by
 rw[u64_or b 9223372036854775808 h0 (by omega) (by omega) (by omega)]
 obtain⟨x,rfl⟩:=Int.eq_ofNat_of_zero_le h0
 show ((x ||| 9223372036854775808:Nat):Int)=_
 have e:9223372036854775808+x=9223372036854775808 ||| x:=Nat.two_pow_add_eq_or_of_lt (i:=63) (by omega) 1
 rw[Nat.or_comm,← e];omega
theorem turn_all {b:Int} (h:In64 b):bits .xor .u64 IntKind.u64.max b=18446744073709551615 - b:=by
 obtain⟨h0,h1⟩:=h
 rw[show IntKind.u64.max=18446744073709551615 from rfl,u64_xor 18446744073709551615 b (by omega) (by omega) h0 h1]
 obtain⟨x,rfl⟩:=Int.eq_ofNat_of_zero_le h0
 show ((18446744073709551615 ^^^ x:Nat):Int)=_
 have e:18446744073709551615 ^^^ x=18446744073709551615 - x:=by
  apply Nat.eq_of_testBit_eq
  intro i
  have e1:18446744073709551615 - x=2^64 - (x+1):=by omega
  have e2:(18446744073709551615:Nat)=2^64 - 1:=by decide
  rw[e1,Nat.testBit_two_pow_sub_succ (by omega),Nat.testBit_xor,e2,Nat.testBit_two_pow_sub_one]
  by_cases hi:i<64
  ·simp[hi]
  ·have hx:x.testBit i=false:=Nat.testBit_lt_two_pow (Nat.lt_of_lt_of_le (show x<2^64 by omega) (Nat.pow_le_pow_right (by omega) (by omega)))
   simp[hi,hx]
 rw[e];omega
theorem isN_over {b:Int} (h:In64 b):decide (9218868437227405312<b%9223372036854775808)=isN b:=by
 obtain⟨h0,h1⟩:=h
 have:=isN_iff b
 cases hb:isN b with
 | true=>rw[hb] at this;have:=this.1 rfl;simp;omega
 | false =>
  rw[hb] at this
  have h2:¬ (b / 4503599627370496%2048=2047∧b%4503599627370496≠0):=fun h=>by simpa using this.2 h
  simp;omega
end Go.Proofs.YtnkpgmibhpmdhaaGreat.D
namespace Go.Proofs.YtnkpgmibhpmdhaaGreat.Z
set_option linter.unusedVariables false
structure V where
 k:Int
 i:Int
 s:ByteArray
def V.v (x:V):Value:=.agg #[.int .i64 x.k,.int .i64 x.i,.string x.s]
def I64 (i:Int):Prop := -9223372036854775808≤i∧i<9223372036854775808
def V.In (x:V):Prop:=I64 x.k∧I64 x.i
def ci (a b:Int):Int:=if a<b then -1 else if b<a then 1 else 0
def u (i:Int):Int:=i%18446744073709551616
def sg (b:Int):Int:=if 9223372036854775808≤b then b - 18446744073709551616 else b
def cs (s t:ByteArray):Int:=Lib.compareBytes s.data.toList t.data.toList
def cv (a b:V):Int:=if a.k=b.k then (if a.k=1 then ci a.i b.i else if a.k=2 then D.cp (u a.i) (u b.i) else if a.k=3 then cs a.s b.s else 0) else ci a.k b.k
def cl (a:V):V:=if a.k=2 then ⟨a.k,sg (D.cl (u a.i)),a.s⟩ else a
def may (a:V):Bool:=if a.k=2 then decide (sg (D.cl (u a.i))=a.i)&&decide (a.s=⟨#[]⟩) else if a.k=1 then decide (a.s=⟨#[]⟩) else if a.k=3 then decide (a.i=0)&&decide (a.s.size≤1024) else if a.k=0 then decide (a.i=0)&&decide (a.s=⟨#[]⟩) else false
theorem u_in (i:Int):D.In64 (u i):=⟨by unfold u;omega,by unfold u;omega⟩
theorem sg_u {i:Int} (h:I64 i):sg (u i)=i:=by
 unfold I64 at h;unfold sg u;split<;>omega
theorem u_sg {b:Int} (h:D.In64 b):u (sg b)=b:=by
 unfold D.In64 at h;unfold sg u;split<;>omega
theorem sg_in {b:Int} (h:D.In64 b):I64 (sg b):=by
 unfold D.In64 at h;unfold sg I64;split<;>omega
theorem ci_cases (a b:Int):(ci a b = -1∧a<b)∨(ci a b=0∧a=b)∨(ci a b=1∧b<a):=by
 unfold ci
 by_cases h1:a<b
 ·left;exact⟨by rw[if_pos h1],h1⟩
 ·by_cases h2:b<a
  ·right;right;exact⟨by rw[if_neg h1,if_pos h2],h2⟩
  ·right;left;exact⟨by rw[if_neg h1,if_neg h2],by omega⟩
def Ord3 (xy yx yz xz:Int):Prop:=yx = -xy∧(0<xy∨0<yz∨xz≤0)∧(0≤xy∨0≤yz∨xz<0)
theorem ci_ord (a b c:Int):Ord3 (ci a b) (ci b a) (ci b c) (ci a c):=by
 unfold Ord3
 rcases ci_cases a b with ⟨h1,g1⟩|⟨h1,g1⟩|⟨h1,g1⟩<;>rcases ci_cases b a with ⟨h2,g2⟩|⟨h2,g2⟩|⟨h2,g2⟩<;>rcases ci_cases b c with ⟨h3,g3⟩|⟨h3,g3⟩|⟨h3,g3⟩<;>rcases ci_cases a c with ⟨h4,g4⟩|⟨h4,g4⟩|⟨h4,g4⟩<;>omega
theorem cb_step (a b:UInt8) (x y:List UInt8):Lib.compareBytes (a :: x) (b :: y)=if a.toNat<b.toNat then -1 else if b.toNat<a.toNat then 1 else Lib.compareBytes x y:=by
 show (if a<b then _ else if b<a then _ else _)=_
 simp only[UInt8.lt_iff_toNat_lt]
theorem cb_cases (x:List UInt8):∀ y,Lib.compareBytes x y = -1∨Lib.compareBytes x y=0∨Lib.compareBytes x y=1:=by
 induction x with
 | nil=>intro y;cases y with
  | nil=>exact .inr (.inl rfl)
  | cons b y=>exact .inl rfl
 | cons a x ih=>intro y;cases y with
  | nil=>exact .inr (.inr rfl)
  | cons b y =>
   rw[cb_step]
   split
   ·exact .inl rfl
   ·split
    ·exact .inr (.inr rfl)
    ·exact ih y
theorem cb_refl (x:List UInt8):Lib.compareBytes x x=0:=by
 induction x with
 | nil=>rfl
 | cons a x ih=>rw[cb_step,if_neg (by omega),if_neg (by omega),ih]
theorem cb_zero (x:List UInt8):∀ y,Lib.compareBytes x y=0→x=y:=by
 induction x with
 | nil=>intro y h;cases y with
  | nil=>rfl
  | cons b y=>exact absurd h (by show ¬ ((-1:Int)=0);omega)
 | cons a x ih=>intro y h;cases y with
  | nil=>exact absurd h (by show ¬ ((1:Int)=0);omega)
  | cons b y =>
   rw[cb_step] at h
   split at h
   ·omega
   ·split at h
    ·omega
    ·rename_i h1 h2
     rw[ih y h,UInt8.toNat_inj.1 (show a.toNat=b.toNat by omega)]
theorem cb_anti (x:List UInt8):∀ y,Lib.compareBytes y x = -Lib.compareBytes x y:=by
 induction x with
 | nil=>intro y;cases y<;>rfl
 | cons a x ih=>intro y;cases y with
  | nil=>rfl
  | cons b y =>
   rw[cb_step,cb_step]
   by_cases h1:a.toNat<b.toNat
   ·rw[if_neg (by omega),if_pos h1,if_pos h1];rfl
   ·by_cases h2:b.toNat<a.toNat
    ·rw[if_pos h2,if_neg h1,if_pos h2]
    ·rw[if_neg h2,if_neg h1,if_neg h1,if_neg h2,ih y]
theorem cb_trans (x:List UInt8):∀ y z,(0<Lib.compareBytes x y∨0<Lib.compareBytes y z∨Lib.compareBytes x z≤0)∧(0≤Lib.compareBytes x y∨0≤Lib.compareBytes y z∨Lib.compareBytes x z<0):=by
 induction x with
 | nil=>intro y z;cases y with
  | nil=>cases z with
   | nil=>decide
   | cons c z=>exact⟨.inr (.inr (by show (-1:Int)≤0;omega)),.inl (by show (0:Int)≤0;omega)⟩
  | cons b y=>cases z with
   | nil=>exact⟨.inr (.inl (by show (0:Int)<1;omega)),.inr (.inl (by show (0:Int)≤1;omega))⟩
   | cons c z=>exact⟨.inr (.inr (by show (-1:Int)≤0;omega)),.inr (.inr (by show (-1:Int)<0;omega))⟩
 | cons a x ih=>intro y z;cases y with
  | nil=>exact⟨.inl (by show (0:Int)<1;omega),.inl (by show (0:Int)≤1;omega)⟩
  | cons b y=>cases z with
   | nil=>exact⟨.inr (.inl (by show (0:Int)<1;omega)),.inr (.inl (by show (0:Int)≤1;omega))⟩
   | cons c z =>
    have h:=ih y z
    rw[cb_step,cb_step,cb_step]
    by_cases h1:a.toNat<b.toNat<;>by_cases h2:b.toNat<a.toNat<;>by_cases h3:b.toNat<c.toNat<;>by_cases h4:c.toNat<b.toNat<;>by_cases h5:a.toNat<c.toNat<;>by_cases h6:c.toNat<a.toNat<;>simp only[h1,h2,h3,h4,h5,h6,if_true,if_false]<;>first|exact h|omega
theorem cs_ord (a b c:ByteArray):Ord3 (cs a b) (cs b a) (cs b c) (cs a c):=⟨cb_anti _ _,(cb_trans _ _ _).1,(cb_trans _ _ _).2⟩
theorem ba_eq {a b:ByteArray} (h:a.data.toList=b.data.toList):a=b:=by
 obtain⟨⟨x⟩⟩:=a;obtain⟨⟨y⟩⟩:=b
 simp at h;rw[h]
theorem cv_refl (a:V):cv a a=0:=by
 have h1:ci a.i a.i=0:=by unfold ci;simp
 have h2:D.cp (u a.i) (u a.i)=0:=by unfold D.cp;simp
 have h3:cs a.s a.s=0:=cb_refl _
 unfold cv;rw[if_pos rfl,h1,h2,h3];simp
theorem cv_ord (a b c:V):Ord3 (cv a b) (cv b a) (cv b c) (cv a c):=by
 have hk:=ci_ord a.k b.k c.k
 have hi:=ci_ord a.i b.i c.i
 have hp:=ci_ord (D.ky (u a.i)) (D.ky (u b.i)) (D.ky (u c.i))
 have hs:=cs_ord a.s b.s c.s
 unfold cv
 by_cases h1:a.k=b.k
 ·by_cases h2:b.k=c.k
  ·rw[if_pos h1,if_pos h1.symm,if_pos h2,if_pos (h1.trans h2)]
   by_cases k1:a.k=1
   ·have k1':b.k=1:=by omega
    simp only[if_pos k1,if_pos k1'];exact hi
   ·have k1':¬ b.k=1:=by omega
    by_cases k2:a.k=2
    ·have k2':b.k=2:=by omega
     simp only[if_neg k1,if_neg k1',if_pos k2,if_pos k2'];exact hp
    ·have k2':¬ b.k=2:=by omega
     by_cases k3:a.k=3
     ·have k3':b.k=3:=by omega
      simp only[if_neg k1,if_neg k1',if_neg k2,if_neg k2',if_pos k3,if_pos k3'];exact hs
     ·have k3':¬ b.k=3:=by omega
      simp only[if_neg k1,if_neg k1',if_neg k2,if_neg k2',if_neg k3,if_neg k3'];unfold Ord3;omega
  ·have h3:¬ a.k=c.k:=by omega
   rw[if_neg h2,if_neg h3]
   refine⟨?_,?_,?_⟩
   ·rw[if_pos h1,if_pos h1.symm]
    have h4:b.k=a.k:=h1.symm
    rw[h4]
    split
    ·exact hi.1
    ·split
     ·exact hp.1
     ·split
      ·exact hs.1
      ·rfl
   ·rcases ci_cases b.k c.k with ⟨g1,g2⟩|⟨g1,g2⟩|⟨g1,g2⟩<;>rcases ci_cases a.k c.k with ⟨g3,g4⟩|⟨g3,g4⟩|⟨g3,g4⟩<;>omega
   ·rcases ci_cases b.k c.k with ⟨g1,g2⟩|⟨g1,g2⟩|⟨g1,g2⟩<;>rcases ci_cases a.k c.k with ⟨g3,g4⟩|⟨g3,g4⟩|⟨g3,g4⟩<;>omega
 ·rw[if_neg h1,if_neg (by omega:¬ b.k=a.k)]
  refine⟨hk.1,?_,?_⟩
  ·by_cases h2:b.k=c.k
   ·rw[if_neg (by omega:¬ a.k=c.k)]
    rcases ci_cases a.k b.k with ⟨g1,g2⟩|⟨g1,g2⟩|⟨g1,g2⟩<;>rcases ci_cases a.k c.k with ⟨g3,g4⟩|⟨g3,g4⟩|⟨g3,g4⟩<;>omega
   ·rw[if_neg h2]
    by_cases h3:a.k=c.k
    ·rw[if_pos h3]
     rcases ci_cases a.k b.k with ⟨g1,g2⟩|⟨g1,g2⟩|⟨g1,g2⟩<;>rcases ci_cases b.k c.k with ⟨g3,g4⟩|⟨g3,g4⟩|⟨g3,g4⟩<;>omega
    ·rw[if_neg h3];exact hk.2.1
  ·by_cases h2:b.k=c.k
   ·rw[if_neg (by omega:¬ a.k=c.k)]
    rcases ci_cases a.k b.k with ⟨g1,g2⟩|⟨g1,g2⟩|⟨g1,g2⟩<;>rcases ci_cases a.k c.k with ⟨g3,g4⟩|⟨g3,g4⟩|⟨g3,g4⟩<;>omega
   ·rw[if_neg h2]
    by_cases h3:a.k=c.k
    ·rw[if_pos h3]
     rcases ci_cases a.k b.k with ⟨g1,g2⟩|⟨g1,g2⟩|⟨g1,g2⟩<;>rcases ci_cases b.k c.k with ⟨g3,g4⟩|⟨g3,g4⟩|⟨g3,g4⟩<;>omega
    ·rw[if_neg h3];exact hk.2.2
theorem cv_range (a b:V):cv a b = -1∨cv a b=0∨cv a b=1:=by
 have h1:=ci_cases a.k b.k
 have h2:=ci_cases a.i b.i
 have h3:=D.cp_cases (u a.i) (u b.i)
 have h4:=cb_cases a.s.data.toList b.s.data.toList
 unfold cv
 split
 ·split
  ·omega
  ·split
   ·omega
   ·split
    ·exact h4
    ·omega
 ·omega
theorem ky_clean {a b:Int} (ha:D.In64 a) (hb:D.In64 b) (h1:D.cl a=a) (h2:D.cl b=b) (h:D.ky a=D.ky b):a=b:=by
 rw[← h1,← h2];exact (D.ky_inj ha hb).1 h
theorem cv_may {a b:V} (ha:a.In) (hb:b.In) (ma:may a=true) (mb:may b=true) (h:cv a b=0):a=b:=by
 obtain⟨ak,ai,az⟩:=a
 obtain⟨bk,bi,bs⟩:=b
 unfold cv at h
 simp only at h
 by_cases hk:ak=bk
 ·subst hk
  rw[if_pos rfl] at h
  unfold may at ma mb
  simp only at ma mb
  by_cases k2:ak=2
  ·rw[if_pos k2] at ma mb
   rw[if_neg (by omega),if_pos k2] at h
   simp only[Bool.and_eq_true,decide_eq_true_eq] at ma mb
   obtain⟨m1,rfl⟩:=ma
   obtain⟨m2,rfl⟩:=mb
   have hai:=ha.2
   have hbi:=hb.2
   simp only at hai hbi
   have hc:=D.cp_cases (u ai) (u bi)
   have hky:D.ky (u ai)=D.ky (u bi):=by omega
   have e1:D.cl (u ai)=u ai:=by rw[← u_sg (D.cl_in (u_in ai)),m1]
   have e2:D.cl (u bi)=u bi:=by rw[← u_sg (D.cl_in (u_in bi)),m2]
   have e3:=ky_clean (u_in ai) (u_in bi) e1 e2 hky
   have e4:ai=bi:=by rw[← sg_u hai,← sg_u hbi,e3]
   rw[e4]
  ·rw[if_neg k2] at ma mb
   by_cases k1:ak=1
   ·rw[if_pos k1] at ma mb h
    simp only[decide_eq_true_eq] at ma mb
    have hc:=ci_cases ai bi
    rw[ma,mb,show ai=bi by omega]
   ·rw[if_neg k1] at ma mb h
    rw[if_neg k2] at h
    by_cases k3:ak=3
    ·rw[if_pos k3] at ma mb h
     simp only[Bool.and_eq_true,decide_eq_true_eq] at ma mb
     rw[ma.1,mb.1,ba_eq (cb_zero _ _ h)]
    ·rw[if_neg k3] at ma mb h
     by_cases k0:ak=0
     ·rw[if_pos k0] at ma mb
      simp only[Bool.and_eq_true,decide_eq_true_eq] at ma mb
      rw[ma.1,ma.2,mb.1,mb.2]
     ·rw[if_neg k0] at ma;exact absurd ma (by simp)
 ·rw[if_neg hk] at h
  have:=ci_cases ak bk
  omega
end Go.Proofs.YtnkpgmibhpmdhaaGreat.Z
namespace Go.Proofs.YtnkpgmibhpmdhaaGreat
set_option linter.unusedVariables false
open Go.RowKit
theorem nani_any (x:Int) (w:World):Calls Tryz.prog 164 #[.int .i64 x] w fun e w'=>e=.returned (.bool false)∧w'=w:=by
 go_enter Tryz.func164,Tryz.ntmps164
 go_wp2
 go_ret
 exact⟨by simp,rfl⟩
theorem nanl_any (x:Int) (w:World):Calls Tryz.prog 165 #[.int .i64 x] w fun e w'=>e=.returned (.bool false)∧w'=w:=by
 go_enter Tryz.func165,Tryz.ntmps165
 go_wp2
 go_ret
 exact⟨by simp,rfl⟩
theorem cmpi_any (x y:Int) (w:World):Calls Tryz.prog 111 #[.int .i64 x,.int .i64 y] w fun e w'=>e=.returned (.int .i64 (Z.ci x y))∧w'=w:=by
 have HC:Hid (Z.ci x y=if x<y then -1 else if y<x then 1 else 0):=by show _=_;rfl
 go_enter Tryz.func111,Tryz.ntmps111
 go_wp2_with fail
 refine (nani_any x w).mono ?_
 rintro e w1 ⟨rfl,rfl⟩
 go_wp2_with fail
 refine (nani_any y w1).mono ?_
 rintro e w2 ⟨rfl,rfl⟩
 by_cases hl:x<y
 ·go_wp2
  go_ret
  exact⟨by rw[HC.out,if_pos hl];rfl,rfl⟩
 ·by_cases hg:y<x
  ·go_wp2
   go_ret
   exact⟨by rw[HC.out,if_neg (by omega),if_pos hg];rfl,rfl⟩
  ·go_wp2
   go_ret
   exact⟨by rw[HC.out,if_neg (by omega),if_neg (by omega)];rfl,rfl⟩
theorem cmpl_any (x y:Int) (w:World):Calls Tryz.prog 112 #[.int .i64 x,.int .i64 y] w fun e w'=>e=.returned (.int .i64 (Z.ci x y))∧w'=w:=by
 have HC:Hid (Z.ci x y=if x<y then -1 else if y<x then 1 else 0):=by show _=_;rfl
 go_enter Tryz.func112,Tryz.ntmps112
 go_wp2_with fail
 refine (nanl_any x w).mono ?_
 rintro e w1 ⟨rfl,rfl⟩
 go_wp2_with fail
 refine (nanl_any y w1).mono ?_
 rintro e w2 ⟨rfl,rfl⟩
 by_cases hl:x<y
 ·go_wp2
  go_ret
  exact⟨by rw[HC.out,if_pos hl];rfl,rfl⟩
 ·by_cases hg:y<x
  ·go_wp2
   go_ret
   exact⟨by rw[HC.out,if_neg (by omega),if_pos hg];rfl,rfl⟩
  ·go_wp2
   go_ret
   exact⟨by rw[HC.out,if_neg (by omega),if_neg (by omega)];rfl,rfl⟩
end Go.Proofs.YtnkpgmibhpmdhaaGreat

/- Contracts and plain facts, one behind the other: KF MA MB MD -/
import Derived.Maps.OwnOps
import Derived.Maps.OwnSet
import Derived.Laws.EntriesVeiled
import Derived.Test.YtnkpgmibhpmdhaaGreatBeBD
namespace Go.Proofs.YtnkpgmibhpmdhaaGreat
set_option linter.unusedVariables false
set_option maxRecDepth 10000
open Go.RowKit
theorem slV_bare (w:World):SlV w none 0 0 []:=⟨rfl,Nat.le_refl _,by simp[maxLen],fun _=>rfl,.inl rfl⟩
theorem sms_get:∀ (p:Int) (S:List Nat) (j s:Nat),S[j]?=some s→∃ q,(p :: Z.sms p S)[j]?=some q∧(p :: Z.sms p S)[j+1]?=some (wrap64 (q+E.zag s))
 | p,[],j,s,h=>by simp at h
 | p,a :: t,0,s,h=>by
  simp at h;subst h
  exact⟨p,rfl,rfl⟩
 | p,a :: t,j+1,s,h=>by
  obtain⟨q,h1,h2⟩:=sms_get (wrap64 (p+E.zag a)) t j s (by simpa using h)
  exact⟨q,by rw[List.getElem?_cons_succ,Z.sms];exact h1,by rw[List.getElem?_cons_succ,Z.sms];exact h2⟩
def Z.fk (p:Int) (S:List Nat) (j:Nat):List Z.V:=Z.vals ((p :: Z.sms p S).take j)
theorem fk_length {p:Int} {S:List Nat} {j:Nat} (h:j≤S.length+1):(Z.fk p S j).length=j:=by unfold Z.fk;rw[vals_length,List.length_take,List.length_cons,sms_length];omega
theorem fk_all {p:Int} {S:List Nat} {j:Nat} (h:S.length+1≤j):Z.fk p S j=Z.vals (p :: Z.sms p S):=by unfold Z.fk;rw[List.take_of_length_le (by rw[List.length_cons,sms_length];exact h)]
theorem fk_next {p x:Int} {S:List Nat} {j:Nat} (h:(p :: Z.sms p S)[j]?=some x):Z.fk p S j++[⟨1,x,⟨#[]⟩⟩]=Z.fk p S (j+1):=by
 unfold Z.fk Z.vals
 rw[List.take_add_one,h,List.map_append]
 rfl
set_option maxHeartbeats 2000000 in
theorem tovals_any (p:Int) (ao:Option Addr) (m cap:Nat) (S:List Nat) (w:World) (h:Sl w .u64 ao m cap (ints S)) (hS:∀ s∈S,s<18446744073709551616) (hp:Z.I64 p) (hm:m≤4096) :
  Calls Tryz.prog 162 #[.int .i64 p,.slice ao m cap] w fun e w'=>∃ v,e=.returned v∧OwnV w' w.heap.size v (Z.vals (p :: Z.sms p S))∧Below w.heap.size w w':=by
 have hsl:S.length=m:=by rw[← h.1,ints_length]
 have HS:=hide h
 have HL:=hide hsl
 have HL2:=hide hS
 have HP:=hide hp
 have hb1:=below_one w (.cells #[.int .i64 1,.int .i64 p,.string ⟨#[]⟩] 25)
 have HB1:=hide hb1
 have hrow0:OwnV (w.alloc (.cells #[.int .i64 1,.int .i64 p,.string ⟨#[]⟩] 25)) w.heap.size (.slice (some ⟨w.heap.size,0,none⟩) 1 1) (Z.fk p S 1):=by
  have:=World.ownsRow_lit (e:=25) (size:=3) w #[.int .i64 1,.int .i64 p,.string ⟨#[]⟩] 1 (Nat.le_refl _) (by decide) rfl
  exact this
 have HR0:=hide hrow0
 obtain⟨w1,hw1⟩:∃ w1,w.alloc (.cells #[.int .i64 1,.int .i64 p,.string ⟨#[]⟩] 25)=w1:=⟨_,rfl⟩
 rw[hw1] at HB1 HR0
 have HW:=hide hw1
 clear h hsl hS hp hb1 hrow0 hw1
 go_enter Tryz.func162,Tryz.ntmps162
 go_wp2_with fail
 rw[HW.out]
 go_loopw [0,5,13] (fun at_ v i wr=>∃ (j:Nat) (q:Int),j≤m∧i=.int .i64 j∧at_=.int .i64 q∧Hid ((p :: Z.sms p S)[j]?=some q)∧Hid (OwnV wr w.heap.size v (Z.fk p S (j+1)))∧Hid (Below w.heap.size w wr)) (fun _ _ i _=>m - (intOf i).toNat)
 case atStart=>exact⟨0,p,Nat.zero_le _,rfl,rfl,hide rfl,HR0,HB1⟩
 case round =>
  obtain⟨j,q,hj,rfl,rfl,hq,hrow,hbw⟩:=hrel
  by_cases hjl:j<m
  ·obtain⟨bb,off,rfl,hlt,c0⟩:=HS.out.here hjl
   obtain⟨s,hs⟩:∃ s,S[j]?=some s:=⟨S[j]'(by rw[HL.out];exact hjl),List.getElem?_eq_getElem _⟩
   have hsg:(ints S).getD j 0=(s:Int):=by rw[ints_getD,List.getD_eq_getElem?_getD,hs];rfl
   rw[hsg] at c0
   have d1:wr.cell? ⟨bb,off+j,none⟩=some (.int .u64 (s:Int)):=by rw[hbw.out.cell (p:=⟨bb,off+j,none⟩) hlt];exact c0
   have hs64:=HL2.out s (List.mem_of_getElem? hs)
   obtain⟨q',h1,h2⟩:=sms_get p S j s hs
   have hqq:q'=q:=by have h3:=hq.out;rw[h1] at h3;exact Option.some.inj h3
   subst hqq
   have HZG:Hid (∀ w:World,Calls Tryz.prog 163 #[.int .u64 (s:Int)] w fun e w'=>e=.returned (.int .i64 (E.zag s))∧w'=w):=fun w=>by
    have:=zag_any (s:Int) w (by omega) (by omega)
    rwa [Int.toNat_natCast] at this
   obtain⟨g,hg⟩:∃ g,E.zag s=g:=⟨_,rfl⟩
   rw[hg] at HZG h2
   obtain⟨y,hy⟩:∃ y,wrap64 (q'+g)=y:=⟨_,rfl⟩
   have hy2:IntKind.i64.wrap (q'+g)=y:=by rw[IntKind.wrap_i64,← hy];unfold wrap64;omega
   rw[hy] at h2
   have HY:=hide h2
   have HFN:=hide (fk_next h2)
   have HFL:=hide (fk_length (p:=p) (S:=S) (j:=j+1) (by rw[HL.out];omega))
   have HR2:=hide (World.ownsRow.alloc hrow.out (.cells #[.int .i64 1,.int .i64 y,.string ⟨#[]⟩] 25))
   have HB2:=hide (bthen hbw.out (below_one wr (.cells #[.int .i64 1,.int .i64 y,.string ⟨#[]⟩] 25)))
   have hsz2:=HB2.out.size
   clear c0 hs hsg h1 h2 hg hrow hq
   go_wp2_with fail
   refine (HZG.out _).mono ?_
   rintro e w2 ⟨rfl,hw2⟩
   obtain rfl:wr=w2:=hw2.symm
   clear HZG
   go_wp2_with (at_builtin;refine wpList_appV rfl _ _ rfl w.heap.size _ (Z.fk p S (j+1)) rfl HR2.out (some ⟨wr.heap.size,0,none⟩) 1 1 [⟨1,y,⟨#[]⟩⟩] rfl (slV_one wr 1 y ⟨#[]⟩) (by rw[HFL.out];omega) hsz2 ?_)
   intro v4 w4 ho4 has _
   have hb4:Below w.heap.size w w4:=HB2.out.trans (has.below hsz2 (fun g hg=>(owns_lt HR2.out hg).1))
   rw[HFN.out] at ho4
   have HO4:=hide ho4
   have HB4:=hide hb4
   clear ho4 hb4 has
   go_wp2
   go_roundw
   case rel=>exact⟨j+1,y,hjl,by go_num,rfl,HY,HO4,HB4⟩
   case measure=>simp[intOf];omega
  ·obtain rfl:j=m:=by omega
   have hrow1:=hrow.out
   rw[fk_all (by rw[HL.out];exact Nat.le_refl _)] at hrow1
   have HROW:=hide hrow1
   clear hrow1 hrow
   go_wp2
   go_ret
   exact⟨_,rfl,HROW.out,hbw.out⟩
def DeltaOfAns (b:List Nat) (n:Int) (w:World) (e:Ending) (w':World):Prop:=∃ a c,e=.returned (.tuple #[.slice a (Z.feL b n).length c,.int .i64 (Z.feE b n)])∧SlV w' a (Z.feL b n).length c (Z.feL b n)∧Below w.heap.size w w'
theorem DeltaOfAns.no {b:List Nat} {n E:Int} {w w':World} (h:Z.feE b n=E) (h0:E≠0) (hb:Below w.heap.size w w'):DeltaOfAns b n w (.returned (.tuple #[.slice none 0 0,.int .i64 E])) w':=by
 unfold DeltaOfAns;rw[feL_bad (by rw[h];exact h0),h]
 exact⟨none,0,rfl,slV_bare _,hb⟩
theorem DeltaOfAns.bare {b:List Nat} {w w':World} (h:Z.feE b 0=0) (hb:Below w.heap.size w w'):DeltaOfAns b 0 w (.returned (.tuple #[.slice none 0 0,.int .i64 0])) w':=by
 unfold DeltaOfAns;rw[feL_none,h]
 exact⟨none,0,rfl,slV_bare _,hb⟩
theorem DeltaOfAns.many {b:List Nat} {n:Int} {w w':World} (h:n<0∨4096<n) (hb:Below w.heap.size w w'):DeltaOfAns b n w (.returned (.tuple #[.slice none 0 0,.int .i64 2])) w':=DeltaOfAns.no (feE_many h) (by decide) hb
theorem feE_num {b:List Nat} {N:Nat} (h0:0<N) (hN:N≤4096) (h:E.gE b≠0):Z.feE b (N:Int)=((E.gE b:Nat):Int):=by rw[feE_some h0 hN,fN_tN,if_pos h]
theorem feE_rest {b:List Nat} {N:Nat} (h0:0<N) (hN:N≤4096) (h:E.gE b=0):Z.feE b (N:Int)=((Z.tN (N - 1) (Z.fb b):Nat):Int):=by rw[feE_some h0 hN,fN_tN,if_neg (by omega)]
set_option maxHeartbeats 2000000 in
theorem deof_some (ao:Option Addr) (len cap:Nat) (b:List Nat) (N:Nat) (w:World) (h:Sl w .u8 ao len cap (ints b)) (h256:∀ x∈b,x<256) (hl:len≤140737488355328) (h0:0<N) (hN:N≤4096) :
  Calls Tryz.prog 110 #[.slice ao len cap,.int .i64 (N:Int)] w (DeltaOfAns b (N:Int) w):=by
 have hcl:b.length=len:=by rw[← h.1,ints_length]
 obtain⟨m,hm⟩:∃ m,N - 1=m:=⟨_,rfl⟩
 have hN1:(N:Int) - 1=(m:Int):=by omega
 have hnz:((N:Int)==0)=false:=by simp;omega
 have hmm:IntKind.i64.wrap (m:Int)=(m:Int):=by rw[IntKind.wrap_i64];omega
 have HS:=hide h
 have H256:=hide h256
 have HL:=hide hcl
 have HMM:=hide hm
 have hm4:m≤4096:=by omega
 clear h h256 hcl hm
 go_enter Tryz.func110,Tryz.ntmps110
 go_wp2_with fail
 refine (get_any _ _ _ b _ HS.out H256.out hl).mono ?_
 rintro e w1 ⟨rfl,hb1⟩
 have HB1:=hide hb1
 obtain⟨X,hX⟩:∃ X:Nat,E.gE b=X:=⟨_,rfl⟩
 obtain⟨K,hK⟩:∃ K:Nat,E.gK b=K:=⟨_,rfl⟩
 obtain⟨M,hM⟩:∃ M:Nat,E.gN b=M:=⟨_,rfl⟩
 have hM64:=E.gN_lt H256.out
 rw[hM] at hM64
 rw[hX,hK,hM]
 have HE:=hide hX
 have HKK:=hide hK
 have HM:=hide hM
 clear hb1 hX hK hM
 by_cases hX0:X=0
 ·subst hX0
  have hKl:K≤len:=by rw[← HKK.out,← HL.out];exact (E.gE_zero HE.out H256.out).1
  obtain⟨qa,hq,hr1,hr2⟩:=rest_of (HS.out.below HB1.out) hKl
  obtain⟨r,hr⟩:∃ d,b.drop K=d:=⟨_,rfl⟩
  rw[hr] at hq
  have hfb:Z.fb b=r:=by unfold Z.fb;rw[HKK.out,hr]
  have HFB:=hide hfb
  have HTS:=hide (tosteps_any qa (len - K) (cap - K) r m w1 hq (fun x hx=>H256.out x (by rw[← hr] at hx;exact List.mem_of_mem_drop hx)) (by omega) hm4)
  clear hq hr hfb
  go_wp2_with fail
  refine HTS.out.mono ?_
  rintro e w2 ⟨hb2,⟨hT,rfl⟩|⟨hT,sa,sc,rfl,hs2,hlt2⟩⟩
  ·have HB2:=hide (bthen HB1.out hb2)
   obtain⟨T,hTT⟩:∃ T:Nat,Z.tN m r=T:=⟨_,rfl⟩
   rw[hTT] at hT ⊢
   have HP:Hid (Z.feE b (N:Int)=(T:Int)):=by show _=_;rw[feE_rest h0 hN HE.out,HFB.out,HMM.out,hTT]
   have hne:((T:Int) != 0)=true:=by simp;omega
   have HT0:Hid ((T:Int)≠0):=by show _≠_;omega
   clear hT hTT hb2 HTS hr1 hr2
   go_wp2
   go_ret2
   exact DeltaOfAns.no HP.out HT0.out HB2.out
  ·have HB2:=hide (bthen HB1.out hb2)
   have hE0:Z.feE b (N:Int)=0:=by rw[feE_rest h0 hN HE.out,HFB.out,HMM.out,hT];rfl
   have HE0:=hide hE0
   have hFL:Z.feL b (N:Int)=Z.vals (E.zag M :: Z.sms (E.zag M) (Z.tS m r)):=by
    rw[feL_some h0 hE0]
    unfold Z.fl
    rw[fs_tS,HM.out,HMM.out,HFB.out]
   have HZ64:=hide (zag_i64 hM64)
   obtain⟨g,hg⟩:∃ g,E.zag M=g:=⟨_,rfl⟩
   have HZG:Hid (∀ w:World,Calls Tryz.prog 163 #[.int .u64 (M:Int)] w fun e w'=>e=.returned (.int .i64 g)∧w'=w):=fun w=>by
    have:=zag_any (M:Int) w (by omega) (by omega)
    rwa [Int.toNat_natCast,hg] at this
   rw[hg] at hFL HZ64
   have HFL:=hide hFL
   have HTV:=hide (tovals_any g sa m sc (Z.tS m r) w2 hs2 hlt2 HZ64.out hm4)
   clear hs2 hlt2 hb2 hE0 hFL hg HTS hT hr1 hr2
   go_wp2_with fail
   refine (HZG.out _).mono ?_
   rintro e w3 ⟨rfl,hw3⟩
   obtain rfl:w2=w3:=hw3.symm
   clear HZG
   go_wp2_with fail
   refine HTV.out.mono ?_
   rintro e w4 ⟨v4,rfl,ho4,hb4⟩
   rw[← HFL.out] at ho4
   obtain⟨xa,xc,hv4,hs4,_⟩:=SlV.of_own ho4
   have FIN:Hid (DeltaOfAns b (N:Int) w (.returned (.tuple #[v4,.int .i64 0])) w4):=⟨xa,xc,by rw[hv4,HE0.out],hs4,bthen HB2.out hb4⟩
   clear ho4 hv4 hs4 hb4 HTV
   go_wp2
   go_ret2
   exact FIN.out
 ·have HP:Hid (Z.feE b (N:Int)=(X:Int)):=by show _=_;rw[feE_num h0 hN (by rw[HE.out];exact hX0),HE.out]
  have hne:((X:Int) != 0)=true:=by simp;omega
  have HX0:Hid ((X:Int)≠0):=by show _≠_;omega
  clear hX0
  go_wp2
  go_ret2
  exact DeltaOfAns.no HP.out HX0.out HB1.out
theorem nothing_any (ao:Option Addr) (len cap:Nat) (w:World):Calls Tryz.prog 160 #[.slice ao len cap] w fun e w'=>e=.returned (.int .i64 (if len=0 then 0 else 4))∧w'=w:=by
 by_cases h:len=0
 ·subst h
  go_enter Tryz.func160,Tryz.ntmps160
  go_wp2
  go_ret
  exact⟨rfl,rfl⟩
 ·have h1:decide ((0:Int)<(len:Int))=true:=by simp;omega
  rw[if_neg h]
  have h2:0<len:=by omega
  clear h
  go_enter Tryz.func160,Tryz.ntmps160
  go_wp2
  go_ret
  exact⟨rfl,rfl⟩
theorem deof_any (ao:Option Addr) (len cap:Nat) (b:List Nat) (n:Int) (w:World) (h:Sl w .u8 ao len cap (ints b)) (h256:∀ x∈b,x<256) (hl:len≤140737488355328) :
  Calls Tryz.prog 110 #[.slice ao len cap,.int .i64 n] w (DeltaOfAns b n w):=by
 by_cases hn:n<0∨4096<n
 ·have FIN:Hid (∀ w',Below w.heap.size w w'→DeltaOfAns b n w (.returned (.tuple #[.slice none 0 0,.int .i64 2])) w'):=fun w' hb=>DeltaOfAns.many hn hb
  have HB0:Hid (Below w.heap.size w w):=Below.refl _ _
  clear h h256
  rcases hn with hn|hn
  ·go_enter Tryz.func110,Tryz.ntmps110
   go_wp2
   go_ret2
   exact FIN.out _ HB0.out
  ·have hn0:¬ n<0:=by omega
   go_enter Tryz.func110,Tryz.ntmps110
   go_wp2
   go_ret2
   exact FIN.out _ HB0.out
 ·obtain⟨N,rfl⟩:=Int.eq_ofNat_of_zero_le (show 0≤n by omega)
  by_cases h0:N=0
  ·subst h0
   have hcl:b.length=len:=by rw[← h.1,ints_length]
   have hE:Z.feE b 0=if len=0 then 0 else 4:=by
    rw[feE_none]
    cases b with
    | nil=>rw[← hcl];rfl
    | cons x t=>rw[← hcl,if_neg (by simp),if_neg (by simp)]
   obtain⟨X,hX⟩:∃ X:Int,(if len=0 then 0 else 4)=X:=⟨_,rfl⟩
   rw[hX] at hE
   have HNT:=hide (nothing_any ao len cap w)
   rw[hX] at HNT
   have FIN:Hid (∀ w',Below w.heap.size w w'→DeltaOfAns b ((0:Nat):Int) w (.returned (.tuple #[.slice none 0 0,.int .i64 X])) w'):=fun w' hb=>by
    by_cases hX0:X=0
    ·subst hX0;exact DeltaOfAns.bare hE hb
    ·exact DeltaOfAns.no hE hX0 hb
   have HB0:Hid (Below w.heap.size w w):=Below.refl _ _
   clear h h256 hX hE hcl
   go_enter Tryz.func110,Tryz.ntmps110
   go_wp2_with fail
   refine HNT.out.mono ?_
   rintro e w1 ⟨rfl,hw1⟩
   obtain rfl:w=w1:=hw1.symm
   clear HNT
   go_wp2
   go_ret2
   exact FIN.out _ HB0.out
  ·exact deof_some ao len cap b N w h h256 hl (by omega) (by omega)
end Go.Proofs.YtnkpgmibhpmdhaaGreat
namespace Go.Proofs.YtnkpgmibhpmdhaaGreat
set_option linter.unusedVariables false
set_option maxRecDepth 10000
open Go.RowKit Go.Maps
def BodyAns (l:List Z.V) (kind c:Int) (w:World) (e:Ending) (w':World):Prop:=∃ a cp,e=.returned (.tuple #[.slice a (Z.bd l kind c).length cp,.int .i64 (Z.bE l kind c)])∧Sl w' .u8 a (Z.bd l kind c).length cp (ints (Z.bd l kind c))∧Below w.heap.size w w'
def GetAns (b:List Nat) (n kind c:Int) (w:World) (e:Ending) (w':World):Prop:=∃ a cp,e=.returned (.tuple #[.slice a (Z.gL b n kind c).length cp,.int .i64 (Z.gE b n kind c)])∧SlV w' a (Z.gL b n kind c).length cp (Z.gL b n kind c)∧Below w.heap.size w w'
theorem bE_123 {l:List Z.V} {kind c:Int} (h:c=1∨c=2∨c=3):Z.bE l kind c=Z.chk l kind:=by unfold Z.bE;rw[if_pos h]
theorem bE_four (l:List Z.V):Z.bE l 1 4=Z.chk l 1:=by unfold Z.bE;rw[if_neg (by decide),if_pos ⟨rfl,rfl⟩]
theorem body_col {l:List Z.V} {kind:Int} {w:World} {e:Ending} {w':World} (h:ColBytes l kind w e w'):BodyAns l kind 1 w e w':=by
 unfold BodyAns;rw[bd_one,bE_123 (by omega)];exact h
theorem body_run {l:List Z.V} {kind:Int} {w:World} {e:Ending} {w':World} (h:RunBytes l kind w e w'):BodyAns l kind 2 w e w':=by
 unfold BodyAns;rw[bd_two,bE_123 (by omega)];exact h
theorem body_dict {l:List Z.V} {kind:Int} {w:World} {e:Ending} {w':World} (h:DictBytesAns l kind w e w'):BodyAns l kind 3 w e w':=by
 unfold BodyAns;rw[bd_three,bE_123 (by omega)];exact h
theorem body_delta {l:List Z.V} {w:World} {e:Ending} {w':World} (h:DeltaBytesAns l w e w'):BodyAns l 1 4 w e w':=by
 unfold BodyAns;rw[bd_four,bE_four];exact h
theorem get_col {b:List Nat} {n kind:Int} {w:World} {e:Ending} {w':World} (h:ColOf b n kind w e w'):GetAns b n kind 1 w e w':=by
 unfold GetAns;rw[gL_one,gE_one];exact h
theorem get_run {b:List Nat} {n kind:Int} {w:World} {e:Ending} {w':World} (h:SpreadAns b n kind w e w'):GetAns b n kind 2 w e w':=by
 unfold GetAns;rw[gL_two,gE_two]
 obtain⟨v,rfl,ho,hb⟩:=h
 obtain⟨a,c,rfl,hs,_⟩:=SlV.of_own ho
 exact⟨a,c,rfl,hs,hb⟩
theorem get_dict {b:List Nat} {n kind:Int} {w:World} {e:Ending} {w':World} (h:DictOfAns b n kind w e w'):GetAns b n kind 3 w e w':=by
 unfold GetAns;rw[gL_three,gE_three];exact h
theorem get_delta {b:List Nat} {n:Int} {w:World} {e:Ending} {w':World} (h:DeltaOfAns b n w e w'):GetAns b n 1 4 w e w':=by
 unfold GetAns;rw[gL_four,gE_four];exact h
def heldR:Value→Option (DataW Value × List MemPlace):=fun v=>some (.held v,[])
def OfK (w:World) (b:Nat) (kind:Int) (f g:FuncId) (v:Value):Prop :=
 v=.agg #[.func (.func 147) #[] #[.pointer (some ⟨b+1,0,none⟩),.pointer (some ⟨b,0,none⟩)],.func (.func 148) #[] #[.pointer (some ⟨b+2,0,none⟩),.pointer (some ⟨b,0,none⟩)]] ∧
 w.heap[b]?=some (.cells #[.int .i64 kind] 3 (0,0))∧w.heap[b+1]?=some (.cells #[.func (.func f) #[] #[]] 148 (0,0))∧w.heap[b+2]?=some (.cells #[.func (.func g) #[] #[]] 149 (0,0))
theorem OfK.kept {w w':World} {b:Nat} {kind:Int} {f g:FuncId} {v:Value} (h:OfK w b kind f g v) (hb:∀ k,b≤k→k<w.heap.size→w'.heap[k]?=w.heap[k]?):OfK w' b kind f g v:=by
 obtain⟨h1,h2,h3,h4⟩:=h
 have l2:=lt_of_block h4
 exact⟨h1,by rw[hb b (by omega) (by omega)];exact h2,by rw[hb (b+1) (by omega) (by omega)];exact h3,by rw[hb (b+2) (by omega) l2];exact h4⟩
theorem OfK.below {w w':World} {b:Nat} {kind:Int} {f g:FuncId} {v:Value} (h:OfK w b kind f g v) (hb:Below w.heap.size w w'):OfK w' b kind f g v:=h.kept fun k _ hk=>hb.block k hk
theorem OfK.grown {w w':World} {b B:Nat} {kind:Int} {f g:FuncId} {v:Value} (h:OfK w b kind f g v) (hg:w.grownBy w' (some B)) (hB:B<b):OfK w' b kind f g v :=
 h.kept fun k h1 h2=>hg.block k h2 (by intro e;injection e with e;omega)
theorem results_codec {fn:Func} {p:Tmp} (h:fn.results=#[.cell p 114]) (tmps:Array Value) (w:World) (g:Nat) {x y:Value} (hp:tmps.getD p undef=.pointer (some ⟨g,0,none⟩)) (hA:w.heap[g]?=some (.cells #[x,y] 114 (0,0))) :
  (results fn tmps).run Tryz.prog w=.ok (.agg #[x,y]) w:=by
 have hp':tmps[p]?.getD undef=.pointer (some ⟨g,0,none⟩):=by simpa using hp
 simp[results,h,hp',asAddr,run_loadVar_row w g 114 114 _ (0,0) _ hA Tryz.underlying114 rfl (by kernel_rfl)]
theorem ofkind_any (kind:Int) (f g:FuncId) (w:World) :
  Calls Tryz.prog 102 #[.int .i64 kind,.func (.func f) #[] #[],.func (.func g) #[] #[]] w fun e w'=>∃ v,e=.returned v∧OfK w' w.heap.size kind f g v∧Below w.heap.size w w':=by
 have hmf:∀ (fn:Fn) (first cap:Array Value) (w:World),(Instr.makeFunc fn first cap).run Tryz.prog w=.ok (.func fn first cap) w:=fun _ _ _ _=>rfl
 obtain⟨w3,hw3⟩:∃ w3,((w.alloc (.cells #[.int .i64 kind] 3)).alloc (.cells #[.func (.func f) #[] #[]] 148)).alloc (.cells #[.func (.func g) #[] #[]] 149)=w3:=⟨_,rfl⟩
 have hs3:w3.heap.size=w.heap.size+1+1+1:=by rw[← hw3];simp
 have b1:=heap_alloc_keep (.cells #[.func (.func g) #[] #[]] 149) (heap_alloc_keep (.cells #[.func (.func f) #[] #[]] 148) (heap_alloc_new w (.cells #[.int .i64 kind] 3)))
 have b2:=heap_alloc_keep (.cells #[.func (.func g) #[] #[]] 149) (heap_alloc_new (w.alloc (.cells #[.int .i64 kind] 3)) (.cells #[.func (.func f) #[] #[]] 148))
 have b3:=heap_alloc_new ((w.alloc (.cells #[.int .i64 kind] 3)).alloc (.cells #[.func (.func f) #[] #[]] 148)) (.cells #[.func (.func g) #[] #[]] 149)
 have hb3:Below w.heap.size w w3:=by rw[← hw3];exact (((Below.refl _ _).alloc (Nat.le_refl _) _).alloc (by simp) _).alloc (by simp;omega) _
 rw[hw3] at b1 b2 b3
 simp only[World.size_alloc] at b2 b3
 have HF:Hid (∀ x y,(w3.alloc (.cells #[x,y] 114)).heap[w.heap.size+1+1+1]?=some (.cells #[x,y] 114 (0,0))):=fun x y=>by
  have:=heap_alloc_new w3 (.cells #[x,y] 114)
  rwa [hs3] at this
 have HO:Hid (∀ x y,OfK (w3.alloc (.cells #[x,y] 114)) w.heap.size kind f g (.agg #[.func (.func 147) #[] #[.pointer (some ⟨w.heap.size+1,0,none⟩),.pointer (some ⟨w.heap.size,0,none⟩)],.func (.func 148) #[] #[.pointer (some ⟨w.heap.size+2,0,none⟩),.pointer (some ⟨w.heap.size,0,none⟩)]])):=fun x y =>
  ⟨rfl,heap_alloc_keep _ b1,heap_alloc_keep _ b2,heap_alloc_keep _ b3⟩
 have HB:Hid (∀ x y,Below w.heap.size w (w3.alloc (.cells #[x,y] 114))):=fun x y=>bthen hb3 (below_one w3 _)
 have HW3:=hide hw3
 clear b1 b2 b3 hb3 hs3 hw3
 go_enter Tryz.func102,Tryz.ntmps102
 go_wp2
 rw[HW3.out]
 exact bodyPost_ret (results_codec Tryz.results102 _ _ (w.heap.size+1+1+1) rfl (HF.out _ _)) rfl ⟨_,rfl,HO.out _ _,HB.out _ _⟩
theorem kindB_any (f:FuncId) (hcf:∀ (args:Array Value) (w:World),(callFunc f args).run Tryz.prog w=.ok (.enter f args) w) (b:Nat) (kind c:Int) (ao:Option Addr) (len cap:Nat) (l:List Z.V) (w:World)
  (h0:w.heap[b]?=some (.cells #[.int .i64 kind] 3 (0,0))) (h1:w.heap[b+1]?=some (.cells #[.func (.func f) #[] #[]] 148 (0,0))) (hQ:Calls Tryz.prog f #[.slice ao len cap,.int .i64 kind] w (BodyAns l kind c w)) :
  Calls Tryz.prog 147 #[.slice ao len cap,.pointer (some ⟨b+1,0,none⟩),.pointer (some ⟨b,0,none⟩)] w (BodyAns l kind c w):=by
 obtain⟨c0,_⟩:=cell_of_heap h0
 obtain⟨c1,_⟩:=cell_of_heap h1
 have HQ:=hide hQ
 clear h0 h1 hQ
 go_enter Tryz.func147,Tryz.ntmps147
 go_wp2_with fail
 refine HQ.out.mono ?_
 rintro e w1 ⟨a,cp,rfl,hs,hb⟩
 have HF:Hid (BodyAns l kind c w (.returned (.tuple #[.slice a (Z.bd l kind c).length cp,.int .i64 (Z.bE l kind c)])) w1):=⟨a,cp,rfl,hs,hb⟩
 clear hs hb HQ
 obtain⟨n,hn⟩:∃ n,(Z.bd l kind c).length=n:=⟨_,rfl⟩
 obtain⟨q,hq⟩:∃ n,Z.bE l kind c=n:=⟨_,rfl⟩
 rw[hn,hq] at HF ⊢
 go_wp2
 go_ret2
 exact HF.out
theorem kindO_any (f:FuncId) (hcf:∀ (args:Array Value) (w:World),(callFunc f args).run Tryz.prog w=.ok (.enter f args) w) (b:Nat) (n kind c:Int) (ao:Option Addr) (len cap:Nat) (l:List Nat) (w:World)
  (h0:w.heap[b]?=some (.cells #[.int .i64 kind] 3 (0,0))) (h1:w.heap[b+2]?=some (.cells #[.func (.func f) #[] #[]] 149 (0,0))) (hQ:Calls Tryz.prog f #[.slice ao len cap,.int .i64 n,.int .i64 kind] w (GetAns l n kind c w)) :
  Calls Tryz.prog 148 #[.slice ao len cap,.int .i64 n,.pointer (some ⟨b+2,0,none⟩),.pointer (some ⟨b,0,none⟩)] w (GetAns l n kind c w):=by
 obtain⟨c0,_⟩:=cell_of_heap h0
 obtain⟨c1,_⟩:=cell_of_heap h1
 have HQ:=hide hQ
 clear h0 h1 hQ
 go_enter Tryz.func148,Tryz.ntmps148
 go_wp2_with fail
 refine HQ.out.mono ?_
 rintro e w1 ⟨a,cp,rfl,hs,hb⟩
 have HF:Hid (GetAns l n kind c w (.returned (.tuple #[.slice a (Z.gL l n kind c).length cp,.int .i64 (Z.gE l n kind c)])) w1):=⟨a,cp,rfl,hs,hb⟩
 clear hs hb HQ
 obtain⟨m,hm⟩:∃ m,(Z.gL l n kind c).length=m:=⟨_,rfl⟩
 obtain⟨q,hq⟩:∃ q,Z.gE l n kind c=q:=⟨_,rfl⟩
 rw[hm,hq] at HF ⊢
 go_wp2
 go_ret2
 exact HF.out
theorem wpList_insert_own {H:Type} {P:Program} (w:World) {ops:Array Oper} {rest:List Oper} {o:Oper} {a:Act} {Q:Exit→Act→World→Prop}
  (hg:o.guard=none) (m x v:Operand) (t:TypeId) (hop:o.op=Op.insert t m x v)
  (k e:TypeId) (K:Keyed P k) (ht:P.underlying t=some (.map k e)) (R:Value→Option (DataW H × List MemPlace)) (b n:Nat) (D:DataW H)
  (hm:a.eval m=.map (some b)) (hown:w.ownsMap P k R b n D) (hn:n<maxLen) (key val:Value) (kl:Lit) (hx:a.eval x=key) (hv:a.eval v=val) (hkey:keyOf P k key=some kl)
  (d:DataW H) (ps:List MemPlace) (hval:R val=some (d,ps))
  (hK:∀ w',w'.ownsMap P k R b (n+1) (D.put kl d)→w.grownBy w' (some b)→wpList P ops Q rest (a.put o.dst undef) w') :
  wpList P ops Q (o :: rest) a w:=by
 refine wpList_plain hg fun K' hK'=>?_
 obtain⟨w',hrun,r1,r2⟩:=hown.update K ht hn hkey hval
 unfold Oper.wp
 simp[execOp,hop,hm,hx,hv,hrun,Result.andThen]
 exact hK' _ _ (hK w' r1 r2)
theorem ownsMap_below {H:Type} {P:Program} {k:TypeId} {R:Value→Option (DataW H × List MemPlace)} {w w':World} {b n:Nat} {D:DataW H} (h:w.ownsMap P k R b n D) (hb:Below w.heap.size w w'):w'.ownsMap P k R b n D:=by
 have hlt:=h.lt
 obtain⟨es,clock,hes,F,hs,hD⟩:=h
 exact⟨es,clock,(hb.block b hlt).trans hes,F,hs,hD⟩
theorem lawInt:Keyed Tryz.prog 3:=int_keyed Tryz.underlying3
theorem zeroCodec (w:World):(zeroValue 114).run Tryz.prog w=.ok (.agg #[.nilFunc,.nilFunc]) w:=by kernel_rfl
theorem keyI {n:Int} (h:Z.I64 n):keyOf Tryz.prog 3 (.int .i64 n)=some (.int .i64 n):=keyOf_int_mk Tryz.underlying3 (WalkArith.wf_i64 (by unfold Z.I64 at h;omega))
def Z.c4:Value:=.agg #[.func (.func 109) #[] #[],.func (.func 110) #[] #[]]
def Z.cD (kind:Int) (c1 c2 c3:Value):DataW Value:=.map ((.int .i64 1,.held c1) :: (.int .i64 2,.held c2) :: (.int .i64 3,.held c3) :: if kind=1 then [(.int .i64 4,.held Z.c4)] else [])
theorem cD_1 (kind:Int) (c1 c2 c3:Value) (z:DataW Value):(Z.cD kind c1 c2 c3).atKey (.int .i64 1) z=.held c1∧Maps.has (Z.cD kind c1 c2 c3) (.int .i64 1)=true:=by
 refine⟨by simp[Z.cD,DataW.atKey,Lit.sameKey],by simp[Z.cD,Maps.has_eq,Lit.sameKey]⟩
theorem cD_2 (kind:Int) (c1 c2 c3:Value) (z:DataW Value):(Z.cD kind c1 c2 c3).atKey (.int .i64 2) z=.held c2∧Maps.has (Z.cD kind c1 c2 c3) (.int .i64 2)=true:=by
 refine⟨by simp[Z.cD,DataW.atKey,Lit.sameKey],by simp[Z.cD,Maps.has_eq,Lit.sameKey]⟩
theorem cD_3 (kind:Int) (c1 c2 c3:Value) (z:DataW Value):(Z.cD kind c1 c2 c3).atKey (.int .i64 3) z=.held c3∧Maps.has (Z.cD kind c1 c2 c3) (.int .i64 3)=true:=by
 refine⟨by simp[Z.cD,DataW.atKey,Lit.sameKey],by simp[Z.cD,Maps.has_eq,Lit.sameKey]⟩
theorem cD_4 (c1 c2 c3:Value) (z:DataW Value):(Z.cD 1 c1 c2 c3).atKey (.int .i64 4) z=.held Z.c4∧Maps.has (Z.cD 1 c1 c2 c3) (.int .i64 4)=true:=by
 refine⟨by simp[Z.cD,DataW.atKey,Lit.sameKey],by simp[Z.cD,Maps.has_eq,Lit.sameKey]⟩
theorem cD_no {kind c:Int} (h1:c≠1) (h2:c≠2) (h3:c≠3) (h4:¬ (c=4∧kind=1)) (c1 c2 c3:Value):Maps.has (Z.cD kind c1 c2 c3) (.int .i64 c)=false:=by
 unfold Z.cD
 split
 ·rename_i hk
  have h5:c≠4:=fun e=>h4 ⟨e,hk⟩
  simp[Maps.has_eq,Lit.sameKey]
  omega
 ·simp[Maps.has_eq,Lit.sameKey]
  omega
theorem held_inj {v c:Value} {D:DataW Value} {ps:List MemPlace} (h:heldR v=some (D,ps)) (hD:D=.held c):v=c:=by
 unfold heldR at h
 subst hD
 injection h with h
 injection h with h _
 injection h
def CodecsAns (kind:Int) (w:World) (e:Ending) (w':World):Prop :=
 ∃ B b1 b2 b3 c1 c2 c3,e=.returned (.map (some B))∧w'.ownsMap Tryz.prog 3 heldR B 4 (Z.cD kind c1 c2 c3)∧OfK w' b1 kind 103 104 c1∧OfK w' b2 kind 105 106 c2∧OfK w' b3 kind 107 108 c3∧Below w.heap.size w w'
theorem put3 (c1 c2 c3:Value):(((DataW.map []).put (.int .i64 1) (.held c1)).put (.int .i64 2) (.held c2)).put (.int .i64 3) (.held c3)=DataW.map [(.int .i64 1,.held c1),(.int .i64 2,.held c2),(.int .i64 3,.held c3)]:=by
 simp[DataW.put,DataW.insert,Lit.sameKey,Lit.before]
theorem put4 (c1 c2 c3:Value):(DataW.map [(.int .i64 1,.held c1),(.int .i64 2,.held c2),(.int .i64 3,.held c3)]).put (.int .i64 4) (.held Z.c4)=Z.cD 1 c1 c2 c3:=by
 simp[DataW.put,DataW.insert,Lit.sameKey,Lit.before,Z.cD]
theorem cD_some {kind:Int} (h:kind≠1) (c1 c2 c3:Value):DataW.map [(.int .i64 1,.held c1),(.int .i64 2,.held c2),(.int .i64 3,.held c3)]=Z.cD kind c1 c2 c3:=by
 unfold Z.cD;rw[if_neg h]
set_option maxHeartbeats 1000000 in
theorem codecs_any (kind:Int) (w:World):Calls Tryz.prog 66 #[.int .i64 kind] w (CodecsAns kind w):=by
 have hmm:=@run_makeMap Tryz.prog
 have K1:=hide (keyI (n:=1) (by unfold Z.I64;omega))
 have K2:=hide (keyI (n:=2) (by unfold Z.I64;omega))
 have K3:=hide (keyI (n:=3) (by unfold Z.I64;omega))
 have K4:=hide (keyI (n:=4) (by unfold Z.I64;omega))
 have HM0:=hide (World.ownsMap_made w Tryz.prog 3 heldR)
 have HB0:=hide (below_one w (.map #[] 0))
 have hl0:w.heap.size<(w.alloc (.map #[] 0)).heap.size:=by simp
 have HL0:=hide hl0
 clear hl0
 go_enter Tryz.func66,Tryz.ntmps66
 go_wp2_with fail
 refine (ofkind_any kind 103 104 _).mono ?_
 rintro e v1 ⟨c1,rfl,o1,g1⟩
 have HOW:=hide (ownsMap_below HM0.out g1)
 have HBV:=hide (bthen HB0.out g1)
 have HO:=hide o1
 have hbl:w.heap.size<(w.alloc (.map #[] 0)).heap.size:=HL0.out
 have hlv:w.heap.size<v1.heap.size:=by have:=g1.size;omega
 clear g1 o1 HM0 HB0 HL0
 go_wp2_with (first
  | (guard_target =~ wpList _ _ _ ((⟨none,.insert _ _ _ _,_,_,_,_⟩:Oper) :: _) _ _;refine wpList_insert_own _ rfl _ _ _ 110 rfl 3 114 lawInt Tryz.underlying110 heldR w.heap.size 0 _ rfl HOW.out (by unfold maxLen;omega) _ c1 _ rfl rfl K1.out (.held c1) [] rfl ?_;intro w1 hown hgrow)
  | fail)
 have HM1:=hide hown
 have O1:=hide (HO.out.grown hgrow hbl)
 have HG1:=hide hbl
 have HB1:=hide (HBV.out.grown hgrow HBV.out.size (fun j hj=>by cases hj;exact Nat.le_refl _))
 have HL1:Hid (w.heap.size<w1.heap.size):=by show _<_;have:=hgrow.size;omega
 clear hown hgrow HOW HBV HO hbl hlv
 go_wp2_with fail
 refine (ofkind_any kind 105 106 _).mono ?_
 rintro e v2 ⟨c2,rfl,o2,g2⟩
 have HOW:=hide (ownsMap_below HM1.out g2)
 have P1:=hide (O1.out.below g2)
 have HBV:=hide (bthen HB1.out g2)
 have HO:=hide o2
 have hbl:w.heap.size<w1.heap.size:=HL1.out
 have hlv:w.heap.size<v2.heap.size:=by have:=g2.size;omega
 clear g2 o2 HM1 HB1 HL1 O1
 go_wp2_with (first
  | (guard_target =~ wpList _ _ _ ((⟨none,.insert _ _ _ _,_,_,_,_⟩:Oper) :: _) _ _;refine wpList_insert_own _ rfl _ _ _ 110 rfl 3 114 lawInt Tryz.underlying110 heldR w.heap.size 1 _ rfl HOW.out (by unfold maxLen;omega) _ c2 _ rfl rfl K2.out (.held c2) [] rfl ?_;intro w2 hown hgrow)
  | fail)
 have HM2:=hide hown
 have O1:=hide (P1.out.grown hgrow (by have:=HG1.out;omega))
 have O2:=hide (HO.out.grown hgrow hbl)
 have HG2:=hide hbl
 have HB2:=hide (HBV.out.grown hgrow HBV.out.size (fun j hj=>by cases hj;exact Nat.le_refl _))
 have HL2:Hid (w.heap.size<w2.heap.size):=by show _<_;have:=hgrow.size;omega
 clear hown hgrow HOW HBV HO hbl hlv P1
 go_wp2_with fail
 refine (ofkind_any kind 107 108 _).mono ?_
 rintro e v3 ⟨c3,rfl,o3,g3⟩
 have HOW:=hide (ownsMap_below HM2.out g3)
 have P1:=hide (O1.out.below g3)
 have P2:=hide (O2.out.below g3)
 have HBV:=hide (bthen HB2.out g3)
 have HO:=hide o3
 have hbl:w.heap.size<w2.heap.size:=HL2.out
 have hlv:w.heap.size<v3.heap.size:=by have:=g3.size;omega
 clear g3 o3 HM2 HB2 HL2 O1 O2
 by_cases hk:kind=1
 ·have hkb:(kind==1)=true:=by simpa using hk
  go_wp2_with (first
   | (guard_target =~ wpList _ _ _ ((⟨none,.insert _ _ _ _,_,_,_,_⟩:Oper) :: _) _ _;refine wpList_insert_own _ rfl _ _ _ 110 rfl 3 114 lawInt Tryz.underlying110 heldR w.heap.size 2 _ rfl HOW.out (by unfold maxLen;omega) _ c3 _ rfl rfl K3.out (.held c3) [] rfl ?_;intro w3 hown hgrow)
   | (at_mapUpdate;refine wpList_mapUpdate_own _ rfl _ _ _ 110 rfl 3 114 lawInt Tryz.underlying110 heldR w.heap.size 3 _ rfl hown (by unfold maxLen;omega) _ Z.c4 _ rfl rfl K4.out (.held Z.c4) [] rfl ?_;intro w4 hown4 hgrow4)
   | fail)
  have HM3:=hide hown
  have O1:=hide (P1.out.grown hgrow (by have:=HG1.out;omega))
  have O2:=hide (P2.out.grown hgrow (by have:=HG2.out;omega))
  have O3:=hide (HO.out.grown hgrow hbl)
  have HG3:=hide hbl
  have HB3:=hide (HBV.out.grown hgrow HBV.out.size (fun j hj=>by cases hj;exact Nat.le_refl _))
  have HL3:Hid (w.heap.size<w3.heap.size):=by show _<_;have:=hgrow.size;omega
  rw[put3,put4] at hown4
  clear hown hgrow HOW HBV HO hbl hlv P1 P2
  have Q1:=hide (O1.out.grown hgrow4 HG1.out)
  have Q2:=hide (O2.out.grown hgrow4 (by have:=HG2.out;omega))
  have Q3:=hide (O3.out.grown hgrow4 (by have:=HG3.out;omega))
  have HM4:Hid (w4.ownsMap Tryz.prog 3 heldR w.heap.size 4 (Z.cD kind c1 c2 c3)):=by rw[hk];exact hown4
  have HB4:=hide (HB3.out.grown hgrow4 HB3.out.size (fun j hj=>by cases hj;exact Nat.le_refl _))
  clear hown4 hgrow4
  go_ret
  exact⟨_,_,_,_,c1,c2,c3,rfl,HM4.out,Q1.out,Q2.out,Q3.out,HB4.out⟩
 ·have hkb:(kind==1)=false:=by simpa using hk
  go_wp2_with (first
   | (guard_target =~ wpList _ _ _ ((⟨none,.insert _ _ _ _,_,_,_,_⟩:Oper) :: _) _ _;refine wpList_insert_own _ rfl _ _ _ 110 rfl 3 114 lawInt Tryz.underlying110 heldR w.heap.size 2 _ rfl HOW.out (by unfold maxLen;omega) _ c3 _ rfl rfl K3.out (.held c3) [] rfl ?_;intro w3 hown hgrow)
   | fail)
  have HM3:=hide hown
  have O1:=hide (P1.out.grown hgrow (by have:=HG1.out;omega))
  have O2:=hide (P2.out.grown hgrow (by have:=HG2.out;omega))
  have O3:=hide (HO.out.grown hgrow hbl)
  have HG3:=hide hbl
  have HB3:=hide (HBV.out.grown hgrow HBV.out.size (fun j hj=>by cases hj;exact Nat.le_refl _))
  have HL3:Hid (w.heap.size<w3.heap.size):=by show _<_;have:=hgrow.size;omega
  clear hown hgrow HOW HBV HO hbl hlv P1 P2
  have HM4:Hid (w3.ownsMap Tryz.prog 3 heldR w.heap.size 4 (Z.cD kind c1 c2 c3)):=by
   have:=HM3.out
   rw[put3,cD_some hk] at this
   exact this.mono (by omega)
  clear HM3
  go_ret
  exact⟨_,_,_,_,c1,c2,c3,rfl,HM4.out,O1.out,O2.out,O3.out,HB3.out⟩
theorem BodyAns.no {l:List Z.V} {kind c:Int} {w w':World} (h1:c≠1) (h2:c≠2) (h3:c≠3) (h4:¬ (c=4∧kind=1)) (hb:Below w.heap.size w w'):BodyAns l kind c w (.returned (.tuple #[.slice none 0 0,.int .i64 1])) w':=by
 have e1:Z.bE l kind c=1:=by unfold Z.bE;rw[if_neg (by omega),if_neg h4]
 have e2:Z.bd l kind c=[]:=by unfold Z.bd;rw[if_neg h1,if_neg h2,if_neg h3,if_neg h4]
 unfold BodyAns;rw[e1,e2]
 exact⟨none,0,rfl,⟨rfl,Nat.le_refl _,by simp[maxLen],fun _=>rfl,.inl rfl⟩,hb⟩
theorem BodyAns.pre {l:List Z.V} {kind c:Int} {w w1:World} {e:Ending} {w':World} (h:BodyAns l kind c w1 e w') (hb:Below w.heap.size w w1):BodyAns l kind c w e w':=by
 obtain⟨a,cp,he,hs,hb2⟩:=h
 exact⟨a,cp,he,hs,bthen hb hb2⟩
theorem cD_none {kind c:Int} (h1:c≠1) (h2:c≠2) (h3:c≠3) (h4:¬ (c=4∧kind=1)) (c1 c2 c3:Value) (z:DataW Value):(Z.cD kind c1 c2 c3).atKey (.int .i64 c) z=z:=by
 have g1:¬ 1=c:=fun e=>h1 e.symm
 have g2:¬ 2=c:=fun e=>h2 e.symm
 have g3:¬ 3=c:=fun e=>h3 e.symm
 unfold Z.cD
 by_cases hk:kind=1
 ·have g4:¬ 4=c:=fun e=>h4 ⟨e.symm,hk⟩
  simp[DataW.atKey,Lit.sameKey,hk,g1,g2,g3,g4]
 ·simp[DataW.atKey,Lit.sameKey,hk,g1,g2,g3]
theorem has_if {kind c:Int} {c1 c2 c3:Value}:Maps.has (Z.cD kind c1 c2 c3) (.int .i64 c)=(decide (c=1)||decide (c=2)||decide (c=3)||(decide (c=4)&&decide (kind=1))):=by
 by_cases h1:c=1
 ·subst h1;rw[(cD_1 kind c1 c2 c3 .nil).2];rfl
 ·by_cases h2:c=2
  ·subst h2;rw[(cD_2 kind c1 c2 c3 .nil).2];rfl
  ·by_cases h3:c=3
   ·subst h3;rw[(cD_3 kind c1 c2 c3 .nil).2];rfl
   ·by_cases h4:c=4∧kind=1
    ·obtain⟨rfl,rfl⟩:=h4;rw[(cD_4 c1 c2 c3 .nil).2];rfl
    ·rw[cD_no h1 h2 h3 h4]
     by_cases h5:c=4
     ·have h6:¬ kind=1:=fun e=>h4 ⟨h5,e⟩
      simp[h1,h2,h3,h6]
     ·simp[h1,h2,h3,h5]
theorem Tryz.enter_103 (args:Array Value) (w:World):(callFunc 103 args).run Tryz.prog w=.ok (.enter 103 args) w:=enter_fn Tryz.func103 (by decide +kernel) rfl args w
theorem Tryz.enter_105 (args:Array Value) (w:World):(callFunc 105 args).run Tryz.prog w=.ok (.enter 105 args) w:=enter_fn Tryz.func105 (by decide +kernel) rfl args w
theorem Tryz.enter_107 (args:Array Value) (w:World):(callFunc 107 args).run Tryz.prog w=.ok (.enter 107 args) w:=enter_fn Tryz.func107 (by decide +kernel) rfl args w
theorem Tryz.enter_104 (args:Array Value) (w:World):(callFunc 104 args).run Tryz.prog w=.ok (.enter 104 args) w:=enter_fn Tryz.func104 (by decide +kernel) rfl args w
theorem Tryz.enter_106 (args:Array Value) (w:World):(callFunc 106 args).run Tryz.prog w=.ok (.enter 106 args) w:=enter_fn Tryz.func106 (by decide +kernel) rfl args w
theorem Tryz.enter_108 (args:Array Value) (w:World):(callFunc 108 args).run Tryz.prog w=.ok (.enter 108 args) w:=enter_fn Tryz.func108 (by decide +kernel) rfl args w
set_option maxHeartbeats 1000000 in
theorem sbody_any (ao:Option Addr) (len cap:Nat) (l:List Z.V) (kind which:Int) (w:World) (h:SlV w ao len cap l) (hI:∀ x∈l,Z.I64 x.i) (hc:Z.I64 which) :
  Calls Tryz.prog 28 #[.slice ao len cap,.int .i64 kind,.int .i64 which] w (BodyAns l kind which w):=by
 have HS:=hide h
 have HI:=hide hI
 have HK:=hide (keyI hc)
 clear h hI hc
 go_enter Tryz.func28,Tryz.ntmps28
 go_wp2_with fail
 refine (codecs_any kind _).mono ?_
 rintro e w1 ⟨B,b1,b2,b3,c1,c2,c3,rfl,hm,o1,o2,o3,hb⟩
 have HM:=hide hm
 have O1:=hide o1
 have O2:=hide o2
 have O3:=hide o3
 have HB:=hide hb
 have HS1:=hide (HS.out.below hb)
 clear hm o1 o2 o3 hb HS
 obtain⟨q,hq⟩:∃ q,Maps.has (Z.cD kind c1 c2 c3) (.int .i64 which)=q:=⟨_,rfl⟩
 have hq2:=has_if (kind:=kind) (c:=which) (c1:=c1) (c2:=c2) (c3:=c3)
 rw[hq] at hq2
 have HQ:=hide hq2
 by_cases h1:which=1
 ·subst h1
  have hat:=(cD_1 kind c1 c2 c3 (.held (.agg #[.nilFunc,.nilFunc]))).1
  have hqt:=(cD_1 kind c1 c2 c3 .nil).2
  rw[hq] at hqt
  subst hqt
  clear hq2
  obtain⟨ov,ob0,ob1,ob2⟩:=O1.out
  have HOK:=hide (O1.out)
  clear ob0 ob1 ob2
  go_wp2_with (first
   | (at_lookup;refine wpList_lookup_own_ok _ rfl _ _ 110 rfl 3 114 lawInt Tryz.underlying110 heldR (zeroCodec _) (.held (.agg #[.nilFunc,.nilFunc])) [] rfl B 4 _ rfl HM.out _ _ rfl HK.out ?_;intro v ps hv;rw[hq];obtain rfl:=held_inj hv hat;clear hv;rw[ov])
   | fail)
  refine (kindB_any 103 Tryz.enter_103 b1 kind 1 ao len cap l _ (HOK.out.below (below_one w1 _)).2.1 (HOK.out.below (below_one w1 _)).2.2.1 (((pbytes_any ao len cap l kind _ (HS1.out.below (below_one w1 _)) HI.out)).mono fun _ _ h=>body_col h)).mono ?_
  rintro e w2 hr
  have HR:=hide (BodyAns.pre hr (bthen HB.out (below_one w1 _)))
  obtain⟨a,cp,rfl,_,_⟩:=hr
  obtain⟨n,hn⟩:∃ n,(Z.bd l kind 1).length=n:=⟨_,rfl⟩
  obtain⟨x,hx⟩:∃ n,Z.bE l kind 1=n:=⟨_,rfl⟩
  rw[hn,hx] at HR ⊢
  clear hn hx
  go_wp2
  go_ret2
  exact HR.out
 by_cases h2:which=2
 ·subst h2
  have hat:=(cD_2 kind c1 c2 c3 (.held (.agg #[.nilFunc,.nilFunc]))).1
  have hqt:=(cD_2 kind c1 c2 c3 .nil).2
  rw[hq] at hqt
  subst hqt
  clear hq2
  obtain⟨ov,ob0,ob1,ob2⟩:=O2.out
  have HOK:=hide (O2.out)
  clear ob0 ob1 ob2
  go_wp2_with (first
   | (at_lookup;refine wpList_lookup_own_ok _ rfl _ _ 110 rfl 3 114 lawInt Tryz.underlying110 heldR (zeroCodec _) (.held (.agg #[.nilFunc,.nilFunc])) [] rfl B 4 _ rfl HM.out _ _ rfl HK.out ?_;intro v ps hv;rw[hq];obtain rfl:=held_inj hv hat;clear hv;rw[ov])
   | fail)
  refine (kindB_any 105 Tryz.enter_105 b2 kind 2 ao len cap l _ (HOK.out.below (below_one w1 _)).2.1 (HOK.out.below (below_one w1 _)).2.2.1 (((rlbytes_any ao len cap l kind _ (HS1.out.below (below_one w1 _)) HI.out)).mono fun _ _ h=>body_run h)).mono ?_
  rintro e w2 hr
  have HR:=hide (BodyAns.pre hr (bthen HB.out (below_one w1 _)))
  obtain⟨a,cp,rfl,_,_⟩:=hr
  obtain⟨n,hn⟩:∃ n,(Z.bd l kind 2).length=n:=⟨_,rfl⟩
  obtain⟨x,hx⟩:∃ n,Z.bE l kind 2=n:=⟨_,rfl⟩
  rw[hn,hx] at HR ⊢
  clear hn hx
  go_wp2
  go_ret2
  exact HR.out
 by_cases h3:which=3
 ·subst h3
  have hat:=(cD_3 kind c1 c2 c3 (.held (.agg #[.nilFunc,.nilFunc]))).1
  have hqt:=(cD_3 kind c1 c2 c3 .nil).2
  rw[hq] at hqt
  subst hqt
  clear hq2
  obtain⟨ov,ob0,ob1,ob2⟩:=O3.out
  have HOK:=hide (O3.out)
  clear ob0 ob1 ob2
  go_wp2_with (first
   | (at_lookup;refine wpList_lookup_own_ok _ rfl _ _ 110 rfl 3 114 lawInt Tryz.underlying110 heldR (zeroCodec _) (.held (.agg #[.nilFunc,.nilFunc])) [] rfl B 4 _ rfl HM.out _ _ rfl HK.out ?_;intro v ps hv;rw[hq];obtain rfl:=held_inj hv hat;clear hv;rw[ov])
   | fail)
  refine (kindB_any 107 Tryz.enter_107 b3 kind 3 ao len cap l _ (HOK.out.below (below_one w1 _)).2.1 (HOK.out.below (below_one w1 _)).2.2.1 (((dbytes_any ao len cap l kind _ (HS1.out.below (below_one w1 _)) HI.out)).mono fun _ _ h=>body_dict h)).mono ?_
  rintro e w2 hr
  have HR:=hide (BodyAns.pre hr (bthen HB.out (below_one w1 _)))
  obtain⟨a,cp,rfl,_,_⟩:=hr
  obtain⟨n,hn⟩:∃ n,(Z.bd l kind 3).length=n:=⟨_,rfl⟩
  obtain⟨x,hx⟩:∃ n,Z.bE l kind 3=n:=⟨_,rfl⟩
  rw[hn,hx] at HR ⊢
  clear hn hx
  go_wp2
  go_ret2
  exact HR.out
 by_cases h4:which=4∧kind=1
 ·obtain⟨rfl,rfl⟩:=h4
  have hat:=(cD_4 c1 c2 c3 (.held (.agg #[.nilFunc,.nilFunc]))).1
  have hqt:=(cD_4 c1 c2 c3 .nil).2
  rw[hq] at hqt
  subst hqt
  clear hq2
  go_wp2_with (first
   | (at_lookup;refine wpList_lookup_own_ok _ rfl _ _ 110 rfl 3 114 lawInt Tryz.underlying110 heldR (zeroCodec _) (.held (.agg #[.nilFunc,.nilFunc])) [] rfl B 4 _ rfl HM.out _ _ rfl HK.out ?_;intro v ps hv;rw[hq];obtain rfl:=held_inj hv hat;clear hv;unfold Z.c4)
   | fail)
  refine ((debytes_any ao len cap l _ (HS1.out.below (below_one w1 _)) HI.out).mono fun _ _ h=>body_delta h).mono ?_
  rintro e w2 hr
  have HR:=hide (BodyAns.pre hr (bthen HB.out (below_one w1 _)))
  obtain⟨a,cp,rfl,_,_⟩:=hr
  obtain⟨n,hn⟩:∃ n,(Z.bd l 1 4).length=n:=⟨_,rfl⟩
  obtain⟨x,hx⟩:∃ n,Z.bE l 1 4=n:=⟨_,rfl⟩
  rw[hn,hx] at HR ⊢
  clear hn hx
  go_wp2
  go_ret2
  exact HR.out
 have hqf:=cD_no h1 h2 h3 h4 c1 c2 c3
 rw[hq] at hqf
 subst hqf
 clear hq2
 have hat:=cD_none h1 h2 h3 h4 c1 c2 c3 (.held (.agg #[.nilFunc,.nilFunc]))
 have HN:=hide (BodyAns.no (l:=l) (w:=w) h1 h2 h3 h4 (bthen HB.out (below_one w1 (.cells #[.nilFunc,.nilFunc] 114))))
 go_wp2_with (first
  | (at_lookup;refine wpList_lookup_own_ok _ rfl _ _ 110 rfl 3 114 lawInt Tryz.underlying110 heldR (zeroCodec _) (.held (.agg #[.nilFunc,.nilFunc])) [] rfl B 4 _ rfl HM.out _ _ rfl HK.out ?_;intro v ps hv;rw[hq];obtain rfl:=held_inj hv hat;clear hv)
  | fail)
 go_ret2
 exact HN.out
end Go.Proofs.YtnkpgmibhpmdhaaGreat

/- Contracts and plain facts, one behind the other: XG XH KC KE -/
import Derived.Test.YtnkpgmibhpmdhaaGreatBeBC
namespace Go.Proofs.YtnkpgmibhpmdhaaGreat
set_option linter.unusedVariables false
set_option maxRecDepth 10000
open Go.RowKit
def ToCodesAns (b:List Nat) (n kind:Int) (w:World) (e:Ending) (w':World):Prop:=∃ a1 c1 a2 c2,e=.returned (.tuple #[.slice a1 (Z.dWs b n kind).length c1,.slice a2 (Z.dCs b n kind).length c2,.int .i64 (Z.dE b n kind)]) ∧
 SlV w' a1 (Z.dWs b n kind).length c1 (Z.dWs b n kind)∧Sl w' .u64 a2 (Z.dCs b n kind).length c2 (ints (Z.dCs b n kind))∧Below w.heap.size w w'
theorem ToCodesAns.no {b:List Nat} {n kind E:Int} {w w':World} (h:Z.dE b n kind=E) (h0:E≠0) (hb:Below w.heap.size w w'):ToCodesAns b n kind w (.returned (.tuple #[.slice none 0 0,.slice none 0 0,.int .i64 E])) w':=by
 obtain⟨h1,h2,_⟩:=dWs_bad (b:=b) (n:=n) (kind:=kind) (by rw[h];exact h0)
 unfold ToCodesAns;rw[h1,h2,h]
 exact⟨none,0,none,0,rfl,SlV.nil _,Sl.nil _ _,hb⟩
theorem dE_words {b:List Nat} {N:Nat} {kind:Int} (h:Z.kindOk kind=true) (hN:N≤4096) (h1:Z.dX kind N b≠0):Z.dE b (N:Int) kind=((Z.dX kind N b:Nat):Int):=by rw[dE_is h hN,dN_words h1]
theorem unp_dwd {b:List Nat} {N M:Nat} (hN:N≤4096) (hM:M≤4096):unpArg (N:Int) ((Z.dwd M:Nat):Int)=true:=by
 rw[unpArg_iff]
 have:=dwd_le hM
 omega
theorem dE_bits {b:List Nat} {N:Nat} {kind:Int} (h:Z.kindOk kind=true) (hN:N≤4096) (h1:Z.dX kind N b=0) (h2:unpC (Z.dR kind b) (N:Int) ((Z.dwd (E.gN b):Nat):Int)≠0):Z.dE b (N:Int) kind=unpC (Z.dR kind b) (N:Int) ((Z.dwd (E.gN b):Nat):Int):=by
 have hM:=dX_zero h1
 unfold unpC at h2 ⊢
 rw[unp_dwd (b:=b) hN (by omega),if_pos rfl,Int.toNat_natCast,Int.toNat_natCast] at h2 ⊢
 rw[dE_is h hN,dN_codes h1,if_pos (by omega)]
theorem unp_zero {b:List Nat} {N:Nat} {kind:Int} (hN:N≤4096) (h1:Z.dX kind N b=0) (h2:unpC (Z.dR kind b) (N:Int) ((Z.dwd (E.gN b):Nat):Int)=0):jb (Z.dR kind b) (N*Z.dwd (E.gN b))=0∧unpL (Z.dR kind b) (N:Int) ((Z.dwd (E.gN b):Nat):Int)=ints (Z.dC kind N b):=by
 have hM:=dX_zero h1
 unfold unpC at h2
 rw[unp_dwd (b:=b) hN (by omega),if_pos rfl,Int.toNat_natCast,Int.toNat_natCast] at h2
 have hj:jb (Z.dR kind b) (N*Z.dwd (E.gN b))=0:=by omega
 refine⟨hj,?_⟩
 unfold unpL Z.dC
 rw[unp_dwd (b:=b) hN (by omega),Int.toNat_natCast,Int.toNat_natCast,hj,if_pos (by decide),nums_nat]
theorem dE_codes {b:List Nat} {N:Nat} {kind:Int} (h:Z.kindOk kind=true) (hN:N≤4096) (h1:Z.dX kind N b=0) (h2:unpC (Z.dR kind b) (N:Int) ((Z.dwd (E.gN b):Nat):Int)=0):Z.dE b (N:Int) kind=if Z.cdOk (E.gN b) (Z.dC kind N b)=false then 4 else 0:=by
 rw[dE_is h hN,dN_codes h1,if_neg (by rw[(unp_zero hN h1 h2).1];simp)]
 split<;>rfl
theorem dC_lt {kind:Int} {N:Nat} {b:List Nat} (hM:E.gN b≤4096):∀ x∈Z.dC kind N b,x<18446744073709551616:=by
 intro x hx
 unfold Z.dC at hx
 obtain⟨y,hy,rfl⟩:=List.mem_map.1 hx
 have:=(In64_nums (Z.dR kind b) N (Z.dwd (E.gN b)) (by have:=dwd_le hM;omega)).1 y hy
 omega
set_option maxHeartbeats 2000000 in
theorem tocodes_some (ao:Option Addr) (len cap:Nat) (b:List Nat) (N:Nat) (kind:Int) (w:World) (h:Sl w .u8 ao len cap (ints b)) (h256:∀ x∈b,x<256) (hm:len≤140737488355328) (hN:N≤4096) (hk:Z.kindOk kind=true) :
  Calls Tryz.prog 157 #[.slice ao len cap,.int .i64 (N:Int),.int .i64 kind] w (ToCodesAns b (N:Int) kind w):=by
 have HS:=hide h
 have H256:=hide h256
 have HK:=hide hk
 have HCK:Hid (Calls Tryz.prog 26 #[.slice none 0 0,.int .i64 kind] w fun e w'=>e=.returned (.int .i64 0)∧Below w.heap.size w w'):=by
  have:=check_any none 0 0 [] kind w (SlV.nil _) (by simp)
  rwa [chk_yes hk (by simp) rfl rfl] at this
 have hd1:decide ((N:Int)<0)=false:=by simp
 have hd2:decide ((4096:Int)<(N:Int))=false:=by simp;omega
 clear h h256 hk
 go_enter Tryz.func157,Tryz.ntmps157
 go_wp2_with fail
 refine HCK.out.mono ?_
 rintro e w1 ⟨rfl,hb1⟩
 have HB1:=hide hb1
 have HTW:=hide (towords_any ao len cap b N kind w1 (HS.out.below hb1) H256.out (by omega) hN (kind_cases HK.out))
 clear hb1 HCK
 go_wp2_with fail
 refine HTW.out.mono ?_
 rintro e w2 ⟨hb2,hh⟩
 have HB2:=hide (bthen HB1.out hb2)
 have HB12:=hide hb2
 clear hb2 HTW
 rcases hh with ⟨hx,rfl⟩|⟨hx,v,a,c,rfl,ho,hs⟩
 ·obtain⟨y,hy⟩:∃ y:Int,((Z.dX kind N b:Nat):Int)=y:=⟨_,rfl⟩
  have hy0:y≠0:=by omega
  have HY0:=hide hy0
  have hyb:(y != 0)=true:=by simpa using hy0
  have HP:Hid (Z.dE b (N:Int) kind=y):=by show _=_;rw[dE_words HK.out hN hx,hy]
  rw[hy]
  clear hy hx hy0
  go_wp2
  go_ret3
  exact ToCodesAns.no HP.out HY0.out HB2.out
 ·have hM:E.gN b≤N:=dX_zero hx
  have hwl:(Z.dW kind b).length=E.gN b:=dW_length kind b
  obtain⟨ra,rc,hv,hsl,_⟩:=SlV.of_own ho
  rw[hwl] at hv hsl
  subst hv
  obtain⟨M,hMM⟩:∃ M,E.gN b=M:=⟨_,rfl⟩
  rw[hMM] at hM hsl ⊢
  have hrl:(Z.dR kind b).length≤140737488355328:=by
   unfold Z.dR
   have h1:=pR_len kind (E.gN b) (b.drop (E.gK b))
   rw[List.length_drop] at h1
   have h2:b.length=len:=by rw[← HS.out.1,ints_length]
   omega
  have hr256:∀ x∈Z.dR kind b,x<256:=pR_lt _ _ fun x hx=>H256.out x (List.mem_of_mem_drop hx)
  have HX:=hide hx
  have HMM:=hide hMM
  have HSL:=hide hsl
  have HRS:=hide (hs.below HB12.out)
  have HR2:=hide hr256
  have HWL:=hide (hwl.trans hMM)
  obtain⟨bl,hbl⟩:∃ bl,(Z.dR kind b).length=bl:=⟨_,rfl⟩
  rw[hbl] at HRS hrl ⊢
  obtain⟨k,hk⟩:∃ k:Nat,Z.dwd M=k:=⟨_,rfl⟩
  have HKW:=hide hk
  have HDW:Hid (∀ w:World,Calls Tryz.prog 156 #[.slice ra M rc] w fun e w'=>e=.returned (.int .i64 (k:Int))∧Below w.heap.size w w'):=by
   intro w;rw[← hk];exact dwidth_any ra M rc w (by omega)
  clear hsl hs hr256 hwl hx hMM ho hbl hk
  go_wp2_with fail
  refine (HDW.out _).mono ?_
  rintro e w3 ⟨rfl,hb3⟩
  have HRS3:=hide (HRS.out.below hb3)
  have HSL3:=hide (HSL.out.below hb3)
  have HB3:=hide (bthen HB2.out hb3)
  clear hb3 HDW HRS HSL
  go_wp2_with fail
  refine (unpack_u a bl c (Z.dR kind b) (N:Int) (k:Int) w3 HRS3.out HR2.out hrl).mono ?_
  rintro e w4 ⟨v4,rfl,ho4,hb4⟩
  have HSL4:=hide (HSL3.out.below hb4)
  have HB4:=hide (bthen HB3.out hb4)
  obtain⟨C,hC⟩:∃ C,unpC (Z.dR kind b) (N:Int) (k:Int)=C:=⟨_,rfl⟩
  rw[hC]
  have HCC:Hid (unpC (Z.dR kind b) (N:Int) ((Z.dwd (E.gN b):Nat):Int)=C):=by show _=_;rw[HMM.out,HKW.out];exact hC
  by_cases hC0:C=0
  ·subst hC0
   obtain⟨hj,hl⟩:=unp_zero hN HX.out HCC.out
   rw[HMM.out,HKW.out] at hl
   rw[hl] at ho4
   obtain⟨ax,cx,hv,hsx,_⟩:=Sl.of_owns ho4
   have hcl:(ints (Z.dC kind N b)).length=N:=by rw[ints_length,dC_length]
   rw[hcl] at hv hsx
   subst hv
   have HSX:=hide hsx
   have HJA:=hide (djust_any ax N cx (Z.dC kind N b) M w4 hsx (dC_lt (by rw[HMM.out];omega)) (by omega) (by omega))
   have HDE:Hid (Z.dE b (N:Int) kind=if Z.cdOk M (Z.dC kind N b)=false then 4 else 0):=by
    have:=dE_codes HK.out hN HX.out HCC.out
    rwa [HMM.out] at this
   clear hj hl ho4 hsx hcl hb4 hC HSL3 HRS3
   go_wp2_with fail
   refine HJA.out.mono ?_
   rintro e w5 ⟨rfl,hb5⟩
   have HSL5:=hide (HSL4.out.below hb5)
   have HSX5:=hide (HSX.out.below hb5)
   have HB5:=hide (bthen HB4.out hb5)
   clear hb5 HJA HSL4 HSX HB4 HB3 HB2
   cases hq:Z.cdOk M (Z.dC kind N b) with
   | true =>
    have HP:Hid (Z.dE b (N:Int) kind=0):=by show _=_;rw[HDE.out,hq];rfl
    have hw:Z.dWs b (N:Int) kind=Z.dW kind b:=by unfold Z.dWs;rw[if_pos HP.out]
    have hc:Z.dCs b (N:Int) kind=Z.dC kind N b:=by unfold Z.dCs;rw[if_pos HP.out,Int.toNat_natCast]
    have FIN:Hid (ToCodesAns b (N:Int) kind w (.returned (.tuple #[.slice ra M rc,.slice ax N cx,.int .i64 0])) w5):=by
     refine⟨ra,rc,ax,cx,?_,?_,?_,HB5.out⟩
     ·rw[hw,hc,HWL.out,dC_length,HP.out]
     ·rw[hw,HWL.out];exact HSL5.out
     ·rw[hc,dC_length];exact HSX5.out
    clear hq hw hc
    go_wp2
    go_ret3
    exact FIN.out
   | false =>
    have HP:Hid (Z.dE b (N:Int) kind=4):=by show _=_;rw[HDE.out,hq];rfl
    clear hq
    go_wp2
    go_ret3
    exact ToCodesAns.no HP.out (by decide) HB5.out
  ·have hyb:(C != 0)=true:=by simpa using hC0
   have HC0:=hide hC0
   have HP:Hid (Z.dE b (N:Int) kind=C):=by show _=_;rw[dE_bits HK.out hN HX.out (by rw[HCC.out];exact hC0),HCC.out]
   clear hC hC0 ho4 hb4
   go_wp2
   go_ret3
   exact ToCodesAns.no HP.out HC0.out HB4.out
theorem tocodes_any (ao:Option Addr) (len cap:Nat) (b:List Nat) (n kind:Int) (w:World) (h:Sl w .u8 ao len cap (ints b)) (h256:∀ x∈b,x<256) (hm:len≤140737488355328) :
  Calls Tryz.prog 157 #[.slice ao len cap,.int .i64 n,.int .i64 kind] w (ToCodesAns b n kind w):=by
 cases hk:Z.kindOk kind with
 | false =>
  have HP:Hid (Z.dE b n kind=1):=dE_kind hk
  have HCK:Hid (Calls Tryz.prog 26 #[.slice none 0 0,.int .i64 kind] w fun e w'=>e=.returned (.int .i64 1)∧Below w.heap.size w w'):=by
   have:=check_any none 0 0 [] kind w (SlV.nil _) (by simp)
   rwa [chk_kind hk] at this
  clear hk h h256
  go_enter Tryz.func157,Tryz.ntmps157
  go_wp2_with fail
  refine HCK.out.mono ?_
  rintro e w1 ⟨rfl,hb1⟩
  have HB1:=hide hb1
  clear hb1 HCK
  go_wp2
  go_ret3
  exact ToCodesAns.no HP.out (by decide) HB1.out
 | true =>
  by_cases hn:n<0∨4096<n
  ·have HP:Hid (Z.dE b n kind=2):=dE_many hk hn
   have HCK:Hid (Calls Tryz.prog 26 #[.slice none 0 0,.int .i64 kind] w fun e w'=>e=.returned (.int .i64 0)∧Below w.heap.size w w'):=by
    have:=check_any none 0 0 [] kind w (SlV.nil _) (by simp)
    rwa [chk_yes hk (by simp) rfl rfl] at this
   clear hk h h256
   rcases hn with hn|hn
   ·go_enter Tryz.func157,Tryz.ntmps157
    go_wp2_with fail
    refine HCK.out.mono ?_
    rintro e w1 ⟨rfl,hb1⟩
    have HB1:=hide hb1
    clear hb1 HCK
    go_wp2
    go_ret3
    exact ToCodesAns.no HP.out (by decide) HB1.out
   ·have hn0:¬ n<0:=by omega
    go_enter Tryz.func157,Tryz.ntmps157
    go_wp2_with fail
    refine HCK.out.mono ?_
    rintro e w1 ⟨rfl,hb1⟩
    have HB1:=hide hb1
    clear hb1 HCK
    go_wp2
    go_ret3
    exact ToCodesAns.no HP.out (by decide) HB1.out
  ·obtain⟨N,rfl⟩:=Int.eq_ofNat_of_zero_le (show 0≤n by omega)
   exact tocodes_some ao len cap b N kind w h h256 hm (by omega) hk
def DictOfAns (b:List Nat) (n kind:Int) (w:World) (e:Ending) (w':World):Prop:=∃ a c,e=.returned (.tuple #[.slice a (Z.dVs b n kind).length c,.int .i64 (Z.dE b n kind)])∧SlV w' a (Z.dVs b n kind).length c (Z.dVs b n kind)∧Below w.heap.size w w'
theorem DictOfAns.no {b:List Nat} {n kind E:Int} {w w':World} (h:Z.dE b n kind=E) (h0:E≠0) (hb:Below w.heap.size w w'):DictOfAns b n kind w (.returned (.tuple #[.slice none 0 0,.int .i64 E])) w':=by
 obtain⟨_,_,h3⟩:=dWs_bad (b:=b) (n:=n) (kind:=kind) (by rw[h];exact h0)
 unfold DictOfAns;rw[h3,h]
 exact⟨none,0,rfl,SlV.nil _,hb⟩
def Z.dF (ws:List Z.V) (cs:List Nat) (N j:Nat):List Z.V:=Z.dV ws (cs.take j)++List.replicate (N - j) Z.z0
theorem dF_length {ws:List Z.V} {cs:List Nat} {N j:Nat} (hc:cs.length=N) (h:j≤N):(Z.dF ws cs N j).length=N:=by
 unfold Z.dF;rw[List.length_append,dV_length,List.length_take,List.length_replicate];omega
theorem dF_at {ws:List Z.V} {cs:List Nat} {N j:Nat} (hc:cs.length=N) (h:j<N):(Z.dF ws cs N j)[j]?=some Z.z0:=by
 unfold Z.dF
 have h1:(Z.dV ws (cs.take j)).length=j:=by rw[dV_length,List.length_take];omega
 rw[List.getElem?_append_right (by omega),h1,Nat.sub_self,show N - j=(N - (j+1))+1 by omega,List.replicate_succ]
 rfl
theorem dF_set {ws:List Z.V} {cs:List Nat} {N j x:Nat} {y:Z.V} (hc:cs.length=N) (h:j<N) (hx:cs[j]?=some x) (hy:ws[x]?=some y):(Z.dF ws cs N j).set j y=Z.dF ws cs N (j+1):=by
 unfold Z.dF
 have h1:(Z.dV ws (cs.take j)).length=j:=by rw[dV_length,List.length_take];omega
 rw[show N - j=(N - (j+1))+1 by omega,List.replicate_succ,List.set_append_right _ _ (by omega),h1,Nat.sub_self,List.set_cons_zero,List.take_add_one,hx]
 unfold Z.dV
 rw[List.map_append]
 simp[hy]
theorem dE_ok {b:List Nat} {n kind:Int} (h:Z.dE b n kind=0):0≤n∧n≤4096∧(Z.dWs b n kind).length≤4096∧((Z.dCs b n kind).length:Int)=n∧∀ x∈Z.dCs b n kind,x<(Z.dWs b n kind).length:=by
 obtain⟨h1,h2,h3,h4⟩:=dE_zero h
 have hw:Z.dWs b n kind=Z.dW kind b:=by unfold Z.dWs;rw[if_pos h]
 have hc:Z.dCs b n kind=Z.dC kind n.toNat b:=by unfold Z.dCs;rw[if_pos h]
 have hm:=h4.most
 refine⟨h2,h3,by rw[hw,dW_length];omega,by rw[hc,dC_length];omega,?_⟩
 rw[hc,hw,dW_length]
 exact (cdOk_iff.1 h4.code).1
set_option maxHeartbeats 2000000 in
theorem dof_any (ao:Option Addr) (len cap:Nat) (b:List Nat) (n kind:Int) (w:World) (h:Sl w .u8 ao len cap (ints b)) (h256:∀ x∈b,x<256) (hm:len≤140737488355328) :
  Calls Tryz.prog 108 #[.slice ao len cap,.int .i64 n,.int .i64 kind] w (DictOfAns b n kind w):=by
 obtain⟨i0,hi0,hz0,hz1,hz2⟩:=info_parts Tryz.infoVal
 have HTC:=hide (tocodes_any ao len cap b n kind w h h256 hm)
 clear h h256
 go_enter Tryz.func108,Tryz.ntmps108
 go_wp2_with fail
 refine HTC.out.mono ?_
 rintro e w1 ⟨a1,c1,a2,c2,rfl,hs1,hs2,hb1⟩
 have HB1:=hide hb1
 clear hb1 HTC
 obtain⟨X,hX⟩:∃ X,Z.dE b n kind=X:=⟨_,rfl⟩
 rw[hX]
 have HX:=hide hX
 by_cases hX0:X=0
 ·subst hX0
  obtain⟨g0,g1,g2,g3,g4⟩:=dE_ok hX
  obtain⟨N,rfl⟩:=Int.eq_ofNat_of_zero_le g0
  have hN:N≤4096:=by omega
  obtain⟨ws,hws⟩:∃ ws,Z.dWs b (N:Int) kind=ws:=⟨_,rfl⟩
  obtain⟨cs,hcs⟩:∃ cs,Z.dCs b (N:Int) kind=cs:=⟨_,rfl⟩
  have hdv:Z.dVs b (N:Int) kind=Z.dV ws cs:=by unfold Z.dVs;rw[hws,hcs]
  rw[hws] at hs1 g2 g4 ⊢
  rw[hcs] at hs2 g3 g4 ⊢
  have hcn:cs.length=N:=by omega
  rw[hcn] at hs2 ⊢
  obtain⟨M,hM⟩:∃ M,ws.length=M:=⟨_,rfl⟩
  rw[hM] at hs1 g2 g4 ⊢
  have HS1:=hide hs1
  have HS2:=hide hs2
  have HG:=hide g4
  have HCN:=hide hcn
  have HDV:=hide hdv
  clear hs1 hs2 g0 g1 g3 g4 hws hcs hcn hdv hX hM
  go_wp2_with (at_make;refine wpList_make_full _ rfl _ _ 42 rfl w.heap.size 25 i0 _ 3 Tryz.underlying42 hi0 hz0 hz1 _ _ _ _ N rfl rfl rfl rfl (by rw[hz2];omega) (by unfold maxLen;omega) HB1.out.size ?_)
  intro w4 ho hg
  have hb4:Below w1.heap.size w1 w4:=(Below.refl _ _).grown hg (Nat.le_refl _) (by simp)
  have hrow0:OwnV w4 w.heap.size (.slice (some ⟨w1.heap.size,0,none⟩) N N) (Z.dF ws cs N 0):=by
   unfold OwnV
   rw[dF_length HCN.out (Nat.zero_le _)]
   unfold Z.dF
   rw[show Z.dV ws (cs.take 0)=[] from rfl,List.nil_append,Nat.sub_zero,cellsV_replicate]
   exact ho
  obtain⟨R,hR⟩:∃ R,w1.heap.size=R:=⟨_,rfl⟩
  have hRl:w.heap.size≤R:=by rw[← hR];exact HB1.out.size
  have HR0:=hide hrow0
  have HB4:=hide hb4
  rw[hR] at HR0 ⊢
  have HRR:=hide hR
  clear hrow0 ho hg hb4 hR hi0 hz0 hz1 hz2
  go_wp2_with fail
  go_loopw [29] (fun i wr=>∃ j:Nat,j≤N∧i=.int .i64 j∧Hid (OwnV wr w.heap.size (.slice (some ⟨R,0,none⟩) N N) (Z.dF ws cs N j))∧Hid (Below w1.heap.size w1 wr)) (fun i _=>N - (intOf i).toNat)
  case atStart=>exact⟨0,Nat.zero_le _,rfl,HR0,HB4⟩
  case round =>
   obtain⟨j,hj,rfl,hrow,hbw⟩:=hrel
   by_cases hjl:j<N
   ·obtain⟨bc,oc,rfl,hltc,d0⟩:=HS2.out.at hjl
    obtain⟨x,hx⟩:∃ x,cs[j]?=some x:=⟨cs[j]'(by rw[HCN.out];exact hjl),List.getElem?_eq_getElem _⟩
    have hxg:(ints cs).getD j 0=(x:Int):=by rw[ints_getD,List.getD_eq_getElem?_getD,hx];rfl
    rw[hxg] at d0
    have d1:wr.cell? ⟨bc,oc+j,none⟩=some (.int .u64 (x:Int)):=by rw[hbw.out.cell (p:=⟨bc,oc+j,none⟩) hltc];exact d0
    have hxM:x<M:=HG.out x (List.mem_of_getElem? hx)
    obtain⟨bv,ov,vk,vi,vs,rfl,hltv,hy,k1,k2,k3⟩:=HS1.out.at hxM
    have e1:wr.cell? ⟨bv,ov+x*3,none⟩=some (.int .i64 vk):=by rw[hbw.out.cell (p:=⟨bv,ov+x*3,none⟩) hltv];exact k1
    have e2:wr.cell? ⟨bv,ov+x*3+1,none⟩=some (.int .i64 vi):=by rw[hbw.out.cell (p:=⟨bv,ov+x*3+1,none⟩) hltv];exact k2
    have e3:wr.cell? ⟨bv,ov+x*3+2,none⟩=some (.string vs):=by rw[hbw.out.cell (p:=⟨bv,ov+x*3+2,none⟩) hltv];exact k3
    have hr6:=hrow.out
    unfold OwnV at hr6
    rw[dF_length HCN.out hj] at hr6
    obtain⟨z0,z1,z2⟩:=cellsV_get _ j _ (dF_at (ws:=ws) HCN.out hjl)
    have c0:=(hr6.cellAt (j*3) (by omega)).trans z0
    have c1:=(hr6.cellAt (j*3+1) (by omega)).trans z1
    have c2:=(hr6.cellAt (j*3+2) (by omega)).trans z2
    have f0:=hr6.frozenAt (j*3)
    have f1:=hr6.frozenAt (j*3+1)
    have f2:=hr6.frozenAt (j*3+2)
    have HR6:=hide hr6
    have HX:=hide hx
    have HY:=hide hy
    clear hr6 z0 z1 z2 d0 k1 k2 k3 hx hy hxg hrow
    go_wp2
    go_roundw
    case rel =>
     have hk3:Kept (fun k=>k=R) wr (((wr.setCell ⟨R,j*3,none⟩ (.int .i64 vk)).setCell ⟨R,j*3+1,none⟩ (.int .i64 vi)).setCell ⟨R,j*3+2,none⟩ (.string vs)) :=
      Kept.setCell (F:=fun k=>k=R) (p:=⟨R,j*3+2,none⟩) (Kept.setCell (F:=fun k=>k=R) (p:=⟨R,j*3+1,none⟩) (Kept.setCell (F:=fun k=>k=R) (p:=⟨R,j*3,none⟩) (Kept.refl _ _) (.inl rfl) _) (.inl rfl) _) (.inl rfl) _
     have hrb:=((((HR6.out.stored (j*3) (.int .i64 vk)).1.stored (j*3+1) (.int .i64 vi)).1).stored (j*3+2) (.string vs)).1
     refine⟨j+1,hjl,by go_num,?_,hide (hbw.out.trans (hk3.below hbw.out.size (by rintro k rfl;rw[HRR.out];exact Nat.le_refl _)))⟩
     show OwnV _ _ _ _
     unfold OwnV
     rw[← dF_set HCN.out hjl HX.out HY.out,cellsV_set _ _ _ (by rw[dF_length HCN.out hj];exact hjl),List.length_set,dF_length HCN.out hj]
     exact hrb
    case measure=>simp[intOf];omega
   ·obtain rfl:j=N:=by omega
    have hfull:Z.dF ws cs j j=Z.dVs b (j:Int) kind:=by
     rw[HDV.out]
     unfold Z.dF
     rw[Nat.sub_self,List.replicate_zero,List.append_nil,← HCN.out,List.take_length]
    have hrow1:=hrow.out
    rw[hfull] at hrow1
    have hlen:(Z.dVs b (j:Int) kind).length=j:=by rw[HDV.out,dV_length];exact HCN.out
    obtain⟨ra,rc,hv,hsl,_⟩:=SlV.of_own hrow1
    rw[hlen] at hv hsl
    injection hv with hv1 _ hv3
    subst hv1 hv3
    have FIN:Hid (DictOfAns b (j:Int) kind w (.returned (.tuple #[.slice (some ⟨R,0,none⟩) j j,.int .i64 0])) wr):=⟨_,j,by rw[hlen,HX.out],by rw[hlen];exact hsl,bthen HB1.out hbw.out⟩
    clear hfull hrow1 hlen hsl hrow
    go_wp2
    go_ret2
    exact FIN.out
 ·have hyb:(X != 0)=true:=by simpa using hX0
  have HX0:=hide hX0
  clear hX hX0 hs1 hs2
  go_wp2
  go_ret2
  exact DictOfAns.no HX.out HX0.out HB1.out
def DeltaBytesAns (l:List Z.V) (w:World) (e:Ending) (w':World):Prop:=∃ a c,e=.returned (.tuple #[.slice a (Z.decb l).length c,.int .i64 (Z.chk l 1)])∧Sl w' .u8 a (Z.decb l).length c (ints (Z.decb l))∧Below w.heap.size w w'
theorem DeltaBytesAns.no {l:List Z.V} {E:Int} {w w':World} (h:Z.chk l 1=E) (h0:E≠0) (hb:Below w.heap.size w w'):DeltaBytesAns l w (.returned (.tuple #[.slice none 0 0,.int .i64 E])) w':=by
 unfold DeltaBytesAns;rw[decb_bad (by rw[h];exact h0),h]
 exact⟨none,0,rfl,Sl.nil _ _,hb⟩
theorem DeltaBytesAns.none {w w':World} (hb:Below w.heap.size w w'):DeltaBytesAns [] w (.returned (.tuple #[.slice none 0 0,.int .i64 0])) w':=by
 have h:Z.chk [] 1=0:=by decide
 unfold DeltaBytesAns;rw[decb_ok h,h]
 exact⟨.none,0,rfl,Sl.nil _ _,hb⟩
theorem pack_steps (l:List Z.V):packC (ints (Z.dst l)) ((wid (ints (Z.dst l)):Nat):Int)=0∧packB (ints (Z.dst l)) ((wid (ints (Z.dst l)):Nat):Int)=A.bytesOf (bitsAll (ints (Z.dst l)) (wid (ints (Z.dst l)))):=by
 have hin:=In64_ints (dst_lt l)
 have hw:=wid_le _ hin
 have ho:packOk (ints (Z.dst l)) ((wid (ints (Z.dst l)):Nat):Int)=true:=packOk_yes (by omega) (by omega) (by rw[Int.toNat_natCast];exact (fit_wid _ _ hin).2 (Nat.le_refl _))
 unfold packC packB
 rw[ho,if_pos rfl,if_pos rfl,Int.toNat_natCast]
 exact⟨rfl,rfl⟩
set_option maxHeartbeats 2000000 in
theorem debytes_ok (ao:Option Addr) (cap:Nat) (x:Z.V) (t:List Z.V) (w:World) (h:SlV w ao (t.length+1) cap (x :: t)) (hI:∀ y∈x :: t,Z.I64 y.i) (h0:Z.chk (x :: t) 1=0) :
  Calls Tryz.prog 109 #[.slice ao ((t.length+1:Nat)) cap] w (DeltaBytesAns (x :: t) w):=by
 obtain⟨l,hl0⟩:∃ l,x :: t=l:=⟨_,rfl⟩
 have hl:l.length≤4096:=by rw[← hl0];exact (chk_zero h0).2.1
 rw[hl0] at h hI h0 ⊢
 obtain⟨len,hlen⟩:∃ len,t.length+1=len:=⟨_,rfl⟩
 have hlen2:l.length=len:=by rw[← hlen,← hl0];rfl
 rw[hlen] at h ⊢
 have hlp:((len:Int)==0)=false:=by simp;omega
 have HCK:=hide (check_any _ _ _ l 1 w h hI)
 rw[h0] at HCK
 obtain⟨b,off,xk,xi,xs,rfl,hlt,hx,c1,c2,c3⟩:=h.here (j:=0) (by omega)
 have hxi:Z.V.mk xk xi xs=x:=by rw[← hl0] at hx;injection hx with hx;exact hx.symm
 have hxI:Z.I64 xi:=by have:=hI x (by rw[← hl0];simp);rw[← hxi] at this;exact this
 have HS:=hide h
 have HI:=hide hI
 have H0:=hide h0
 have HC2:Hid (w.cell? ⟨b,off+0*3+1,none⟩=some (.int .i64 xi)):=c2
 have HDEB:Hid (Z.decb l=E.leb (E.zig xi)++(E.leb (wid (ints (Z.dst l)))++A.bytesOf (bitsAll (ints (Z.dst l)) (wid (ints (Z.dst l)))))):=by
  show _=_
  rw[decb_ok h0,← hl0,Z.deb,← hxi]
 have HSL:Hid ((Z.dst l).length=len - 1):=by show _=_;rw[dst_length,hlen2]
 have hl4:len≤4096:=by omega
 have hlen1:1≤len:=by omega
 clear h hI h0 hl0 hx c1 c2 c3 hxi hlen hlen2 hl
 go_enter Tryz.func109,Tryz.ntmps109
 go_wp2_with fail
 refine HCK.out.mono ?_
 rintro e w1 ⟨rfl,hb1⟩
 have HB1:=hide hb1
 have HST:=hide (steps_any (some ⟨b,off,none⟩) len cap l w1 (HS.out.below hb1) HI.out (by omega))
 clear hb1 HCK
 go_wp2_with fail
 refine HST.out.mono ?_
 rintro e w2 ⟨sa,sc,rfl,hs2,hb2⟩
 have HB2:=hide (bthen HB1.out hb2)
 obtain⟨S,hS⟩:∃ S,Z.dst l=S:=⟨_,rfl⟩
 have hpk:=pack_steps l
 have hin:=In64_ints (dst_lt l)
 rw[hS] at hs2 hpk hin HDEB HSL ⊢
 obtain⟨sn,hsn⟩:∃ sn,S.length=sn:=⟨_,rfl⟩
 rw[hsn] at hs2 HSL ⊢
 have hsn4:sn≤4096:=by have:=HSL.out;omega
 have HS2:=hide hs2
 have HPK:=hide hpk
 have HIN:=hide hin
 obtain⟨W,hW⟩:∃ W,wid (ints S)=W:=⟨_,rfl⟩
 have hW64:W≤64:=by rw[← hW];exact wid_le _ hin
 have HWD:Hid (Calls Tryz.prog 159 #[.slice sa sn sc] w2 fun e w'=>e=.returned (.int .i64 (W:Int))∧w'=w2):=by
  have:=width_w sa sn sc (ints S) w2 hs2 (by omega) hin
  rwa [hW] at this
 rw[hW] at HPK HDEB
 have HWW:=hide hW
 clear hs2 hpk hin hS hsn hW hb2 HST
 go_wp2_with fail
 refine HWD.out.mono ?_
 rintro e w3 ⟨rfl,rfl⟩
 have HPU:=hide (pack_u sa sn sc (ints S) (W:Int) w3 HS2.out (by omega) HIN.out)
 rw[HPK.out.1] at HPU
 clear HWD
 go_wp2_with fail
 refine HPU.out.mono ?_
 rintro e w4 ⟨v4,rfl,ho4,hb4⟩
 have HB4:=hide (bthen HB2.out hb4)
 have hpl:=packB_le (ints S) (W:Int)
 rw[HS2.out.1] at hpl
 obtain⟨qa,qc,hv4,hs4,_⟩:=Sl.of_bytes ho4
 obtain⟨pk,hpk⟩:∃ pk,packB (ints S) (W:Int)=pk:=⟨_,rfl⟩
 have hpk2:=HPK.out.2
 rw[hpk] at hv4 hs4 hpl hpk2
 obtain⟨qn,hqn⟩:∃ qn,pk.length=qn:=⟨_,rfl⟩
 rw[hqn] at hv4 hs4 hpl
 subst hv4
 have HS4:=hide hs4
 have HPK2:=hide hpk2
 have d2:w4.cell? ⟨b,off+0*3+1,none⟩=some (.int .i64 xi):=by rw[HB4.out.cell (p:=⟨b,off+0*3+1,none⟩) hlt];exact HC2.out
 have hlen0:(0:Int)<(len:Int):=by omega
 have hzl:=E.zig_lt xi hxI.1 hxI.2
 have HXI:=hide hxI
 obtain⟨z,hz⟩:∃ z,E.zig xi=z:=⟨_,rfl⟩
 have HZG:Hid (∀ w,Calls Tryz.prog 71 #[.int .i64 xi] w fun e w'=>e=.returned (.int .u64 (z:Int))∧w'=w):=by
  intro w;have:=zig_any xi w HXI.out.1 HXI.out.2;rwa [hz] at this
 rw[hz] at hzl HDEB
 have HPZ:=hide (put_any (z:Int))
 have hWc:IntKind.u64.wrap (W:Int)=(W:Int):=by rw[u64_wrap];omega
 clear ho4 hs4 hqn hpk hpk2 hb4 hz HPU HPK hxI HC2
 go_wp2_with fail
 refine (HZG.out _).mono ?_
 rintro e w5 ⟨rfl,hw5⟩
 obtain rfl:w4=w5:=hw5.symm
 go_wp2_with fail
 refine (HPZ.out w4 (by omega) (by omega)).mono ?_
 rintro e w6 ⟨v6,rfl,ho6,hb6⟩
 rw[Int.toNat_natCast] at ho6
 have HB6:=hide (bthen HB4.out hb6)
 have HS6:=hide (HS4.out.below hb6)
 obtain⟨za,zc,hv6,hs6,_⟩:=Sl.of_bytes ho6
 obtain⟨zn,hzn⟩:∃ zn,(E.leb z).length=zn:=⟨_,rfl⟩
 have hz10:=E.leb_ten z (by omega)
 rw[hzn] at hv6 hs6 hz10
 subst hv6
 have HZS:=hide hs6
 have HPW:=hide (put_any (W:Int) w6 (by omega) (by omega))
 clear ho6 hs6 hzn hb6 HPZ HZG HS4
 go_wp2_with fail
 refine HPW.out.mono ?_
 rintro e w7 ⟨v7,rfl,ho7,hb7⟩
 rw[Int.toNat_natCast] at ho7
 have HB7:=hide (bthen HB6.out hb7)
 obtain⟨ra,rc,hv7,hs7,_⟩:=Sl.of_bytes ho7
 obtain⟨rn,hrn⟩:∃ rn,(E.leb W).length=rn:=⟨_,rfl⟩
 have hr10:=E.leb_ten W (by omega)
 rw[hrn] at hv7 hs7 hr10
 subst hv7
 have HCC:=hide (concat_new w7 za ra qa zn rn qn zc rc qc (E.leb z) (E.leb W) pk (HZS.out.below hb7) hs7 (HS6.out.below hb7) (by omega))
 clear ho7 hs7 hrn hb7 HPW HZS HS6
 go_wp2_with fail
 refine HCC.out.mono ?_
 rintro e w8 ⟨v8,rfl,ho8,hb8⟩
 have hdb:Z.decb l=E.leb z++E.leb W++pk:=by rw[HDEB.out,List.append_assoc,← HPK2.out]
 rw[← hdb] at ho8
 obtain⟨xa,xc,hv8,hs8,_⟩:=Sl.of_bytes ho8
 have FIN:Hid (DeltaBytesAns l w (.returned (.tuple #[v8,.int .i64 0])) w8):=⟨xa,xc,by rw[hv8,H0.out],hs8,bthen HB7.out hb8⟩
 clear ho8 hs8 hv8 hdb hb8 HCC
 go_wp2
 go_ret2
 exact FIN.out
theorem debytes_any (ao:Option Addr) (len cap:Nat) (l:List Z.V) (w:World) (h:SlV w ao len cap l) (hI:∀ x∈l,Z.I64 x.i) :
  Calls Tryz.prog 109 #[.slice ao len cap] w (DeltaBytesAns l w):=by
 obtain rfl:len=l.length:=h.1.symm
 by_cases h0:Z.chk l 1=0
 ·cases l with
  | cons x t=>exact debytes_ok ao cap x t w h hI h0
  | nil =>
   have HCK:=hide (check_any _ _ _ [] 1 w h hI)
   have FIN:Hid (∀ w',Below w.heap.size w w'→DeltaBytesAns [] w (.returned (.tuple #[.slice none 0 0,.int .i64 0])) w'):=fun w' hb=>DeltaBytesAns.none hb
   rw[h0] at HCK
   clear h hI h0
   simp only[List.length_nil] at HCK ⊢
   go_enter Tryz.func109,Tryz.ntmps109
   go_wp2_with fail
   refine HCK.out.mono ?_
   rintro e w1 ⟨rfl,hb1⟩
   replace hb1:=hide hb1
   clear HCK
   go_wp2
   go_ret2
   exact FIN.out _ hb1.out
 ·have HCK:=hide (check_any _ _ _ l 1 w h hI)
  obtain⟨E,hE⟩:∃ E,Z.chk l 1=E:=⟨_,rfl⟩
  have hE0:(E != 0)=true:=by rw[← hE];simpa using h0
  have FIN:Hid (∀ w',Below w.heap.size w w'→DeltaBytesAns l w (.returned (.tuple #[.slice none 0 0,.int .i64 E])) w'):=fun w' hb=>DeltaBytesAns.no hE (by rw[← hE];exact h0) hb
  rw[hE] at HCK
  clear h hI hE h0
  go_enter Tryz.func109,Tryz.ntmps109
  go_wp2_with fail
  refine HCK.out.mono ?_
  rintro e w1 ⟨rfl,hb1⟩
  replace hb1:=hide hb1
  clear HCK
  go_wp2
  go_ret2
  exact FIN.out _ hb1.out
def Z.tS (m:Nat) (c:List Nat):List Nat:=(nums (c.drop (E.gK c)) m (E.gN c)).map Int.toNat
def Z.tN (m:Nat) (c:List Nat):Nat:=if E.gE c≠0 then E.gE c else if 64<E.gN c then 4 else if jb (c.drop (E.gK c)) (m*E.gN c)≠0 then jb (c.drop (E.gK c)) (m*E.gN c) else if wid (ints (Z.tS m c))≠E.gN c then 4 else 0
theorem fN_tN (n:Nat) (b:List Nat):Z.fN n b=if E.gE b≠0 then E.gE b else Z.tN (n - 1) (Z.fb b):=rfl
theorem fs_tS (n:Nat) (b:List Nat):Z.fs n b=Z.tS (n - 1) (Z.fb b):=rfl
theorem tS_ints (m:Nat) (c:List Nat):ints (Z.tS m c)=nums (c.drop (E.gK c)) m (E.gN c):=nums_nat' _ _ _
theorem tS_lt {m:Nat} {c:List Nat} (hw:E.gN c≤64):∀ s∈Z.tS m c,s<18446744073709551616:=fun s hs=>by
 obtain⟨x,hx,rfl⟩:=List.mem_map.1 hs
 have:=(In64_nums (c.drop (E.gK c)) m (E.gN c) hw).1 x hx
 omega
theorem tN_num {m:Nat} {c:List Nat} (h:E.gE c≠0):Z.tN m c=E.gE c:=by unfold Z.tN;rw[if_pos h]
theorem tN_most {m:Nat} {c:List Nat} (h:E.gE c=0) (h1:64<E.gN c):Z.tN m c=4:=by unfold Z.tN;rw[if_neg (by omega),if_pos h1]
theorem tN_bits {m:Nat} {c:List Nat} (h:E.gE c=0) (h1:E.gN c≤64) (h2:jb (c.drop (E.gK c)) (m*E.gN c)≠0):Z.tN m c=jb (c.drop (E.gK c)) (m*E.gN c):=by unfold Z.tN;rw[if_neg (by omega),if_neg (by omega),if_pos h2]
theorem tN_just {m:Nat} {c:List Nat} (h:E.gE c=0) (h1:E.gN c≤64) (h2:jb (c.drop (E.gK c)) (m*E.gN c)=0) (h3:wid (ints (Z.tS m c))≠E.gN c):Z.tN m c=4:=by unfold Z.tN;rw[if_neg (by omega),if_neg (by omega),if_neg (by omega),if_pos h3]
theorem tN_ok {m:Nat} {c:List Nat} (h:E.gE c=0) (h1:E.gN c≤64) (h2:jb (c.drop (E.gK c)) (m*E.gN c)=0) (h3:wid (ints (Z.tS m c))=E.gN c):Z.tN m c=0:=by unfold Z.tN;rw[if_neg (by omega),if_neg (by omega),if_neg (by omega),if_neg (by omega)]
theorem unp_of {m:Nat} {M:Nat} (r:List Nat) (hm:m≤4096) (hM:M≤64):unpC r (m:Int) (M:Int)=((jb r (m*M):Nat):Int)∧(jb r (m*M)=0→unpL r (m:Int) (M:Int)=nums r m M):=by
 have ha:unpArg (m:Int) (M:Int)=true:=(unpArg_iff _ _).2 ⟨by omega,by omega,by omega,by omega⟩
 unfold unpC unpL
 rw[ha,if_pos rfl,Int.toNat_natCast,Int.toNat_natCast]
 exact⟨rfl,fun h=>by rw[h];rfl⟩
def ToStepsAns (c:List Nat) (m:Nat) (w:World) (e:Ending) (w':World):Prop :=
 Below w.heap.size w w'∧((Z.tN m c≠0∧e=.returned (.tuple #[.slice none 0 0,.int .i64 ((Z.tN m c:Nat):Int)])) ∨
  (Z.tN m c=0∧∃ a k,e=.returned (.tuple #[.slice a m k,.int .i64 0])∧Sl w' .u64 a m k (ints (Z.tS m c))∧∀ s∈Z.tS m c,s<18446744073709551616))
theorem ToStepsAns.no {c:List Nat} {m:Nat} {E:Int} {w w':World} (h:((Z.tN m c:Nat):Int)=E) (h0:E≠0) (hb:Below w.heap.size w w'):ToStepsAns c m w (.returned (.tuple #[.slice none 0 0,.int .i64 E])) w' :=
 ⟨hb,.inl ⟨by omega,by rw[h]⟩⟩
set_option maxHeartbeats 2000000 in
theorem tosteps_any (ao:Option Addr) (len cap:Nat) (c:List Nat) (m:Nat) (w:World) (h:Sl w .u8 ao len cap (ints c)) (h256:∀ x∈c,x<256) (hl:len≤140737488355328) (hm:m≤4096) :
  Calls Tryz.prog 161 #[.slice ao len cap,.int .i64 (m:Int)] w (ToStepsAns c m w):=by
 have hcl:c.length=len:=by rw[← h.1,ints_length]
 have HS:=hide h
 have H256:=hide h256
 have HL:=hide hcl
 clear h h256 hcl
 go_enter Tryz.func161,Tryz.ntmps161
 go_wp2_with fail
 refine (get_any _ _ _ c _ HS.out H256.out hl).mono ?_
 rintro e w1 ⟨rfl,hb1⟩
 have HB1:=hide hb1
 obtain⟨X,hX⟩:∃ X:Nat,E.gE c=X:=⟨_,rfl⟩
 obtain⟨K,hK⟩:∃ K:Nat,E.gK c=K:=⟨_,rfl⟩
 obtain⟨M,hM⟩:∃ M:Nat,E.gN c=M:=⟨_,rfl⟩
 rw[hX,hK,hM]
 have HE:=hide hX
 have HKK:=hide hK
 have HM:=hide hM
 clear hb1 hX hK hM
 by_cases hX0:X=0
 ·subst hX0
  by_cases hbig:64<M
  ·have HP:Hid (((Z.tN m c:Nat):Int)=4):=by show _=_;rw[tN_most HE.out (by rw[HM.out];exact hbig)];rfl
   go_wp2
   go_ret2
   exact ToStepsAns.no HP.out (by decide) HB1.out
  ·have hM64:M≤64:=by omega
   have hKl:K≤len:=by rw[← HKK.out,← HL.out];exact (E.gE_zero HE.out H256.out).1
   obtain⟨qa,hq,hr1,hr2⟩:=rest_of (HS.out.below HB1.out) hKl
   obtain⟨r,hr⟩:∃ d,c.drop K=d:=⟨_,rfl⟩
   rw[hr] at hq
   have hr256:∀ x∈r,x<256:=fun x hx=>H256.out x (by rw[← hr] at hx;exact List.mem_of_mem_drop hx)
   have HUP:=hide (unpack_u qa (len - K) (cap - K) r (m:Int) (M:Int) w1 hq hr256 (by omega))
   obtain⟨u1,u2⟩:=unp_of r hm hM64
   obtain⟨J,hJ⟩:∃ J,jb r (m*M)=J:=⟨_,rfl⟩
   rw[hJ] at u1 u2
   rw[u1] at HUP
   have eM:IntKind.i64.wrap (M:Int)=(M:Int):=by rw[IntKind.wrap_i64];omega
   have hjc:jb (c.drop (E.gK c)) (m*E.gN c)=J:=by rw[HKK.out,HM.out,hr,hJ]
   have HJC:=hide hjc
   have HU2:=hide u2
   have HTS:Hid (ints (Z.tS m c)=nums r m M):=by show _=_;rw[tS_ints,HKK.out,HM.out,hr]
   clear hq hr hr256 u1 u2 hJ hjc
   go_wp2_with fail
   refine HUP.out.mono ?_
   rintro e w2 ⟨v2,rfl,ho2,hb2⟩
   have HB2:=hide (bthen HB1.out hb2)
   clear hr1 hr2 hb2 HUP
   by_cases hJ0:J=0
   ·subst hJ0
    rw[HU2.out rfl] at ho2
    obtain⟨sa,sc,hv2,hs2,_⟩:=Sl.of_owns ho2
    rw[nums_length] at hv2 hs2
    subst hv2
    have hin:=In64_nums r m M hM64
    have HS2:=hide hs2
    have HIN:=hide hin.1
    obtain⟨W,hW⟩:∃ W,wid (nums r m M)=W:=⟨_,rfl⟩
    have HWD:Hid (Calls Tryz.prog 159 #[.slice sa m sc] w2 fun e w'=>e=.returned (.int .i64 (W:Int))∧w'=w2):=by
     have:=width_w sa m sc (nums r m M) w2 hs2 (by omega) hin.1
     rwa [hW] at this
    have HW:=hide hW
    clear ho2 hs2 hin hW HU2
    go_wp2_with fail
    refine HWD.out.mono ?_
    rintro e w3 ⟨rfl,rfl⟩
    clear HWD
    by_cases hWM:W=M
    ·subst hWM
     have HP:Hid (Z.tN m c=0):=tN_ok HE.out (by rw[HM.out];exact hM64) HJC.out (by rw[HTS.out,HW.out,HM.out])
     have HLT:Hid (∀ s∈Z.tS m c,s<18446744073709551616):=tS_lt (by rw[HM.out];exact hM64)
     have FIN:Hid (ToStepsAns c m w (.returned (.tuple #[.slice sa m sc,.int .i64 0])) w3):=⟨HB2.out,.inr ⟨HP.out,sa,sc,rfl,by rw[HTS.out];exact HS2.out,HLT.out⟩⟩
     go_wp2
     go_ret2
     exact FIN.out
    ·have HP:Hid (((Z.tN m c:Nat):Int)=4):=by show _=_;rw[tN_just HE.out (by rw[HM.out];exact hM64) HJC.out (by rw[HTS.out,HW.out,HM.out];exact hWM)];rfl
     have hne:((W:Int) != (M:Int))=true:=by simp;omega
     go_wp2
     go_ret2
     exact ToStepsAns.no HP.out (by decide) HB2.out
   ·have HP:Hid (((Z.tN m c:Nat):Int)=(J:Int)):=by show _=_;rw[tN_bits HE.out (by rw[HM.out];exact hM64) (by rw[HJC.out];exact hJ0),HJC.out]
    have hne:((J:Int) != 0)=true:=by simp;omega
    have HJ0:Hid ((J:Int)≠0):=by show _≠_;omega
    clear ho2 hJ0 HU2
    go_wp2
    go_ret2
    exact ToStepsAns.no HP.out HJ0.out HB2.out
 ·have HP:Hid (((Z.tN m c:Nat):Int)=(X:Int)):=by show _=_;rw[tN_num (by rw[HE.out];exact hX0),HE.out]
  have hne:((X:Int) != 0)=true:=by simp;omega
  have HX0:Hid ((X:Int)≠0):=by show _≠_;omega
  clear hX0
  go_wp2
  go_ret2
  exact ToStepsAns.no HP.out HX0.out HB1.out
end Go.Proofs.YtnkpgmibhpmdhaaGreat

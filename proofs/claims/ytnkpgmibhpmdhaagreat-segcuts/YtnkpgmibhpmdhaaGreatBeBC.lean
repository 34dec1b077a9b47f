/- Contracts and plain facts, one behind the other: XI XE WN XC XF XD -/
import Derived.Maps.OwnOps
import Derived.Maps.OwnSet
import Derived.Maps.RangeWalk
import Derived.Test.YtnkpgmibhpmdhaaGreatBeBB
namespace Go.Proofs.YtnkpgmibhpmdhaaGreat
set_option linter.unusedVariables false
set_option maxRecDepth 10000
open Go.RowKit
theorem chk_words {l:List Z.V} {kind:Int} (h:Z.chk l kind=0):Z.chk (Z.wds l) kind=0:=by
 obtain⟨h1,h2,h3,h4⟩:=chk_zero h
 have hm:∀ x∈Z.wds l,x∈l:=fun x hx=>words_mem (words_of l) hx
 exact chk_of h1 (Nat.le_trans (wds_len l) h2) (fun x hx=>h3 x (hm x hx)) (fun x hx=>h4 x (hm x hx))
theorem cdL_lt (l:List Z.V):∀ x∈Z.cdL (Z.wds l) l,x<(Z.wds l).length:=(cdOk_iff.1 (codes_ok l)).1
theorem pack_codes {l:List Z.V} (hl:l.length≤4096):packC (ints (Z.cdL (Z.wds l) l)) ((Z.dwd (Z.wds l).length:Nat):Int)=0∧packB (ints (Z.cdL (Z.wds l) l)) ((Z.dwd (Z.wds l).length:Nat):Int)=A.bytesOf (bitsAll (ints (Z.cdL (Z.wds l) l)) (Z.dwd (Z.wds l).length)):=by
 have hw:=wds_len l
 have hd:=dwd_le (n:=(Z.wds l).length) (by omega)
 have ho:packOk (ints (Z.cdL (Z.wds l) l)) ((Z.dwd (Z.wds l).length:Nat):Int)=true:=packOk_yes (by omega) (by omega) (by rw[Int.toNat_natCast];exact cI_fit (cdL_lt l))
 unfold packC packB
 rw[ho,if_pos rfl,if_pos rfl,Int.toNat_natCast]
 exact⟨rfl,rfl⟩
def DictBytesAns (l:List Z.V) (kind:Int) (w:World) (e:Ending) (w':World):Prop:=∃ a c,e=.returned (.tuple #[.slice a (Z.dcb l kind).length c,.int .i64 (Z.chk l kind)])∧Sl w' .u8 a (Z.dcb l kind).length c (ints (Z.dcb l kind))∧Below w.heap.size w w'
set_option maxHeartbeats 2000000 in
theorem dbytes_ok (ao:Option Addr) (cap:Nat) (l:List Z.V) (kind:Int) (w:World) (h:SlV w ao l.length cap l) (hI:∀ x∈l,Z.I64 x.i) (h0:Z.chk l kind=0) :
  Calls Tryz.prog 107 #[.slice ao l.length cap,.int .i64 kind] w (DictBytesAns l kind w):=by
 have hl:l.length≤4096:=(chk_zero h0).2.1
 have hwl:=wds_len l
 have HCK:=hide (check_any _ _ _ l kind w h hI)
 rw[h0] at HCK
 have HS:=hide h
 have HI:=hide hI
 have H0:=hide h0
 clear h hI h0
 obtain⟨len,hlen⟩:∃ len,l.length=len:=⟨_,rfl⟩
 rw[hlen] at hl hwl HCK HS ⊢
 have HLEN:=hide hlen
 clear hlen
 go_enter Tryz.func107,Tryz.ntmps107
 go_wp2_with fail
 refine HCK.out.mono ?_
 rintro e w1 ⟨rfl,hb1⟩
 have HB1:=hide hb1
 have HWD:=hide (words_some ao len cap l w1 (HS.out.below hb1) (by omega))
 clear hb1 HCK
 go_wp2_with fail
 refine HWD.out.mono ?_
 rintro e w2 ⟨wa,m,wc,rfl,hsw,_,hb2⟩
 have HB2:=hide (bthen HB1.out hb2)
 have hml:(Z.wds l).length=m:=hsw.1
 have hm:m≤4096:=by omega
 have HML:=hide hml
 have HSW:=hide hsw
 have HPB:=hide (pbytes_any wa m wc (Z.wds l) kind w2 hsw (fun x hx=>HI.out x (words_mem (words_of l) hx)))
 clear hsw hb2 hml HWD
 go_wp2_with fail
 refine HPB.out.mono ?_
 rintro e w3 ⟨pa,pc,rfl,hsp,hb3⟩
 rw[chk_words H0.out,cb_ok (chk_words H0.out)]
 rw[cb_ok (chk_words H0.out)] at hsp
 have HB3:=hide (bthen HB2.out hb3)
 have HSW3:=hide (HSW.out.below hb3)
 obtain⟨pn,hpn⟩:∃ pn,(Z.pb (Z.wds l)).length=pn:=⟨_,rfl⟩
 rw[hpn] at hsp ⊢
 have hpl:pn≤4235264:=by
  rw[← hpn]
  have:=pb_le (Z.wds l) (fun x hx=>HI.out x (words_mem (words_of l) hx)) (chk_zero (chk_words H0.out)).2.2.2
  have h2:=HML.out
  omega
 have HSP:=hide hsp
 have HCD:Hid (Calls Tryz.prog 155 #[.slice wa m wc,.slice ao len cap] w3 (CodesAns w3 (Z.wds l) l)):=by
  have h1:=HSW3.out
  have h2:=HS.out.below HB3.out
  rw[← HML.out] at h1 ⊢
  rw[← HLEN.out] at h2 ⊢
  exact codes_any wa wc (Z.wds l) ao cap l w3 h1 h2 (by rw[HML.out];omega) (by rw[HLEN.out];omega)
 clear hsp hb3 hpn HPB HSW
 go_wp2_with fail
 refine HCD.out.mono ?_
 rintro e w4 ⟨ca,cn,cc,rfl,hsc,hb4⟩
 rw[words_cdE l]
 have HB4:=hide (bthen HB3.out hb4)
 have HSP4:=hide (HSP.out.below hb4)
 obtain rfl:cn=len:=by rw[← hsc.1,ints_length,cdL_ok (words_cdE l),List.length_map,HLEN.out]
 have HSC:=hide hsc
 have HDW:=hide (dwidth_any wa m wc w4 (by omega))
 clear hsc hb4 HCD HSP
 go_wp2_with fail
 refine HDW.out.mono ?_
 rintro e w5 ⟨rfl,hb5⟩
 have HB5:=hide (bthen HB4.out hb5)
 have HSP5:=hide (HSP4.out.below hb5)
 have hin:In64 (ints (Z.cdL (Z.wds l) l)):=cI_in (m:=m) hm (by rw[← HML.out];exact cdL_lt l)
 have HPK:=hide (pack_u ca cn cc (ints (Z.cdL (Z.wds l) l)) ((Z.dwd m:Nat):Int) w5 (HSC.out.below hb5) (by omega) hin)
 have hpc:packC (ints (Z.cdL (Z.wds l) l)) ((Z.dwd m:Nat):Int)=0∧packB (ints (Z.cdL (Z.wds l) l)) ((Z.dwd m:Nat):Int)=A.bytesOf (bitsAll (ints (Z.cdL (Z.wds l) l)) (Z.dwd m)):=by
  have:=pack_codes (l:=l) (by rw[HLEN.out];exact hl)
  rwa [HML.out] at this
 have hpl2:=packB_le (ints (Z.cdL (Z.wds l) l)) ((Z.dwd m:Nat):Int)
 rw[HSC.out.1] at hpl2
 rw[hpc.1] at HPK
 have HPC:=hide hpc.2
 obtain⟨dw,hdw⟩:∃ dw,Z.dwd m=dw:=⟨_,rfl⟩
 have HDD:=hide hdw
 rw[hdw] at HPK hpl2 ⊢
 have HPL:=hide hpl2
 clear hb5 hin hpc hdw HDW HSC HSP4 hpl2
 go_wp2_with fail
 refine HPK.out.mono ?_
 rintro e w6 ⟨v6,rfl,ho6,hb6⟩
 have HB6:=hide (bthen HB5.out hb6)
 have HSP6:=hide (HSP5.out.below hb6)
 obtain⟨qa,qc,hv6,hs6,_⟩:=Sl.of_bytes ho6
 obtain⟨qn,hqn⟩:∃ qn,(packB (ints (Z.cdL (Z.wds l) l)) (dw:Int)).length=qn:=⟨_,rfl⟩
 have hpl2:=HPL.out
 rw[hqn] at hv6 hs6 hpl2
 clear HPL
 subst hv6
 have HS6:=hide hs6
 have HPU:=hide (put_any (m:Int) w6 (by omega) (by omega))
 have eM:IntKind.u64.wrap (m:Int)=(m:Int):=by rw[u64_wrap];omega
 clear ho6 hs6 hqn hb6 HPK HSP5
 go_wp2_with fail
 refine HPU.out.mono ?_
 rintro e w7 ⟨v7,rfl,ho7,hb7⟩
 rw[Int.toNat_natCast] at ho7
 have HB7:=hide (bthen HB6.out hb7)
 obtain⟨ra,rc,hv7,hs7,_⟩:=Sl.of_bytes ho7
 obtain⟨rn,hrn⟩:∃ rn,(E.leb m).length=rn:=⟨_,rfl⟩
 have hr10:=E.leb_ten m (by omega)
 rw[hrn] at hv7 hs7 hr10
 subst hv7
 have HCC:=hide (concat_new w7 ra pa qa rn pn qn rc pc qc (E.leb m) (Z.pb (Z.wds l)) _ hs7 (HSP6.out.below hb7) (HS6.out.below hb7) (by omega))
 clear ho7 hs7 hrn hb7 HPU HS6 HSP6
 go_wp2_with fail
 refine HCC.out.mono ?_
 rintro e w8 ⟨v8,rfl,ho8,hb8⟩
 have hdb:Z.dcb l kind=E.leb m++Z.pb (Z.wds l)++packB (ints (Z.cdL (Z.wds l) l)) (dw:Int):=by
  rw[dcb_ok H0.out]
  unfold Z.db
  rw[HML.out,HDD.out,List.append_assoc,← HDD.out,HPC.out]
 rw[← hdb] at ho8
 obtain⟨xa,xc,hv8,hs8,_⟩:=Sl.of_bytes ho8
 have FIN:Hid (DictBytesAns l kind w (.returned (.tuple #[v8,.int .i64 0])) w8):=⟨xa,xc,by rw[hv8,H0.out],hs8,bthen HB7.out hb8⟩
 clear ho8 hs8 hv8 hdb hb8 HCC
 go_wp2
 go_ret2
 exact FIN.out
theorem dbytes_any (ao:Option Addr) (len cap:Nat) (l:List Z.V) (kind:Int) (w:World) (h:SlV w ao len cap l) (hI:∀ x∈l,Z.I64 x.i) :
  Calls Tryz.prog 107 #[.slice ao len cap,.int .i64 kind] w (DictBytesAns l kind w):=by
 obtain rfl:len=l.length:=h.1.symm
 by_cases h0:Z.chk l kind=0
 ·exact dbytes_ok ao cap l kind w h hI h0
 ·have HCK:=hide (check_any _ _ _ l kind w h hI)
  obtain⟨E,hE⟩:∃ E,Z.chk l kind=E:=⟨_,rfl⟩
  have hE0:(E != 0)=true:=by rw[← hE];simpa using h0
  have FIN:Hid (∀ w',Below w.heap.size w w'→DictBytesAns l kind w (.returned (.tuple #[.slice none 0 0,.int .i64 E])) w'):=fun w' hb=>by
   unfold DictBytesAns;rw[dcb_bad h0,hE]
   exact⟨none,0,rfl,Sl.nil _ _,hb⟩
  rw[hE] at HCK
  clear h hI hE h0
  go_enter Tryz.func107,Tryz.ntmps107
  go_wp2_with fail
  refine HCK.out.mono ?_
  rintro e w1 ⟨rfl,hb1⟩
  replace hb1:=hide hb1
  clear HCK
  go_wp2
  go_ret2
  exact FIN.out _ hb1.out
theorem results_val2 {fn:Func} {p u v:Tmp} (h:fn.results=#[.cell p 25,.tmp u,.tmp v]) (tmps:Array Value) (w:World) (g:Nat) {k i:Int} {s:ByteArray} (hp:tmps.getD p undef=.pointer (some ⟨g,0,none⟩)) (hA:At w g k i s) :
  (results fn tmps).run Tryz.prog w=.ok (.tuple #[.agg #[.int .i64 k,.int .i64 i,.string s],tmps.getD u undef,tmps.getD v undef]) w:=by
 have hp':tmps[p]?.getD undef=.pointer (some ⟨g,0,none⟩):=by simpa using hp
 unfold At at hA
 simp[results,h,hp',asAddr,run_loadVar_row w g 25 25 _ (0,0) _ hA Tryz.underlying25 rfl (by kernel_rfl)]
def ToWordAns (W:World) (b:List Nat) (kind:Int) (w:World) (e:Ending) (w':World):Prop :=
 Below w.heap.size w w'∧∃ a n c,e=.returned (.tuple #[(Z.oV b kind).v,.slice a n c,.int .i64 ((Z.oE b kind:Nat):Int)])∧(Z.oE b kind=0→n=(Z.oR b kind).length∧Sl W .u8 a n c (ints (Z.oR b kind)))
set_option maxHeartbeats 1000000 in
theorem toword_any (ao:Option Addr) (len cap:Nat) (b:List Nat) (kind:Int) (w W:World) (hW:Sl W .u8 ao len cap (ints b)) (h:Sl w .u8 ao len cap (ints b)) (h256:∀ x∈b,x<256) (hm:len≤140737488355328) (hk:kind=1∨kind=2∨kind=3) :
  Calls Tryz.prog 231 #[.slice ao len cap,.int .i64 kind] w (ToWordAns W b kind w):=by
 have hl:b.length=len:=by rw[← h.1,ints_length]
 have hA:=At.new w 0 0 ⟨#[]⟩
 have b0:=below_one w (.cells #[.int .i64 0,.int .i64 0,.string ⟨#[]⟩] 25)
 obtain⟨o1,o2,o3,o4⟩:=o_ahead4 hk b
 obtain⟨Q,hQ⟩:∃ Q,min 1034 len=Q:=⟨_,rfl⟩
 have hQD:Q≤len:=by omega
 have hQ4:Q≤1034:=by omega
 have hlt:b.take Q=b.take 1034:=by
  rw[← hQ]
  by_cases h5:1034≤len
  ·rw[Nat.min_eq_left h5]
  ·rw[Nat.min_eq_right (by omega),List.take_of_length_le (by omega),List.take_of_length_le (by omega)]
 have hQl:(b.take 1034).length=Q:=by rw[List.length_take,hl,hQ]
 obtain⟨pa,hp,hp1,hp2⟩:=head_of (h.below b0) hQD
 rw[hlt] at hp
 have hmin:∀ (ts:Array TypeId) (t:TypeId) (w:World),(Builtin.min_ ts t #[.int .i64 1034,.int .i64 (len:Int)]).run Tryz.prog w=.ok (.int .i64 (Q:Int)) w:=fun ts t w=>by
  rw[run_min_int2]
  have:(if (len:Int)<1034 then (len:Int) else 1034)=(Q:Int):=by split<;>omega
  rw[this]
 have HPS:=hide hp
 have HO1:=hide o1
 have HO2:=hide o2
 have HO3:=hide o3
 have HO4:=hide o4
 have HQL:=hide hQl
 have HA:=hide hA
 have HS:=hide (h.below b0)
 have HW:=hide hW
 have H256:=hide h256
 have HL:=hide hl
 have HB0:=hide b0
 clear h hW h256 hl hA b0 hp o1 o2 o3 o4 hQl hlt hQ hk
 go_enter Tryz.func231,Tryz.ntmps231
 go_wp2_with fail
 refine (vof_any _ _ _ (b.take 1034) kind _ HPS.out (fun x hx=>H256.out x (List.mem_of_mem_take hx)) (by omega)).mono ?_
 rintro e w2 ⟨ra,rc,rfl,_,hb2⟩
 rw[HO1.out,HO2.out]
 obtain⟨n,hn⟩:∃ n,(Z.oR (b.take 1034) kind).length=n:=⟨_,rfl⟩
 obtain⟨⟨vk,vi,vs⟩,hv⟩:∃ x,Z.oV b kind=x:=⟨_,rfl⟩
 obtain⟨y,hy⟩:∃ y:Int,((Z.oE b kind:Nat):Int)=y:=⟨_,rfl⟩
 have hnQ:n≤Q:=by have:=HO4.out;rw[hn,HQL.out] at this;exact this
 obtain⟨G,hG⟩:∃ G,Q - n=G:=⟨_,rfl⟩
 have hQG:(Q:Int) - (n:Int)=(G:Int):=by omega
 have hGD:G≤len:=by omega
 obtain⟨sa,hsa,hr3,hr4⟩:=rest_of HS.out hGD
 obtain⟨sw,hsw,hw3,hw4⟩:=rest_of HW.out hGD
 have hss:sw=sa:=by
  have h1:=hw3 w
  rw[hr3 w] at h1
  injection h1 with h1
  injection h1 with h1
  exact h1.symm
 subst hss
 have HSW:Hid (Z.oE b kind=0→b.drop G=Z.oR b kind):=fun h0=>by
  have h1:=HO3.out h0
  rw[hn,HQL.out,hG] at h1
  exact h1
 have HSL:=hide hsw
 have HV:=hide hv
 have HY:=hide hy
 rw[hn,hv,hy,show (Z.V.v ⟨vk,vi,vs⟩)=.agg #[.int .i64 vk,.int .i64 vi,.string vs] from rfl]
 have b2:=below_one w2 (.cells #[.int .i64 vk,.int .i64 vi,.string vs] 25)
 have hA2:=(HA.out.below hb2).below b2
 have HA2:=hide hA2
 have HB2:=hide (bthen (bthen HB0.out hb2) b2)
 obtain⟨a0,a1,a2⟩:=hA2.cells
 obtain⟨t0,t1,t2⟩:=hA2.thawed
 obtain⟨v0,v1,v2⟩:=(At.new w2 vk vi vs).cells
 rw[← hQG] at hr3 hr4
 clear hn hv hy hb2 hA2 b2 hp1 hp2 hmin hsa hsw hw3 hw4 hG hQG HPS HO3 HS
 obtain⟨w3,hw3⟩:∃ w3,w2.alloc (.cells #[.int .i64 vk,.int .i64 vi,.string vs] 25)=w3:=⟨_,rfl⟩
 go_wp2_with fail
 rw[hw3] at v0 v1 v2 a0 a1 a2 t0 t1 t2 HA2 HB2
 clear hw3
 go_region
 have hat:At (putV w3 w.heap.size vk vi vs).drew w.heap.size vk vi vs:=HA2.out.set vk vi vs
 have hbl:Z.oE b kind=0→len - G=(Z.oR b kind).length:=fun h0=>by rw[← HSW.out h0,List.length_drop,HL.out]
 have HAT:=hide hat
 have HBF:=hide (putV_below vk vi vs HB2.out (Nat.le_refl _)).drew
 have HFI:Hid (ToWordAns W b kind w (.returned (.tuple #[.agg #[.int .i64 vk,.int .i64 vi,.string vs],.slice sw (len - G) (cap - G),.int .i64 y])) (putV w3 w.heap.size vk vi vs).drew) :=
  ⟨HBF.out,sw,len - G,cap - G,by rw[HV.out,HY.out];rfl,fun h0=>⟨hbl h0,by rw[← HSW.out h0];exact HSL.out⟩⟩
 clear hat hbl
 go_wp2
 exact bodyPost_ret (results_val2 Tryz.results231 _ _ w.heap.size rfl HAT.out) rfl HFI.out
end Go.Proofs.YtnkpgmibhpmdhaaGreat
namespace Go.Proofs.YtnkpgmibhpmdhaaGreat
set_option linter.unusedVariables false
set_option maxRecDepth 10000
open Go.RowKit Go.Sort
def DFewAns (len:Nat) (w:World) (e:Ending) (w':World):Prop:=∃ q,e=.returned (.bool q)∧(q=true→len≤1000)∧w'=w
theorem DFewAns.mk {len:Nat} {w:World} {v:Value} (q:Bool) (h0:v=.bool q) (h:q=true→len≤1000):DFewAns len w (.returned v) w:=⟨q,by rw[h0],h,rfl⟩
theorem rise_steps:∀ ws:List Z.V,Z.Rise ws↔∀ j x y,ws[j]?=some x→ws[j+1]?=some y→Z.cv x y<0
 | []=>by simp[Z.Rise]
 | [x]=>by
  constructor
  ·intro _ j a b _ h2;simp at h2
  ·intro _;simp[Z.Rise]
 | x :: y :: t=>by
  rw[← risB_iff,Z.risB,Bool.and_eq_true,decide_eq_true_eq,risB_iff (y :: t),rise_steps (y :: t)]
  constructor
  ·rintro⟨h1,h2⟩ j a b ha hb
   cases j with
   | zero=>simp at ha hb;subst ha hb;exact h1
   | succ j=>simp only[List.getElem?_cons_succ] at ha hb;exact h2 j a b ha (by simpa using hb)
  ·intro h
   exact⟨h 0 x y rfl rfl,fun j a b ha hb=>h (j+1) a b (by simpa using ha) (by simpa using hb)⟩
theorem risB_no {ws:List Z.V} {j:Nat} {x y:Z.V} (h1:ws[j]?=some x) (h2:ws[j+1]?=some y) (h:0≤Z.cv x y):Z.risB ws=false:=by
 cases hb:Z.risB ws with
 | false=>rfl
 | true =>
  have:=(rise_steps ws).1 ((risB_iff ws).1 hb) j x y h1 h2
  omega
set_option maxHeartbeats 1000000 in
theorem drise_any (ao:Option Addr) (len cap:Nat) (ws:List Z.V) (w:World) (h:SlV w ao len cap ws) (hl:len≤140737488355328) :
  Calls Tryz.prog 232 #[.slice ao len cap] w fun e w'=>e=.returned (.bool (Z.risB ws))∧Below w.heap.size w w':=by
 have HL:=hide h.1
 have HS:=hide h
 clear h
 go_enter Tryz.func232,Tryz.ntmps232
 go_wp2_with fail
 go_loopw [7] (fun i wr=>∃ j:Nat,j≤len∧i=.int .i64 j∧Hid (∀ i x y,i+1<j→ws[i]?=some x→ws[i+1]?=some y→Z.cv x y<0)∧Hid (Below w.heap.size w wr)) (fun i _=>len - (intOf i).toNat)
 case atStart=>exact⟨0,Nat.zero_le _,rfl,hide (by intro i x y h;omega),hide (Below.refl _ _)⟩
 case round =>
  obtain⟨j,hj,rfl,HR,HB⟩:=hrel
  by_cases hjl:j<len
  ·obtain⟨b,off,xk,xi,xs,rfl,hlt,hx,c1,c2,c3⟩:=HS.out.at hjl
   have d1:wr.cell? ⟨b,off+j*3,none⟩=some (.int .i64 xk):=by rw[HB.out.cell (p:=⟨b,off+j*3,none⟩) hlt];exact c1
   have d2:wr.cell? ⟨b,off+j*3+1,none⟩=some (.int .i64 xi):=by rw[HB.out.cell (p:=⟨b,off+j*3+1,none⟩) hlt];exact c2
   have d3:wr.cell? ⟨b,off+j*3+2,none⟩=some (.string xs):=by rw[HB.out.cell (p:=⟨b,off+j*3+2,none⟩) hlt];exact c3
   have HX:=hide hx
   have b1:=below_one wr (.cells #[.int .i64 xk,.int .i64 xi,.string xs] 25)
   have HB1:=hide (bthen HB.out b1)
   have HA:=hide (At.new wr xk xi xs)
   obtain⟨w1,hw1⟩:∃ w1,wr.alloc (.cells #[.int .i64 xk,.int .i64 xi,.string xs] 25)=w1:=⟨_,rfl⟩
   have HW:=hide hw1
   rw[hw1] at HB1 HA
   have g1:∀ p:BBy w1,p.v.cell? ⟨wr.heap.size,0,none⟩=some (.int .i64 xk):=fun p=>(HA.out.below p.h).cells.1
   have g2:∀ p:BBy w1,p.v.cell? ⟨wr.heap.size,1,none⟩=some (.int .i64 xi):=fun p=>(HA.out.below p.h).cells.2.1
   have g3:∀ p:BBy w1,p.v.cell? ⟨wr.heap.size,2,none⟩=some (.string xs):=fun p=>(HA.out.below p.h).cells.2.2
   have inh:Nonempty (BBy w1):=⟨⟨w1,Below.refl _ _⟩⟩
   clear c1 c2 c3 hx b1 hw1
   rcases Nat.eq_zero_or_pos j with hj0|hj0
   ·have hpos:¬ 0<j:=by omega
    have HJ:=hide hj0
    clear g1 g2 g3 hj0
    go_wp2_with fail
    rw[HW.out]
    go_quiet (fail)
    have HBN:=hide (bthen HB1.out (below_drewN (Below.refl _ _) nq))
    clear d1 d2 d3
    go_wp2
    go_roundw
    case rel=>exact⟨j+1,by omega,by go_num,hide (by have:=HJ.out;intro i x y h;omega),HBN⟩
    case measure=>simp[intOf];omega
   ·obtain⟨i,hi⟩:∃ i,j=i+1:=⟨j - 1,by omega⟩
    have e1:(j:Int) - 1=(i:Int):=by omega
    have hil:i<len:=by omega
    have e3:IntKind.i64.wrap (i:Int)=(i:Int):=by rw[IntKind.wrap_i64];omega
    obtain⟨b',off',yk,yi,ys,e,_,hy,k1,k2,k3⟩:=HS.out.at hil
    obtain⟨rfl,rfl⟩:b=b'∧off=off':=by injection e with e;injection e with e1 e2;exact⟨e1,e2⟩
    have f1:∀ p:BBy w1,p.v.cell? ⟨b,off+i*3,none⟩=some (.int .i64 yk):=fun p=>by rw[(bthen HB1.out p.h).cell (p:=⟨b,off+i*3,none⟩) hlt];exact k1
    have f2:∀ p:BBy w1,p.v.cell? ⟨b,off+i*3+1,none⟩=some (.int .i64 yi):=fun p=>by rw[(bthen HB1.out p.h).cell (p:=⟨b,off+i*3+1,none⟩) hlt];exact k2
    have f3:∀ p:BBy w1,p.v.cell? ⟨b,off+i*3+2,none⟩=some (.string ys):=fun p=>by rw[(bthen HB1.out p.h).cell (p:=⟨b,off+i*3+2,none⟩) hlt];exact k3
    obtain⟨c,hc⟩:∃ c,Z.cv ⟨yk,yi,ys⟩ ⟨xk,xi,xs⟩=c:=⟨_,rfl⟩
    have HC:Hid (∀ p:BBy w1,Calls Tryz.prog 68 #[.agg #[.int .i64 yk,.int .i64 yi,.string ys],.agg #[.int .i64 xk,.int .i64 xi,.string xs]] p.v fun e w'=>e=.returned (.int .i64 c)∧Below p.v.heap.size p.v w'):=by
     intro p;rw[← hc];exact vcompare_any yk yi ys xk xi xs p.v
    have HY:=hide hy
    have HCC:=hide hc
    have HI:=hide hi
    clear hy hc k1 k2 k3 e hi
    have hii:(i:Int)<(len:Int):=by omega
    go_wp2_with fail
    rw[HW.out]
    refine region_below (by kernel_rfl) ?_
    repeat (quiet_step (first|(go_at_call 68;refine Calls.below_of (HC.out _))))
    refine wpQuiet_nil ?_
    intro _ hw'
    obtain⟨⟨w2,hb2⟩,hw''⟩:=hw'
    subst hw''
    have HB2:=hide (bthen HB1.out hb2)
    clear hb2 HC f1 f2 f3 g1 g2 g3 d1 d2 d3
    by_cases hcn:c<0
    ·go_wp2
     go_roundw
     case rel =>
      refine⟨j+1,by omega,by go_num,hide (fun i' x y h h1 h2=>?_),HB2⟩
      by_cases hi:i'+1<j
      ·exact HR.out i' x y hi h1 h2
      ·have h3:=HI.out
       obtain rfl:i'=i:=by omega
       rw[HY.out] at h1
       rw[← h3,HX.out] at h2
       injection h1 with h1
       injection h2 with h2
       subst h1 h2
       rw[HCC.out]
       exact hcn
     case measure=>simp[intOf];omega
    ·have hc0:0≤c:=by omega
     have HN:=hide (risB_no HY.out (by rw[← HI.out];exact HX.out) (by rw[HCC.out];exact hc0))
     go_wp2
     go_ret
     exact⟨by rw[HN.out];rfl,HB2.out⟩
  ·obtain rfl:j=len:=by omega
   have hr:Z.risB ws=true:=by
    rw[risB_iff,rise_steps]
    intro i x y h1 h2
    have hlt:=(List.getElem?_eq_some_iff.1 h2).1
    exact HR.out i x y (by rw[← HL.out];exact hlt) h1 h2
   have HQ:=hide hr
   clear hr
   go_wp2
   go_ret
   exact⟨by rw[HQ.out];rfl,HB.out⟩
end Go.Proofs.YtnkpgmibhpmdhaaGreat
namespace Go.Proofs.YtnkpgmibhpmdhaaGreat
set_option linter.unusedVariables false
set_option maxRecDepth 10000
open Go.RowKit
def Z.dX (kind:Int) (n:Nat) (b:List Nat):Nat :=
 if E.gE b≠0 then E.gE b else if n<E.gN b then 4 else if Z.pE kind (E.gN b) (b.drop (E.gK b))≠0 then Z.pE kind (E.gN b) (b.drop (E.gK b)) else if Z.risB (Z.dW kind b)=false then 4 else 0
theorem dN_words {kind:Int} {n:Nat} {b:List Nat} (h:Z.dX kind n b≠0):Z.dN kind n b=Z.dX kind n b:=by
 unfold Z.dX at h ⊢
 unfold Z.dN
 repeat' split
 all_goals first|rfl|simp_all
theorem dN_codes {kind:Int} {n:Nat} {b:List Nat} (h:Z.dX kind n b=0):Z.dN kind n b=if jb (Z.dR kind b) (n*Z.dwd (E.gN b))≠0 then jb (Z.dR kind b) (n*Z.dwd (E.gN b)) else if Z.cdOk (E.gN b) (Z.dC kind n b)=false then 4 else 0:=by
 unfold Z.dX at h
 unfold Z.dN
 split at h
 ·omega
 ·split at h
  ·omega
  ·split at h
   ·omega
   ·split at h
    ·omega
    ·rename_i h1 h2 h3 h4
     rw[if_neg h1,if_neg h2,if_neg h3,if_neg h4]
theorem dX_num {kind:Int} {n:Nat} {b:List Nat} (h:E.gE b≠0):Z.dX kind n b=E.gE b:=by unfold Z.dX;rw[if_pos h]
theorem dX_many {kind:Int} {n:Nat} {b:List Nat} (h:E.gE b=0) (h1:n<E.gN b):Z.dX kind n b=4:=by unfold Z.dX;rw[if_neg (by omega),if_pos h1]
theorem dX_val {kind:Int} {n:Nat} {b:List Nat} (h:E.gE b=0) (h1:E.gN b≤n) (h2:Z.pE kind (E.gN b) (b.drop (E.gK b))≠0):Z.dX kind n b=Z.pE kind (E.gN b) (b.drop (E.gK b)):=by
 unfold Z.dX;rw[if_neg (by omega),if_neg (by omega),if_pos h2]
theorem dX_rise {kind:Int} {n:Nat} {b:List Nat} (h:E.gE b=0) (h1:E.gN b≤n) (h2:Z.pE kind (E.gN b) (b.drop (E.gK b))=0) (h3:Z.risB (Z.dW kind b)=false):Z.dX kind n b=4:=by
 unfold Z.dX;rw[if_neg (by omega),if_neg (by omega),if_neg (by omega),if_pos h3]
theorem dX_ok {kind:Int} {n:Nat} {b:List Nat} (h:E.gE b=0) (h1:E.gN b≤n) (h2:Z.pE kind (E.gN b) (b.drop (E.gK b))=0) (h3:Z.risB (Z.dW kind b)=true):Z.dX kind n b=0:=by
 unfold Z.dX;rw[if_neg (by omega),if_neg (by omega),if_neg (by omega),if_neg (by rw[h3];decide)]
theorem dX_zero {kind:Int} {n:Nat} {b:List Nat} (h:Z.dX kind n b=0):E.gN b≤n:=by
 unfold Z.dX at h
 split at h
 ·omega
 ·split at h
  ·omega
  ·omega
def ToWordsAns (b:List Nat) (N:Nat) (kind:Int) (w:World) (e:Ending) (w':World):Prop :=
 Below w.heap.size w w'∧((Z.dX kind N b≠0∧e=.returned (.tuple #[.slice none 0 0,.slice none 0 0,.int .i64 ((Z.dX kind N b:Nat):Int)])) ∨
  (Z.dX kind N b=0∧∃ v a c,e=.returned (.tuple #[v,.slice a (Z.dR kind b).length c,.int .i64 0])∧OwnV w' w.heap.size v (Z.dW kind b)∧Sl w .u8 a (Z.dR kind b).length c (ints (Z.dR kind b))))
theorem ToWordsAns.no {b:List Nat} {N:Nat} {kind E:Int} {w w':World} (h:((Z.dX kind N b:Nat):Int)=E) (h0:E≠0) (hb:Below w.heap.size w w'):ToWordsAns b N kind w (.returned (.tuple #[.slice none 0 0,.slice none 0 0,.int .i64 E])) w' :=
 ⟨hb,.inl ⟨by omega,by rw[h]⟩⟩
set_option maxHeartbeats 2000000 in
theorem towords_any (ao:Option Addr) (len cap:Nat) (b:List Nat) (N:Nat) (kind:Int) (w:World) (h:Sl w .u8 ao len cap (ints b)) (h256:∀ x∈b,x<256) (hm:len≤140737488355328) (hN:N≤4096) (hk:kind=1∨kind=2∨kind=3) :
  Calls Tryz.prog 209 #[.slice ao len cap,.int .i64 (N:Int),.int .i64 kind] w (ToWordsAns b N kind w):=by
 have hl:b.length=len:=by rw[← h.1,ints_length]
 obtain⟨i0,hi0,hz0,hz1,hz2⟩:=info_parts Tryz.infoVal
 have HS:=hide h
 have H256:=hide h256
 have HL:=hide hl
 have HK:=hide hk
 have eN:IntKind.u64.wrap (N:Int)=(N:Int):=by rw[u64_wrap];omega
 clear h h256 hl hk
 go_enter Tryz.func209,Tryz.ntmps209
 go_wp2_with fail
 refine (get_any _ _ _ b _ HS.out H256.out hm).mono ?_
 rintro e w1 ⟨rfl,hb1⟩
 have HB1:=hide hb1
 obtain⟨X,hX⟩:∃ X:Nat,E.gE b=X:=⟨_,rfl⟩
 obtain⟨K,hK⟩:∃ K:Nat,E.gK b=K:=⟨_,rfl⟩
 obtain⟨M,hM⟩:∃ M:Nat,E.gN b=M:=⟨_,rfl⟩
 rw[hX,hK,hM]
 have HE:=hide hX
 have HKK:=hide hK
 have HM:=hide hM
 clear hb1 hX hK hM
 by_cases hX0:X=0
 ·subst hX0
  by_cases hbad:N<M
  ·have HP:Hid (((Z.dX kind N b:Nat):Int)=4):=by show _=_;rw[dX_many HE.out (by rw[HM.out];exact hbad)];rfl
   go_wp2
   go_ret3
   exact ToWordsAns.no HP.out (by decide) HB1.out
  ·have hMN:M≤N:=by omega
   have hKl:K≤len:=by rw[← HKK.out,← HL.out];exact (E.gE_zero HE.out H256.out).1
   obtain⟨qa,hq,hr1,hr2⟩:=rest_of HS.out hKl
   obtain⟨bd,hbd⟩:∃ d,b.drop K=d:=⟨_,rfl⟩
   rw[hbd] at hq
   have HQ:=hide hq
   have HBD:=hide hbd
   have HD256:Hid (∀ x∈bd,x<256):=fun x hx=>H256.out x (by rw[← HBD.out] at hx;exact List.mem_of_mem_drop hx)
   have hdl:bd.length≤len:=by rw[← hbd,List.length_drop,HL.out];omega
   have HDL:=hide hdl
   clear hq hbd hdl
   go_wp2_with (at_make;refine wpList_make_full _ rfl _ _ 42 rfl w.heap.size 25 i0 _ 3 Tryz.underlying42 hi0 hz0 hz1 _ _ _ _ M rfl rfl rfl rfl (by rw[hz2];omega) (by unfold maxLen;omega) HB1.out.size ?_)
   intro w4 ho hg
   have hb4:Below w1.heap.size w1 w4:=(Below.refl _ _).grown hg (Nat.le_refl _) (by simp)
   have HB4:=hide (bthen HB1.out hb4)
   have hrow0:OwnV w4 w.heap.size (.slice (some ⟨w1.heap.size,0,none⟩) M M) (Z.pF kind bd M 0):=by
    unfold OwnV
    rw[pF_length (Nat.zero_le _)]
    unfold Z.pF
    rw[show Z.pL kind 0 bd=[] from rfl,List.nil_append,Nat.sub_zero,cellsV_replicate]
    exact ho
   obtain⟨R,hR⟩:∃ R,w1.heap.size=R:=⟨_,rfl⟩
   have hRl:w.heap.size≤R:=by rw[← hR];exact HB1.out.size
   rw[hR] at hrow0 ⊢
   have HR0:=hide hrow0
   clear hrow0 ho hg hb4 hR hi0 hz0 hz1 hz2 hr1 hr2
   go_wp2_with fail
   go_loopw [0,34] (fun s i wr=>∃ j n:Nat,∃ a c,j≤M∧i=.int .i64 j∧s=.slice a n c∧n≤140737488355328∧Hid (Sl w .u8 a n c (ints (Z.pR kind j bd)))∧Hid (OwnV wr w.heap.size (.slice (some ⟨R,0,none⟩) M M) (Z.pF kind bd M j))∧Hid (Z.pE kind j bd=0)∧Hid (Below w.heap.size w wr)) (fun _ i _=>M - (intOf i).toNat)
   case atStart=>exact⟨0,len - K,qa,cap - K,Nat.zero_le _,rfl,rfl,by omega,HQ,HR0,hide rfl,HB4⟩
   case round =>
    obtain⟨j,n,a,c,hj,rfl,rfl,hn,hs,hrow,hok,hbw⟩:=hrel
    by_cases hjl:j<M
    ·have HCL:=hide (toword_any a n c (Z.pR kind j bd) kind wr w hs.out (hs.out.below hbw.out) (pR_lt j bd HD256.out) hn HK.out)
     go_wp2_with fail
     refine HCL.out.mono ?_
     rintro e w5 ⟨hb5,a',n',c',rfl,hrest⟩
     obtain⟨Y,hE⟩:∃ Y:Nat,Z.oE (Z.pR kind j bd) kind=Y:=⟨_,rfl⟩
     obtain⟨⟨vk,vi,vs⟩,hv⟩:∃ x,Z.oV (Z.pR kind j bd) kind=x:=⟨_,rfl⟩
     rw[hE,hv,show (Z.V.v ⟨vk,vi,vs⟩)=.agg #[.int .i64 vk,.int .i64 vi,.string vs] from rfl]
     rw[hE] at hrest
     have HB5:=hide (bthen hbw.out hb5)
     have hrow5:OwnV w5 w.heap.size (.slice (some ⟨R,0,none⟩) M M) (Z.pF kind bd M j):=hrow.out.below hb5
     have hr6:=hrow5
     unfold OwnV at hr6
     rw[pF_length hj] at hr6
     obtain⟨z0,z1,z2⟩:=cellsV_get _ j _ (pF_at (kind:=kind) (b:=bd) hjl)
     have c0:=(hr6.cellAt (j*3) (by omega)).trans z0
     have c1:=(hr6.cellAt (j*3+1) (by omega)).trans z1
     have c2:=(hr6.cellAt (j*3+2) (by omega)).trans z2
     have f0:=hr6.frozenAt (j*3)
     have f1:=hr6.frozenAt (j*3+1)
     have f2:=hr6.frozenAt (j*3+2)
     have HR6:=hide hr6
     have HE':=hide hE
     have HV:=hide hv
     have HREST:=hide hrest
     clear hr6 hE hv hrow5 hrest hb5 z0 z1 z2 HCL hrow
     have hk3:Kept (fun k=>k=R) w5 (((w5.setCell ⟨R,j*3,none⟩ (.int .i64 vk)).setCell ⟨R,j*3+1,none⟩ (.int .i64 vi)).setCell ⟨R,j*3+2,none⟩ (.string vs)) :=
      Kept.setCell (F:=fun k=>k=R) (p:=⟨R,j*3+2,none⟩) (Kept.setCell (F:=fun k=>k=R) (p:=⟨R,j*3+1,none⟩) (Kept.setCell (F:=fun k=>k=R) (p:=⟨R,j*3,none⟩) (Kept.refl _ _) (.inl rfl) _) (.inl rfl) _) (.inl rfl) _
     have HB6:=hide (HB5.out.trans (hk3.below HB5.out.size (by rintro k rfl;exact hRl)))
     by_cases hE0:Y=0
     ·subst hE0
      obtain⟨hn',hs'⟩:=HREST.out rfl
      have HS':=hide hs'
      have hn5:n'≤140737488355328:=by
       have h2:=pR_len kind (j+1) bd
       rw[pR_succ] at h2
       have:=HDL.out
       omega
      clear hn' hs' HREST hk3
      go_wp2
      go_roundw
      case rel =>
       have hrb:=((((HR6.out.stored (j*3) (.int .i64 vk)).1.stored (j*3+1) (.int .i64 vi)).1).stored (j*3+2) (.string vs)).1
       refine⟨j+1,n',a',c',hjl,by go_num,rfl,hn5,?_,?_,?_,HB6⟩
       ·rw[pR_succ];exact HS'
       ·show OwnV _ _ _ _
        unfold OwnV
        rw[← pF_set hjl HV.out,cellsV_set _ _ _ (by rw[pF_length hj];exact hjl),List.length_set,pF_length hj]
        exact hrb
       ·rw[pE_succ kind j bd hok.out]
        exact HE'
      case measure=>simp[intOf];omega
     ·obtain⟨y,hy⟩:∃ y:Int,((Y:Nat):Int)=y:=⟨_,rfl⟩
      have hy0:y≠0:=by omega
      have HY0:=hide hy0
      have hyb:(y != 0)=true:=by simpa using hy0
      have HP:Hid (((Z.dX kind N b:Nat):Int)=y):=by
       show _=_
       have h1:=pE_stop hok.out hjl (by rw[HE'.out];exact hE0)
       rw[HE'.out] at h1
       have h2:Z.pE kind (E.gN b) (b.drop (E.gK b))=Y:=by rw[HM.out,HKK.out,HBD.out];exact h1
       rw[dX_val HE.out (by rw[HM.out];exact hMN) (by rw[h2];exact hE0),h2,hy]
      rw[hy]
      clear hy hE0 HREST hk3 hy0
      go_wp2
      go_ret3
      exact ToWordsAns.no HP.out HY0.out HB6.out
    ·obtain rfl:j=M:=by omega
     have hpl:Z.pF kind bd j j=Z.dW kind b:=by
      unfold Z.pF Z.dW
      rw[Nat.sub_self,List.replicate_zero,List.append_nil,HM.out,HKK.out,HBD.out]
     have hpr:Z.pR kind j bd=Z.dR kind b:=by unfold Z.dR;rw[HM.out,HKK.out,HBD.out]
     have hpe:Z.pE kind (E.gN b) (b.drop (E.gK b))=0:=by rw[HM.out,HKK.out,HBD.out];exact hok.out
     have hrow1:=hrow.out
     rw[hpl] at hrow1
     have hs1:=hs.out
     rw[hpr] at hs1
     have hnr:n=(Z.dR kind b).length:=by rw[← hs1.1,ints_length]
     have hwl:(Z.dW kind b).length=j:=by rw[← hpl,pF_length (Nat.le_refl _)]
     obtain⟨ra,rc,hv,hsl,_⟩:=SlV.of_own hrow1
     rw[hwl] at hv hsl
     injection hv with hv1 _ hv3
     subst hv1 hv3
     have HRS:=hide (drise_any _ _ _ _ wr hsl (by omega))
     have HROW:=hide hrow1
     have HS1:=hide hs1
     have HPE:=hide hpe
     have HNR:=hide hnr
     clear hpl hpr hpe hrow1 hs1 hnr hwl hsl hrow hs hok
     go_wp2_with fail
     refine HRS.out.mono ?_
     rintro e w5 ⟨rfl,hb5⟩
     have HB5:=hide (bthen hbw.out hb5)
     have HROW5:=hide (HROW.out.below hb5)
     clear hb5 HRS HROW
     cases hr:Z.risB (Z.dW kind b) with
     | true =>
      have HP:Hid (Z.dX kind N b=0):=dX_ok HE.out (by rw[HM.out];exact hMN) HPE.out hr
      clear hr
      go_wp2
      go_ret3
      refine⟨HB5.out,.inr ⟨HP.out,_,a,c,by rw[← HNR.out];rfl,HROW5.out,by rw[← HNR.out];exact HS1.out⟩⟩
     | false =>
      have HP:Hid (((Z.dX kind N b:Nat):Int)=4):=by show _=_;rw[dX_rise HE.out (by rw[HM.out];exact hMN) HPE.out hr];rfl
      clear hr
      go_wp2
      go_ret3
      exact ToWordsAns.no HP.out (by decide) HB5.out
 ·obtain⟨y,hy⟩:∃ y:Int,((X:Nat):Int)=y:=⟨_,rfl⟩
  have hy0:y≠0:=by omega
  have HY0:=hide hy0
  have hyb:(y != 0)=true:=by simpa using hy0
  have HP:Hid (((Z.dX kind N b:Nat):Int)=y):=by show _=_;rw[dX_num (by rw[HE.out];exact hX0),HE.out];exact hy
  rw[hy]
  clear hy hX0 hy0
  go_wp2
  go_ret3
  exact ToWordsAns.no HP.out HY0.out HB1.out
end Go.Proofs.YtnkpgmibhpmdhaaGreat
namespace Go.Proofs.YtnkpgmibhpmdhaaGreat
set_option linter.unusedVariables false
set_option maxRecDepth 10000
open Go.RowKit Go.Maps
theorem sub_len:∀ {a b:List Nat},a.Nodup→(∀ x∈a,x∈b)→a.length≤b.length
 | [],b,_,_=>Nat.zero_le _
 | x :: a,b,h,hs=>by
  obtain⟨hx,ha⟩:=List.nodup_cons.1 h
  have hxb:=hs x (by simp)
  have:=sub_len (b:=b.erase x) ha fun y hy=>(List.mem_erase_of_ne (fun e=>by subst e;exact hx hy)).2 (hs y (by simp[hy]))
  rw[List.length_erase_of_mem hxb] at this
  have hp:=List.length_pos_of_mem hxb
  simp only[List.length_cons]
  omega
theorem just_iff {ks c:List Nat} {n:Nat} (hn:ks.Nodup) (hm:∀ x,x∈ks↔x∈c) (hl:∀ x∈ks,x<n):((ks.length:Int)==(n:Int))=Z.cdOk n c:=by
 have h1:ks.length≤n:=by
  have:=sub_len (b:=List.range n) hn fun x hx=>List.mem_range.2 (hl x hx)
  simpa using this
 rw[Bool.eq_iff_iff,cdOk_iff,beq_iff_eq]
 constructor
 ·intro h
  refine⟨fun x hx=>hl x ((hm x).2 hx),fun j hj=>?_⟩
  rw[← hm j]
  by_cases hjk:j∈ks
  ·exact hjk
  ·have:=sub_len (a:=j :: ks) (b:=List.range n) (List.nodup_cons.2 ⟨hjk,hn⟩) fun x hx=>by
    rcases List.mem_cons.1 hx with rfl|hx
    ·exact List.mem_range.2 hj
    ·exact List.mem_range.2 (hl x hx)
   simp at this
   omega
 ·rintro⟨_,h2⟩
  have:=sub_len (a:=List.range n) (b:=ks) List.nodup_range fun x hx=>(hm x).2 (h2 x (List.mem_range.1 hx))
  simp at this
  omega
structure MapOf (D:DataW Nat) (ks:List Nat):Prop where
 tidy:Maps.Tidy D
 nod:ks.Nodup
 has:∀ x:Nat,Maps.has D (.int .u64 (x:Int))=decide (x∈ks)
 size:Maps.size D=ks.length
theorem MapOf.put {D:DataW Nat} {ks:List Nat} (h:MapOf D ks) (x:Nat) (hk:WideAt.IsKeyLit (.int .u64 (x:Int))) (d:DataW Nat):∃ ls,MapOf (D.put (.int .u64 (x:Int)) d) ls∧∀ y,y∈ls↔(y∈ks∨y=x):=by
 have hh:∀ y:Nat,Maps.has (D.put (.int .u64 (x:Int)) d) (.int .u64 (y:Int))=(decide (y∈ks)||decide (y=x)):=fun y=>by
  by_cases hy:y=x
  ·subst hy;rw[Maps.has_put_same h.tidy.isMap hk];simp
  ·rw[Maps.has_put_other (fun e=>hy (by injection e with _ e;omega)),h.has];simp[hy]
 have hz:=Maps.size_put (k:=.int .u64 (x:Int)) h.tidy d
 by_cases hx:x∈ks
 ·refine⟨ks,⟨h.tidy.put hk d,h.nod,fun y=>?_,?_⟩,fun y=>?_⟩
  ·rw[hh y]
   by_cases hy:y=x
   ·subst hy;simp[hx]
   ·simp[hy]
  ·rw[hz,h.has,decide_eq_true hx,if_pos rfl,h.size]
  ·constructor
   ·exact .inl
   ·rintro (hy|rfl)
    ·exact hy
    ·exact hx
 ·refine⟨x :: ks,⟨h.tidy.put hk d,List.nodup_cons.2 ⟨hx,h.nod⟩,fun y=>?_,?_⟩,fun y=>?_⟩
  ·rw[hh y,Bool.eq_iff_iff];simp[or_comm]
  ·rw[hz,h.has,decide_eq_false hx,if_neg (by decide),h.size];rfl
  ·rw[List.mem_cons,or_comm]
theorem mapOf_nil:MapOf (.map []) []:=⟨Maps.tidy_empty,List.nodup_nil,fun x=>by simp[Maps.has_eq],rfl⟩
theorem lawU64:Keyed Tryz.prog 49:=int_keyed Tryz.underlying49
theorem zeroInt (w:World):(zeroValue 3).run Tryz.prog w=.ok (.int .i64 0) w:=by kernel_rfl
set_option maxHeartbeats 1000000 in
theorem djust_any (ao:Option Addr) (len cap:Nat) (c:List Nat) (n:Nat) (w:World) (h:Sl w .u64 ao len cap (ints c)) (h64:∀ x∈c,x<18446744073709551616) (hl:len≤1099511627776) (hn:n≤1099511627776) :
  Calls Tryz.prog 210 #[.slice ao len cap,.int .i64 (n:Int)] w fun e w'=>e=.returned (.bool (Z.cdOk n c))∧Below w.heap.size w w':=by
 have hmm:=@run_makeMap Tryz.prog
 have hlc:c.length=len:=by rw[← h.1,ints_length]
 have HL:=hide hlc
 have HS:=hide h
 have H64:=hide h64
 have e1:IntKind.u64.wrap (n:Int)=(n:Int):=by rw[u64_wrap];omega
 clear h h64 hlc
 go_enter Tryz.func210,Tryz.ntmps210
 go_wp2_with fail
 go_loopw [12] (fun i wr=>∃ (j:Nat) (D:DataW Nat) (ks:List Nat),j≤len∧i=.int .i64 j∧Hid (wr.ownsMap Tryz.prog 49 (plainElem Tryz.prog 3) w.heap.size j D)∧Hid (MapOf D ks)∧Hid (∀ x,x∈ks↔x∈c.take j)∧Hid (Below w.heap.size w wr)) (fun i _=>len - (intOf i).toNat)
 case atStart=>exact⟨0,_,[],Nat.zero_le _,rfl,World.ownsMap_made _ _ _ _,mapOf_nil,hide (by simp),(Below.refl _ _).alloc (Nat.le_refl _) _⟩
 case round =>
  obtain⟨j,D,ks,hj,rfl,HO,HM,HK,HB⟩:=hrel
  by_cases hjl:j<len
  ·obtain⟨b,off,rfl,hlt,d0⟩:=HS.out.at hjl
   obtain⟨x,hx⟩:∃ x,c[j]?=some x:=⟨c[j]'(by rw[HL.out];exact hjl),List.getElem?_eq_getElem _⟩
   have hxg:(ints c).getD j 0=(x:Int):=by rw[ints_getD,List.getD_eq_getElem?_getD,hx];rfl
   rw[hxg] at d0
   have d1:wr.cell? ⟨b,off+j,none⟩=some (.int .u64 (x:Int)):=by rw[HB.out.cell (p:=⟨b,off+j,none⟩) hlt];exact d0
   have hx64:=H64.out x (List.mem_of_getElem? hx)
   have hkey:keyOf Tryz.prog 49 (.int .u64 (x:Int))=some (.int .u64 (x:Int)):=keyOf_int_mk Tryz.underlying49 (WalkArith.wf_u64 (by omega))
   have HKEY:=hide hkey
   have HX:=hide hx
   have hsz:=HB.out.size
   clear d0 hxg hx hx64 hkey
   go_wp2_with (first
    | (at_lookup;refine wpList_lookup_own_int _ rfl _ _ 268 rfl 49 3 .i64 lawU64 Tryz.underlying268 Tryz.underlying3 (zeroInt _) w.heap.size j _ rfl HO.out _ _ rfl HKEY.out ?_;intro q hat hwc)
    | (at_mapUpdate;refine wpList_mapUpdate_own _ rfl _ _ _ 268 rfl 49 3 lawU64 Tryz.underlying268 _ w.heap.size j _ rfl HO.out (by unfold maxLen;omega) _ _ _ rfl rfl HKEY.out _ [] (plainElem_int Tryz.underlying3 (wrap64_wf _)) ?_;intro w1 hown1 hgrow1)
    | go_in)
   obtain⟨ls,hM2,hmem⟩:=HM.out.put x (lawU64.key HKEY.out) (DataW.lit (Lit.int .i64 (wrap64 (q+1))))
   have HK2:Hid (∀ y,y∈ls↔y∈c.take (j+1)):=fun y=>by rw[hmem,HK.out,List.take_add_one,HX.out];simp
   have HB2:=hide (HB.out.grown hgrow1 hsz (fun j hj=>by cases hj;exact Nat.le_refl _))
   go_roundw
   case rel=>exact⟨j+1,_,ls,by omega,by go_num,hown1,hM2,HK2,HB2⟩
   case measure=>simp[intOf];omega
  ·obtain rfl:j=len:=by omega
   have HK2:Hid (∀ x,x∈ks↔x∈c):=fun x=>by rw[HK.out,← HL.out,List.take_length]
   have hlow:=HB.out.size
   clear HK
   go_wp2_with (first
    | (at_range;refine wpList_range_own _ rfl _ 268 rfl 49 3 lawU64 Tryz.underlying268 _ w.heap.size j _ rfl HO.out ?_;intro w0 hrg0 hg0 hs0)
    | go_in)
   go_frame
   have HB0:=hide (HB.out.grown hg0 hlow (fun j hj=>by cases hj))
   obtain⟨r,hr⟩:∃ r,wr.heap.size=r:=⟨_,rfl⟩
   rw[hr] at hrg0 ⊢
   have HG0:=hide hrg0
   have hrl:w.heap.size≤r:=by omega
   clear hg0 hs0 hrg0
   have HSTART:Hid (∀ x∈ks,Maps.has D (.int .u64 (x:Int))=false→x<n):=fun x hx h=>by rw[HM.out.has,decide_eq_true hx] at h;cases h
   go_loopw [8] (fun _ w2=>∃ (left:Lit→Bool) (cnt:Nat),Hid (w2.ranges Tryz.prog 49 (plainElem Tryz.prog 3) w.heap.size r j D left cnt)∧Hid (∀ x∈ks,left (.int .u64 (x:Int))=false→x<n)∧Hid (Below w.heap.size w w2)) (fun _ w2=>w2.rangeLeft w.heap.size r)
   case atStart=>exact⟨_,_,HG0,HSTART,HB0⟩
   case round =>
    obtain⟨left,cnt,HRG,HLF,HBW⟩:=hrel
    go_wp2_with (first
     | (at_next;refine wpList_next_ranges_ii _ rfl _ rfl 49 3 .u64 .i64 lawU64 Tryz.underlying49 Tryz.underlying3 w.heap.size r j D left cnt rfl HRG.out ?_ ?_)
     | go_in)
    ·intro _ hl0
     have HOW:=hide HRG.out.owns
     have HRES:=hide (just_iff HM.out.nod HK2.out fun x hx=>HLF.out x hx (hl0 _))
     have HSZ:=hide HM.out.size
     clear hl0 HRG HLF
     go_wp2_with (first
      | (at_len;refine wpList_len_own _ rfl _ 268 rfl 49 3 Tryz.underlying268 _ w.heap.size j D rfl HOW.out ?_)
      | go_in)
     go_ret
     exact⟨by rw[← HRES.out,← HSZ.out];rfl,HBW.out⟩
    ·intro x q2 w3 cnt1 hwx hwq hlx hat hrg1 hlt1 hg1 hs1 hen
     obtain⟨hx0,hx1⟩:=wf_u64 hwx
     obtain⟨y,rfl⟩:=Int.eq_ofNat_of_zero_le hx0
     have hyk:y∈ks:=by
      have h1:=Maps.has_true_of_atKey hat
      rw[HM.out.has] at h1
      exact of_decide_eq_true h1
     have HB3:=hide (HBW.out.grown hg1 HBW.out.size (fun k hk=>by cases hk;exact hrl))
     have HRG1:=hide hrg1
     have HLT:=hide hlt1
     by_cases hyn:y<n
     ·have HY:=hide hyn
      have hyn2:¬ n≤y:=by omega
      clear hwx hwq hlx hat hrg1 hg1 hs1 hlt1 hx0 hx1
      go_wp2
      go_roundw
      case rel =>
       refine⟨_,cnt1,HRG1,hide (fun z hz h=>?_),HB3⟩
       by_cases hzy:z=y
       ·subst hzy;exact HY.out
       ·refine HLF.out z hz ?_
        rw[Maps.sameKey_ne (fun e=>hzy (by injection e with _ e;omega))] at h
        simpa using h
      case measure=>rw[HRG1.out.left_eq,HRG.out.left_eq];exact HLT.out
     ·have hyn2:n≤y:=by omega
      have hno:Z.cdOk n c=false:=by
       cases hq:Z.cdOk n c with
       | false=>rfl
       | true=>exact absurd ((cdOk_iff.1 hq).1 y ((HK2.out y).1 hyk)) hyn
      have HNO:=hide hno
      clear hwx hwq hlx hat hrg1 hg1 hs1 hlt1 hx0 hx1 hno
      go_wp2
      go_ret
      exact⟨by rw[HNO.out];rfl,HB3.out⟩
end Go.Proofs.YtnkpgmibhpmdhaaGreat

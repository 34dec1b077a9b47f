/- Contracts and plain facts, one behind the other: MF -/
import Derived.Test.YtnkpgmibhpmdhaaGreatBeBF
namespace Go.Proofs.YtnkpgmibhpmdhaaGreat
set_option linter.unusedVariables false
set_option maxRecDepth 10000
open Go.RowKit Go.Sort
def segC (k c rows nulls:Int) (mn mx:Z.V) (vn vb:Value):Array Value:=#[.int .i64 k,.int .i64 c,.int .i64 rows,.int .i64 nulls,.int .i64 mn.k,.int .i64 mn.i,.string mn.s,.int .i64 mx.k,.int .i64 mx.i,.string mx.s,vn,vb]
def segZ:Array Value:=#[.int .i64 0,.int .i64 0,.int .i64 0,.int .i64 0,.int .i64 0,.int .i64 0,.string ⟨#[]⟩,.int .i64 0,.int .i64 0,.string ⟨#[]⟩,.slice none 0 0,.slice none 0 0]
def SegAt (w:World) (v:Value) (s:Z.S):Prop:=∃ an cn ab cb,v=.agg (segC s.k s.c s.rows s.nulls s.mn s.mx (.slice an s.ns.length cn) (.slice ab s.bd.length cb))∧Sb w an s.ns.length cn s.ns∧Sl w .u8 ab s.bd.length cb (ints s.bd)
theorem SegAt.below {w w':World} {v:Value} {s:Z.S} (h:SegAt w v s) (hb:Below w.heap.size w w'):SegAt w' v s:=by
 obtain⟨an,cn,ab,cb,h1,h2,h3⟩:=h
 exact⟨an,cn,ab,cb,h1,h2.below hb,h3.below hb⟩
theorem segC_size (k c rows nulls:Int) (mn mx:Z.V) (vn vb:Value):(segC k c rows nulls mn mx vn vb).size=12:=rfl
theorem segC_one (k c rows nulls:Int) (mn mx:Z.V) (an:Option Addr) (ln cn:Nat) (ab:Option Addr) (lb cb:Nat):(segC k c rows nulls mn mx (.slice an ln cn) (.slice ab lb cb)).all (·.oneCell')=true:=by
 simp[segC,Value.oneCell']
theorem segZ_one:segZ.all (·.oneCell')=true:=by simp[segZ,Value.oneCell']
theorem Tryz.sizeSeg:(Tryz.prog.info? 30).map (·.size)=some 12:=by kernel_rfl
theorem results_seg1 {fn:Func} {p u:Tmp} (h:fn.results=#[.cell p 30,.tmp u]) (tmps:Array Value) (w:World) (g:Nat) {C:Array Value} (hp:tmps.getD p undef=.pointer (some ⟨g,0,none⟩)) (hA:Blk w g C 30) (hi:(Tryz.prog.info? 30).map (·.size)=some C.size) :
  (results fn tmps).run Tryz.prog w=.ok (.tuple #[.agg C,tmps.getD u undef]) w:=by
 have hp':tmps[p]?.getD undef=.pointer (some ⟨g,0,none⟩):=by simpa using hp
 unfold Blk at hA
 simp[results,h,hp',asAddr,run_loadVar_row w g 30 30 C (0,0) _ hA Tryz.underlying30 rfl hi]
theorem Sl.away {w:World} {k:IntKind} {ao:Option Addr} {len cap:Nat} {l:List Int} {B:Nat} {C:Array Value} {t:TypeId} (h:Sl w k ao len cap l) (hB:Blk w B C t) (hC:∀ v∈C.toList,∀ n,v≠.int k n):len=0∨∀ x,ao=some x→x.block≠B:=by
 rcases h.2.2.2.2 with h5|⟨b,off,hao,hlt,h5⟩
 ·exact .inl h5
 ·by_cases h0:len=0
  ·exact .inl h0
  ·refine .inr fun x hx hb=>?_
   rw[hao] at hx
   obtain rfl:=Option.some.inj hx
   have hb:b=B:=hb
   subst hb
   have h6:=h5 0 (by omega)
   unfold Blk at hB
   simp[World.cell?,hB] at h6
   exact hC _ (Array.mem_toList_iff.2 (Array.mem_of_getElem? h6)) _ rfl
theorem Sb.away {w:World} {ao:Option Addr} {len cap:Nat} {l:List Bool} {B:Nat} {C:Array Value} {t:TypeId} (h:Sb w ao len cap l) (hB:Blk w B C t) (hC:∀ v∈C.toList,∀ n,v≠.bool n):len=0∨∀ x,ao=some x→x.block≠B:=by
 rcases h.2.2.2.2 with h5|⟨b,off,hao,hlt,h5⟩
 ·exact .inl h5
 ·by_cases h0:len=0
  ·exact .inl h0
  ·refine .inr fun x hx hb=>?_
   rw[hao] at hx
   obtain rfl:=Option.some.inj hx
   have hb:b=B:=hb
   subst hb
   have h6:=h5 0 (by omega)
   unfold Blk at hB
   simp[World.cell?,hB] at h6
   exact hC _ (Array.mem_toList_iff.2 (Array.mem_of_getElem? h6)) _ rfl
theorem Sb.kept0 {F:Nat→Prop} {w w':World} {ao:Option Addr} {len cap:Nat} {l:List Bool} (h:Sb w ao len cap l) (hb:Kept F w w') (hf:len=0∨∀ x,ao=some x→¬ F x.block):Sb w' ao len cap l:=by
 rcases hf with h0|hf
 ·obtain⟨h1,h2,h3,h4,h5⟩:=h
  exact⟨h1,h2,h3,h4,.inl h0⟩
 ·exact h.kept hb hf
theorem setRow_kept (w:World) (B:Nat) (C:Array Value):Kept (fun k=>k=B) w (w.setRow B C) :=
 ⟨rfl,rfl,rfl,by rw[size_setRow];exact Nat.le_refl _,fun k _ hn=>setRow_other w B k C hn⟩
theorem Sl.row {w:World} {ao:Option Addr} {len cap:Nat} {l:List Int} {B:Nat} {C:Array Value} {t:TypeId} (h:Sl w .u8 ao len cap l) (hB:Blk w B C t) (hC:∀ v∈C.toList,∀ n,v≠.int .u8 n) (D:Array Value):Sl (w.setRow B D) .u8 ao len cap l :=
 h.kept0 (setRow_kept w B D) (h.away hB hC)
theorem Sb.row {w:World} {ao:Option Addr} {len cap:Nat} {l:List Bool} {B:Nat} {C:Array Value} {t:TypeId} (h:Sb w ao len cap l) (hB:Blk w B C t) (hC:∀ v∈C.toList,∀ n,v≠.bool n) (D:Array Value):Sb (w.setRow B D) ao len cap l :=
 h.kept0 (setRow_kept w B D) (h.away hB hC)
theorem segZ_u8:∀ v∈segZ.toList,∀ n,v≠.int .u8 n:=by simp[segZ]
theorem segZ_bool:∀ v∈segZ.toList,∀ n,v≠.bool n:=by simp[segZ]
theorem Sb.nil (w:World):Sb w none 0 0 []:=⟨rfl,Nat.le_refl _,by simp[maxLen],fun _=>rfl,.inl rfl⟩
theorem seg_made {w:World} {l:List Z.V} {kind codec c:Int} {len nn n:Nat} {vn:Value} {ab:Option Addr} {cp:Nat} {ak ai:Int} {az:ByteArray} {bk bi:Int} {bz:ByteArray} (hcc:Z.cc l kind codec=c) (hl:l.length=len) (hnn:cntT (nus l)=nn)
  (ha:Z.lo (oth l)=⟨ak,ai,az⟩) (hb:Z.hi (oth l)=⟨bk,bi,bz⟩) (hn:(Z.bd (oth l) kind c).length=n) (hs:Sl w .u8 ab n cp (ints (Z.bd (oth l) kind c)))
  (hv:(nn=0∧vn=.slice none 0 0)∨(nn≠0∧∃ an cn,vn=.slice an len cn∧Sb w an len cn (nus l))) :
  SegAt w (.agg (segC kind c (len:Int) (nn:Int) ⟨ak,ai,az⟩ ⟨bk,bi,bz⟩ vn (.slice ab n cp))) (Z.mS l kind codec):=by
 subst hcc hl hnn hn
 unfold SegAt Z.mS
 rw[ha,hb]
 rcases hv with ⟨h0,rfl⟩|⟨h0,an,cn,rfl,hsb⟩
 ·rw[if_pos h0]
  exact⟨none,0,ab,cp,rfl,Sb.nil w,hs⟩
 ·rw[if_neg h0]
  refine⟨an,cn,ab,cp,by rw[nus_length],by rw[nus_length];exact hsb,hs⟩
def MakeAns (l:List Z.V) (kind codec:Int) (w:World) (e:Ending) (w':World):Prop :=
 Below w.heap.size w w'∧((Z.mE l kind codec=0∧∃ v,e=.returned (.tuple #[v,.int .i64 0])∧SegAt w' v (Z.mS l kind codec))∨(Z.mE l kind codec≠0∧e=.returned (.tuple #[.agg segZ,.int .i64 (Z.mE l kind codec)])))
theorem MakeAns.no {l:List Z.V} {kind codec E:Int} {w w':World} (h:Z.mE l kind codec=E) (h0:E≠0) (hb:Below w.heap.size w w'):MakeAns l kind codec w (.returned (.tuple #[.agg segZ,.int .i64 E])) w' :=
 ⟨hb,.inr ⟨by rw[h];exact h0,by rw[h]⟩⟩
theorem mE_chk {l:List Z.V} {kind codec:Int} (h:Z.chk (oth l) kind≠0):Z.mE l kind codec=Z.chk (oth l) kind:=by unfold Z.mE;rw[if_pos h]
theorem mE_long {l:List Z.V} {kind codec:Int} (h:Z.chk (oth l) kind=0) (hl:4096<l.length):Z.mE l kind codec=2:=by unfold Z.mE;rw[if_neg (by omega),if_pos hl]
theorem mE_body {l:List Z.V} {kind codec:Int} (h:Z.chk (oth l) kind=0) (hl:¬ 4096<l.length):Z.mE l kind codec=Z.bE (oth l) kind (Z.cc l kind codec):=by unfold Z.mE;rw[if_neg (by omega),if_neg hl]
set_option maxHeartbeats 2000000 in
theorem smake_any (ao:Option Addr) (len cap:Nat) (l:List Z.V) (kind codec:Int) (w:World) (h:SlV w ao len cap l) (hI:∀ x∈l,Z.I64 x.i) (hm:len*32≤140737488355328) (hc:Z.I64 codec) :
  Calls Tryz.prog 14 #[.slice ao len cap,.int .i64 kind,.int .i64 codec] w (MakeAns l kind codec w):=by
 obtain⟨w0,hw0⟩:∃ w0,w.alloc (.cells segZ 30)=w0:=⟨_,rfl⟩
 have hb0:Below w.heap.size w w0:=by rw[← hw0];exact below_one w _
 have hR:Blk w0 w.heap.size segZ 30:=by rw[← hw0];exact Blk.new w _ _
 unfold segZ at hw0
 have HW:=hide hw0
 have HB0:=hide hb0
 have HR:=hide hR
 have HS:=hide (h.below hb0)
 have HL:=hide h.1
 have hn:=nus_length l
 have HNL:=hide hn
 have HI:Hid (∀ x∈oth l,Z.I64 x.i):=fun x hx=>hI x (List.mem_filter.1 hx).1
 have HC:=hide hc
 clear hw0 hb0 hR h hn hI hc
 go_enter Tryz.func14,Tryz.ntmps14
 go_wp2_with fail
 rw[HW.out]
 refine (zsplit_any ao len cap l w0 HS.out hm).mono ?_
 rintro e w1 ⟨v1,v2,rfl,hr1,ho,hb1⟩
 obtain⟨an,cn,rfl,hsb,_⟩:=Sb.of_owns (l:=nus l) (by rw[HNL.out,HL.out];exact hr1)
 obtain⟨bo,cb,rfl,hso,_⟩:=SlV.of_own ho
 rw[HNL.out,HL.out] at hsb
 have HSB:=hide hsb
 have HSO:=hide hso
 have HB1:=hide (bthen HB0.out hb1)
 have HR1:=hide (HR.out.below hb1)
 have HS1:=hide (HS.out.below hb1)
 obtain⟨no,hno⟩:∃ no,(oth l).length=no:=⟨_,rfl⟩
 rw[hno] at HSO ⊢
 rw[HNL.out,HL.out]
 have HNO:=hide hno
 clear hr1 ho hb1 hsb hso hno HS HB0 HR HW
 go_wp2_with fail
 refine (check_any bo no cb (oth l) kind w1 HSO.out HI.out).mono ?_
 rintro e w2 ⟨rfl,hb2⟩
 obtain⟨E,hE⟩:∃ E,Z.chk (oth l) kind=E:=⟨_,rfl⟩
 rw[hE]
 have HE:=hide hE
 have HB2:=hide (bthen HB1.out hb2)
 have hR2:=HR1.out.below hb2
 have HR2:=hide hR2
 have HSO2:=hide (HSO.out.below hb2)
 have HSB2:=hide (HSB.out.below hb2)
 have HS2:=hide (HS1.out.below hb2)
 clear hb2 hE HB1 HR1 HSO HSB HS1 hR2
 by_cases hE0:E=0
 ·subst hE0
  by_cases hl:4096<len
  ·have HP:Hid (Z.mE l kind codec=2):=mE_long HE.out (by rw[HL.out];exact hl)
   go_wp2_with (first
      | (guard_target =~ wpList _ _ _ ((⟨none,.store _ _ _,_,_,_,_⟩:Oper) :: _) _ _;refine wpList_store_row rfl 30 (.tmp 6) (.tmp 29) rfl w.heap.size segZ rfl rfl 30 segZ HR2.out Tryz.sizeSeg rfl segZ_one ?_)
      | fail)
   have HRF:=hide (Blk.row HR2.out segZ)
   have HBF:=hide (below_setRow HB2.out (Nat.le_refl _) segZ)
   exact bodyPost_ret (results_seg1 Tryz.results14 _ _ w.heap.size rfl HRF.out Tryz.sizeSeg) rfl (MakeAns.no HP.out (by decide) HBF.out)
  ·have HP:Hid (Z.mE l kind codec=Z.bE (oth l) kind (Z.cc l kind codec)):=mE_body HE.out (by rw[HL.out];exact hl)
   by_cases hc0:codec=0
   ·have hcb:(codec==0)=true:=by simpa using hc0
    go_wp2_with fail
    refine (sfewest_any bo no cb (oth l) kind w2 HSO2.out HI.out HE.out).mono ?_
    rintro e w3 ⟨rfl,hb3⟩
    obtain⟨c,hcc⟩:∃ c,((Z.bst (oth l) kind 4:Nat):Int)=c:=⟨_,rfl⟩
    have hbo:=bst_ok HE.out
    have HC64:Hid (Z.I64 c):=by show Z.I64 c;unfold Z.I64;omega
    rw[hcc]
    have HCC:Hid (Z.cc l kind codec=c):=by show _=_;unfold Z.cc;rw[if_pos hc0];exact hcc
    have HB3:=hide (bthen HB2.out hb3)
    have HR3:=hide (HR2.out.below hb3)
    have HSB3:=hide (HSB2.out.below hb3)
    have HS3:=hide (HS2.out.below hb3)
    have HSO3:=hide (HSO2.out.below hb3)
    clear hb3 hcc hbo HB2 HR2 HSB2 HS2 HSO2
    go_wp2_with fail
    refine (sbody_any bo no cb (oth l) kind c w3 HSO3.out HI.out HC64.out).mono ?_
    rintro e w4 ⟨ab,cp,rfl,hsl,hb4⟩
    obtain⟨n,hn⟩:∃ n,(Z.bd (oth l) kind c).length=n:=⟨_,rfl⟩
    obtain⟨X,hX⟩:∃ X,Z.bE (oth l) kind c=X:=⟨_,rfl⟩
    rw[hn] at hsl
    rw[hn,hX]
    have HPX:Hid (Z.mE l kind codec=X):=by show _=_;rw[HP.out,HCC.out];exact hX
    have HN:=hide hn
    have HSL:=hide hsl
    have HB4:=hide (bthen HB3.out hb4)
    have HR4:=hide (HR3.out.below hb4)
    have HSB4:=hide (HSB3.out.below hb4)
    have HS4:=hide (HS3.out.below hb4)
    clear hn hX hsl hb4 HB3 HR3 HSB3 HS3 HSO3 HP
    by_cases hX0:X=0
    ·subst hX0
     go_wp2_with fail
     refine (szone_any ao len cap l w4 HS4.out hm).mono ?_
     rintro e w5 ⟨rfl,hb5⟩
     obtain⟨nn,hnn⟩:∃ nn,cntT (nus l)=nn:=⟨_,rfl⟩
     obtain⟨⟨ak,ai,az⟩,ha⟩:∃ a,Z.lo (oth l)=a:=⟨_,rfl⟩
     obtain⟨⟨bk,bi,bz⟩,hbv⟩:∃ b,Z.hi (oth l)=b:=⟨_,rfl⟩
     rw[hnn,ha,hbv,show Z.zoneV len nn ⟨ak,ai,az⟩ ⟨bk,bi,bz⟩=#[.int .i64 (len:Int),.int .i64 (nn:Int),.int .i64 ak,.int .i64 ai,.string az,.int .i64 bk,.int .i64 bi,.string bz] from rfl]
     have HB5:=hide (bthen HB4.out hb5)
     have HR5:=hide (HR4.out.below hb5)
     have HSB5:=hide (HSB4.out.below hb5)
     have HSL5:=hide (HSL.out.below hb5)
     have HNN:=hide hnn
     have HA:=hide ha
     have HBV:=hide hbv
     clear hb5 hnn ha hbv HB4 HR4 HSB4 HSL HS4
     by_cases hn0:nn=0
     ·subst hn0
      have HX6:=hide (HR5.out.alloc (.cells #[.int .i64 kind,.int .i64 c,.int .i64 (len:Int),.int .i64 0,.int .i64 ak,.int .i64 ai,.string az,.int .i64 bk,.int .i64 bi,.string bz,.slice none 0 0,.slice ab n cp] 30))
      have HSL6:=hide (HSL5.out.below (below_one w5 (.cells #[.int .i64 kind,.int .i64 c,.int .i64 (len:Int),.int .i64 0,.int .i64 ak,.int .i64 ai,.string az,.int .i64 bk,.int .i64 bi,.string bz,.slice none 0 0,.slice ab n cp] 30)))
      have HSB6:=hide (HSB5.out.below (below_one w5 (.cells #[.int .i64 kind,.int .i64 c,.int .i64 (len:Int),.int .i64 0,.int .i64 ak,.int .i64 ai,.string az,.int .i64 bk,.int .i64 bi,.string bz,.slice none 0 0,.slice ab n cp] 30)))
      have HB6:=hide (bthen HB5.out (below_one w5 (.cells #[.int .i64 kind,.int .i64 c,.int .i64 (len:Int),.int .i64 0,.int .i64 ak,.int .i64 ai,.string az,.int .i64 bk,.int .i64 bi,.string bz,.slice none 0 0,.slice ab n cp] 30)))
      obtain⟨C,hC⟩:∃ C:Array Value,#[.int .i64 kind,.int .i64 c,.int .i64 (len:Int),.int .i64 0,.int .i64 ak,.int .i64 ai,.string az,.int .i64 bk,.int .i64 bi,.string bz,.slice none 0 0,.slice ab n cp]=C:=⟨_,rfl⟩
      have HX13:Hid (Blk (w5.alloc (.cells #[.int .i64 kind,.int .i64 c,.int .i64 (len:Int),.int .i64 0,.int .i64 ak,.int .i64 ai,.string az,.int .i64 bk,.int .i64 bi,.string bz,.slice none 0 0,.slice ab n cp] 30)) w5.heap.size C 30):=by rw[← hC];exact Blk.new _ _ _
      have HCI:Hid ((Tryz.prog.info? 30).map (·.size)=some C.size):=by show _=_;rw[← hC];exact Tryz.sizeSeg
      have HC8:Hid (segZ.size=C.size):=by show _=_;rw[← hC];rfl
      have HC1:Hid (C.all (·.oneCell')=true):=by show _=_;rw[← hC];simp[Value.oneCell']
      have HCC2:=hide hC
      clear hC
      go_wp2_with (first
       | (guard_target =~ wpList _ _ _ ((⟨some 58,.load _ _,_,_,_,_⟩:Oper) :: _) _ _;refine wpList_load_row rfl 30 (.tmp 13) rfl w5.heap.size rfl 30 C (0,0) _ HX13.out Tryz.underlying30 rfl HCI.out ?_)
       | (guard_target =~ wpList _ _ _ ((⟨none,.store _ _ _,_,_,_,_⟩:Oper) :: _) _ _;refine wpList_store_row rfl 30 (.tmp 6) (.tmp 58) rfl w.heap.size C rfl rfl 30 segZ HX6.out HCI.out HC8.out HC1.out ?_)
       | fail)
      have HRF:=hide (Blk.row HX6.out C)
      have HBF:=hide (below_setRow HB6.out (Nat.le_refl _) C)
      have HSG:=hide (seg_made (w:=(w5.alloc (.cells #[.int .i64 kind,.int .i64 c,.int .i64 (len:Int),.int .i64 0,.int .i64 ak,.int .i64 ai,.string az,.int .i64 bk,.int .i64 bi,.string bz,.slice none 0 0,.slice ab n cp] 30)).setRow w.heap.size C) (vn:=.slice none 0 0) HCC.out HL.out HNN.out HA.out HBV.out HN.out (HSL6.out.row HX6.out segZ_u8 C) (.inl ⟨rfl,rfl⟩))
      refine bodyPost_ret (results_seg1 Tryz.results14 _ _ w.heap.size rfl HRF.out HCI.out) rfl ?_
      refine⟨HBF.out,.inl ⟨HPX.out,_,rfl,?_⟩⟩
      have h:=HSG.out
      rw[← HCC2.out] at h ⊢
      exact h
     ·have hn1:0<nn:=by omega
      have HN0:=hide hn0
      have HX6:=hide (HR5.out.alloc (.cells #[.int .i64 kind,.int .i64 c,.int .i64 (len:Int),.int .i64 (nn:Int),.int .i64 ak,.int .i64 ai,.string az,.int .i64 bk,.int .i64 bi,.string bz,.slice an len cn,.slice ab n cp] 30))
      have HSL6:=hide (HSL5.out.below (below_one w5 (.cells #[.int .i64 kind,.int .i64 c,.int .i64 (len:Int),.int .i64 (nn:Int),.int .i64 ak,.int .i64 ai,.string az,.int .i64 bk,.int .i64 bi,.string bz,.slice an len cn,.slice ab n cp] 30)))
      have HSB6:=hide (HSB5.out.below (below_one w5 (.cells #[.int .i64 kind,.int .i64 c,.int .i64 (len:Int),.int .i64 (nn:Int),.int .i64 ak,.int .i64 ai,.string az,.int .i64 bk,.int .i64 bi,.string bz,.slice an len cn,.slice ab n cp] 30)))
      have HB6:=hide (bthen HB5.out (below_one w5 (.cells #[.int .i64 kind,.int .i64 c,.int .i64 (len:Int),.int .i64 (nn:Int),.int .i64 ak,.int .i64 ai,.string az,.int .i64 bk,.int .i64 bi,.string bz,.slice an len cn,.slice ab n cp] 30)))
      obtain⟨C,hC⟩:∃ C:Array Value,#[.int .i64 kind,.int .i64 c,.int .i64 (len:Int),.int .i64 (nn:Int),.int .i64 ak,.int .i64 ai,.string az,.int .i64 bk,.int .i64 bi,.string bz,.slice an len cn,.slice ab n cp]=C:=⟨_,rfl⟩
      have HX13:Hid (Blk (w5.alloc (.cells #[.int .i64 kind,.int .i64 c,.int .i64 (len:Int),.int .i64 (nn:Int),.int .i64 ak,.int .i64 ai,.string az,.int .i64 bk,.int .i64 bi,.string bz,.slice an len cn,.slice ab n cp] 30)) w5.heap.size C 30):=by rw[← hC];exact Blk.new _ _ _
      have HCI:Hid ((Tryz.prog.info? 30).map (·.size)=some C.size):=by show _=_;rw[← hC];exact Tryz.sizeSeg
      have HC8:Hid (segZ.size=C.size):=by show _=_;rw[← hC];rfl
      have HC1:Hid (C.all (·.oneCell')=true):=by show _=_;rw[← hC];simp[Value.oneCell']
      have HCC2:=hide hC
      clear hC
      go_wp2_with (first
       | (guard_target =~ wpList _ _ _ ((⟨some 58,.load _ _,_,_,_,_⟩:Oper) :: _) _ _;refine wpList_load_row rfl 30 (.tmp 13) rfl w5.heap.size rfl 30 C (0,0) _ HX13.out Tryz.underlying30 rfl HCI.out ?_)
       | (guard_target =~ wpList _ _ _ ((⟨none,.store _ _ _,_,_,_,_⟩:Oper) :: _) _ _;refine wpList_store_row rfl 30 (.tmp 6) (.tmp 58) rfl w.heap.size C rfl rfl 30 segZ HX6.out HCI.out HC8.out HC1.out ?_)
       | fail)
      have HRF:=hide (Blk.row HX6.out C)
      have HBF:=hide (below_setRow HB6.out (Nat.le_refl _) C)
      have HSG:=hide (seg_made (w:=(w5.alloc (.cells #[.int .i64 kind,.int .i64 c,.int .i64 (len:Int),.int .i64 (nn:Int),.int .i64 ak,.int .i64 ai,.string az,.int .i64 bk,.int .i64 bi,.string bz,.slice an len cn,.slice ab n cp] 30)).setRow w.heap.size C) (vn:=.slice an len cn) HCC.out HL.out HNN.out HA.out HBV.out HN.out (HSL6.out.row HX6.out segZ_u8 C) (.inr ⟨HN0.out,an,cn,rfl,HSB6.out.row HX6.out segZ_bool C⟩))
      refine bodyPost_ret (results_seg1 Tryz.results14 _ _ w.heap.size rfl HRF.out HCI.out) rfl ?_
      refine⟨HBF.out,.inl ⟨HPX.out,_,rfl,?_⟩⟩
      have h:=HSG.out
      rw[← HCC2.out] at h ⊢
      exact h
    ·have HX0:=hide hX0
     have hXb:(X != 0)=true:=by simpa using hX0
     go_wp2_with (first
        | (guard_target =~ wpList _ _ _ ((⟨none,.store _ _ _,_,_,_,_⟩:Oper) :: _) _ _;refine wpList_store_row rfl 30 (.tmp 6) (.tmp 44) rfl w.heap.size segZ rfl rfl 30 segZ HR4.out Tryz.sizeSeg rfl segZ_one ?_)
        | fail)
     have HRF:=hide (Blk.row HR4.out segZ)
     have HBF:=hide (below_setRow HB4.out (Nat.le_refl _) segZ)
     exact bodyPost_ret (results_seg1 Tryz.results14 _ _ w.heap.size rfl HRF.out Tryz.sizeSeg) rfl (MakeAns.no HPX.out (HX0.out) HBF.out)
   ·have hcb:(codec==0)=false:=by simpa using hc0
    obtain⟨c,hcc⟩:∃ c,codec=c:=⟨_,rfl⟩
    have HC64:Hid (Z.I64 c):=by rw[← hcc];exact HC.out
    have HCC:Hid (Z.cc l kind codec=c):=by show _=_;unfold Z.cc;rw[if_neg hc0];exact hcc
    subst hcc
    go_wp2_with fail
    refine (sbody_any bo no cb (oth l) kind codec w2 HSO2.out HI.out HC64.out).mono ?_
    rintro e w4 ⟨ab,cp,rfl,hsl,hb4⟩
    obtain⟨n,hn⟩:∃ n,(Z.bd (oth l) kind codec).length=n:=⟨_,rfl⟩
    obtain⟨X,hX⟩:∃ X,Z.bE (oth l) kind codec=X:=⟨_,rfl⟩
    rw[hn] at hsl
    rw[hn,hX]
    have HPX:Hid (Z.mE l kind codec=X):=by show _=_;rw[HP.out,HCC.out];exact hX
    have HN:=hide hn
    have HSL:=hide hsl
    have HB4:=hide (bthen HB2.out hb4)
    have HR4:=hide (HR2.out.below hb4)
    have HSB4:=hide (HSB2.out.below hb4)
    have HS4:=hide (HS2.out.below hb4)
    clear hn hX hsl hb4 HB2 HR2 HSB2 HS2 HSO2 HP
    by_cases hX0:X=0
    ·subst hX0
     go_wp2_with fail
     refine (szone_any ao len cap l w4 HS4.out hm).mono ?_
     rintro e w5 ⟨rfl,hb5⟩
     obtain⟨nn,hnn⟩:∃ nn,cntT (nus l)=nn:=⟨_,rfl⟩
     obtain⟨⟨ak,ai,az⟩,ha⟩:∃ a,Z.lo (oth l)=a:=⟨_,rfl⟩
     obtain⟨⟨bk,bi,bz⟩,hbv⟩:∃ b,Z.hi (oth l)=b:=⟨_,rfl⟩
     rw[hnn,ha,hbv,show Z.zoneV len nn ⟨ak,ai,az⟩ ⟨bk,bi,bz⟩=#[.int .i64 (len:Int),.int .i64 (nn:Int),.int .i64 ak,.int .i64 ai,.string az,.int .i64 bk,.int .i64 bi,.string bz] from rfl]
     have HB5:=hide (bthen HB4.out hb5)
     have HR5:=hide (HR4.out.below hb5)
     have HSB5:=hide (HSB4.out.below hb5)
     have HSL5:=hide (HSL.out.below hb5)
     have HNN:=hide hnn
     have HA:=hide ha
     have HBV:=hide hbv
     clear hb5 hnn ha hbv HB4 HR4 HSB4 HSL HS4
     by_cases hn0:nn=0
     ·subst hn0
      have HX6:=hide (HR5.out.alloc (.cells #[.int .i64 kind,.int .i64 codec,.int .i64 (len:Int),.int .i64 0,.int .i64 ak,.int .i64 ai,.string az,.int .i64 bk,.int .i64 bi,.string bz,.slice none 0 0,.slice ab n cp] 30))
      have HSL6:=hide (HSL5.out.below (below_one w5 (.cells #[.int .i64 kind,.int .i64 codec,.int .i64 (len:Int),.int .i64 0,.int .i64 ak,.int .i64 ai,.string az,.int .i64 bk,.int .i64 bi,.string bz,.slice none 0 0,.slice ab n cp] 30)))
      have HSB6:=hide (HSB5.out.below (below_one w5 (.cells #[.int .i64 kind,.int .i64 codec,.int .i64 (len:Int),.int .i64 0,.int .i64 ak,.int .i64 ai,.string az,.int .i64 bk,.int .i64 bi,.string bz,.slice none 0 0,.slice ab n cp] 30)))
      have HB6:=hide (bthen HB5.out (below_one w5 (.cells #[.int .i64 kind,.int .i64 codec,.int .i64 (len:Int),.int .i64 0,.int .i64 ak,.int .i64 ai,.string az,.int .i64 bk,.int .i64 bi,.string bz,.slice none 0 0,.slice ab n cp] 30)))
      obtain⟨C,hC⟩:∃ C:Array Value,#[.int .i64 kind,.int .i64 codec,.int .i64 (len:Int),.int .i64 0,.int .i64 ak,.int .i64 ai,.string az,.int .i64 bk,.int .i64 bi,.string bz,.slice none 0 0,.slice ab n cp]=C:=⟨_,rfl⟩
      have HX13:Hid (Blk (w5.alloc (.cells #[.int .i64 kind,.int .i64 codec,.int .i64 (len:Int),.int .i64 0,.int .i64 ak,.int .i64 ai,.string az,.int .i64 bk,.int .i64 bi,.string bz,.slice none 0 0,.slice ab n cp] 30)) w5.heap.size C 30):=by rw[← hC];exact Blk.new _ _ _
      have HCI:Hid ((Tryz.prog.info? 30).map (·.size)=some C.size):=by show _=_;rw[← hC];exact Tryz.sizeSeg
      have HC8:Hid (segZ.size=C.size):=by show _=_;rw[← hC];rfl
      have HC1:Hid (C.all (·.oneCell')=true):=by show _=_;rw[← hC];simp[Value.oneCell']
      have HCC2:=hide hC
      clear hC
      go_wp2_with (first
       | (guard_target =~ wpList _ _ _ ((⟨some 58,.load _ _,_,_,_,_⟩:Oper) :: _) _ _;refine wpList_load_row rfl 30 (.tmp 13) rfl w5.heap.size rfl 30 C (0,0) _ HX13.out Tryz.underlying30 rfl HCI.out ?_)
       | (guard_target =~ wpList _ _ _ ((⟨none,.store _ _ _,_,_,_,_⟩:Oper) :: _) _ _;refine wpList_store_row rfl 30 (.tmp 6) (.tmp 58) rfl w.heap.size C rfl rfl 30 segZ HX6.out HCI.out HC8.out HC1.out ?_)
       | fail)
      have HRF:=hide (Blk.row HX6.out C)
      have HBF:=hide (below_setRow HB6.out (Nat.le_refl _) C)
      have HSG:=hide (seg_made (w:=(w5.alloc (.cells #[.int .i64 kind,.int .i64 codec,.int .i64 (len:Int),.int .i64 0,.int .i64 ak,.int .i64 ai,.string az,.int .i64 bk,.int .i64 bi,.string bz,.slice none 0 0,.slice ab n cp] 30)).setRow w.heap.size C) (vn:=.slice none 0 0) HCC.out HL.out HNN.out HA.out HBV.out HN.out (HSL6.out.row HX6.out segZ_u8 C) (.inl ⟨rfl,rfl⟩))
      refine bodyPost_ret (results_seg1 Tryz.results14 _ _ w.heap.size rfl HRF.out HCI.out) rfl ?_
      refine⟨HBF.out,.inl ⟨HPX.out,_,rfl,?_⟩⟩
      have h:=HSG.out
      rw[← HCC2.out] at h ⊢
      exact h
     ·have hn1:0<nn:=by omega
      have HN0:=hide hn0
      have HX6:=hide (HR5.out.alloc (.cells #[.int .i64 kind,.int .i64 codec,.int .i64 (len:Int),.int .i64 (nn:Int),.int .i64 ak,.int .i64 ai,.string az,.int .i64 bk,.int .i64 bi,.string bz,.slice an len cn,.slice ab n cp] 30))
      have HSL6:=hide (HSL5.out.below (below_one w5 (.cells #[.int .i64 kind,.int .i64 codec,.int .i64 (len:Int),.int .i64 (nn:Int),.int .i64 ak,.int .i64 ai,.string az,.int .i64 bk,.int .i64 bi,.string bz,.slice an len cn,.slice ab n cp] 30)))
      have HSB6:=hide (HSB5.out.below (below_one w5 (.cells #[.int .i64 kind,.int .i64 codec,.int .i64 (len:Int),.int .i64 (nn:Int),.int .i64 ak,.int .i64 ai,.string az,.int .i64 bk,.int .i64 bi,.string bz,.slice an len cn,.slice ab n cp] 30)))
      have HB6:=hide (bthen HB5.out (below_one w5 (.cells #[.int .i64 kind,.int .i64 codec,.int .i64 (len:Int),.int .i64 (nn:Int),.int .i64 ak,.int .i64 ai,.string az,.int .i64 bk,.int .i64 bi,.string bz,.slice an len cn,.slice ab n cp] 30)))
      obtain⟨C,hC⟩:∃ C:Array Value,#[.int .i64 kind,.int .i64 codec,.int .i64 (len:Int),.int .i64 (nn:Int),.int .i64 ak,.int .i64 ai,.string az,.int .i64 bk,.int .i64 bi,.string bz,.slice an len cn,.slice ab n cp]=C:=⟨_,rfl⟩
      have HX13:Hid (Blk (w5.alloc (.cells #[.int .i64 kind,.int .i64 codec,.int .i64 (len:Int),.int .i64 (nn:Int),.int .i64 ak,.int .i64 ai,.string az,.int .i64 bk,.int .i64 bi,.string bz,.slice an len cn,.slice ab n cp] 30)) w5.heap.size C 30):=by rw[← hC];exact Blk.new _ _ _
      have HCI:Hid ((Tryz.prog.info? 30).map (·.size)=some C.size):=by show _=_;rw[← hC];exact Tryz.sizeSeg
      have HC8:Hid (segZ.size=C.size):=by show _=_;rw[← hC];rfl
      have HC1:Hid (C.all (·.oneCell')=true):=by show _=_;rw[← hC];simp[Value.oneCell']
      have HCC2:=hide hC
      clear hC
      go_wp2_with (first
       | (guard_target =~ wpList _ _ _ ((⟨some 58,.load _ _,_,_,_,_⟩:Oper) :: _) _ _;refine wpList_load_row rfl 30 (.tmp 13) rfl w5.heap.size rfl 30 C (0,0) _ HX13.out Tryz.underlying30 rfl HCI.out ?_)
       | (guard_target =~ wpList _ _ _ ((⟨none,.store _ _ _,_,_,_,_⟩:Oper) :: _) _ _;refine wpList_store_row rfl 30 (.tmp 6) (.tmp 58) rfl w.heap.size C rfl rfl 30 segZ HX6.out HCI.out HC8.out HC1.out ?_)
       | fail)
      have HRF:=hide (Blk.row HX6.out C)
      have HBF:=hide (below_setRow HB6.out (Nat.le_refl _) C)
      have HSG:=hide (seg_made (w:=(w5.alloc (.cells #[.int .i64 kind,.int .i64 codec,.int .i64 (len:Int),.int .i64 (nn:Int),.int .i64 ak,.int .i64 ai,.string az,.int .i64 bk,.int .i64 bi,.string bz,.slice an len cn,.slice ab n cp] 30)).setRow w.heap.size C) (vn:=.slice an len cn) HCC.out HL.out HNN.out HA.out HBV.out HN.out (HSL6.out.row HX6.out segZ_u8 C) (.inr ⟨HN0.out,an,cn,rfl,HSB6.out.row HX6.out segZ_bool C⟩))
      refine bodyPost_ret (results_seg1 Tryz.results14 _ _ w.heap.size rfl HRF.out HCI.out) rfl ?_
      refine⟨HBF.out,.inl ⟨HPX.out,_,rfl,?_⟩⟩
      have h:=HSG.out
      rw[← HCC2.out] at h ⊢
      exact h
    ·have HX0:=hide hX0
     have hXb:(X != 0)=true:=by simpa using hX0
     go_wp2_with (first
        | (guard_target =~ wpList _ _ _ ((⟨none,.store _ _ _,_,_,_,_⟩:Oper) :: _) _ _;refine wpList_store_row rfl 30 (.tmp 6) (.tmp 44) rfl w.heap.size segZ rfl rfl 30 segZ HR4.out Tryz.sizeSeg rfl segZ_one ?_)
        | fail)
     have HRF:=hide (Blk.row HR4.out segZ)
     have HBF:=hide (below_setRow HB4.out (Nat.le_refl _) segZ)
     exact bodyPost_ret (results_seg1 Tryz.results14 _ _ w.heap.size rfl HRF.out Tryz.sizeSeg) rfl (MakeAns.no HPX.out (HX0.out) HBF.out)
 ·have HE0:=hide hE0
  have hEb:(E != 0)=true:=by simpa using hE0
  have HP:Hid (Z.mE l kind codec=E):=by show _=_;rw[mE_chk (by rw[HE.out];exact hE0)];exact HE.out
  go_wp2_with (first
     | (guard_target =~ wpList _ _ _ ((⟨none,.store _ _ _,_,_,_,_⟩:Oper) :: _) _ _;refine wpList_store_row rfl 30 (.tmp 6) (.tmp 24) rfl w.heap.size segZ rfl rfl 30 segZ HR2.out Tryz.sizeSeg rfl segZ_one ?_)
     | fail)
  have HRF:=hide (Blk.row HR2.out segZ)
  have HBF:=hide (below_setRow HB2.out (Nat.le_refl _) segZ)
  exact bodyPost_ret (results_seg1 Tryz.results14 _ _ w.heap.size rfl HRF.out Tryz.sizeSeg) rfl (MakeAns.no HP.out (HE0.out) HBF.out)
end Go.Proofs.YtnkpgmibhpmdhaaGreat

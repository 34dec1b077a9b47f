/- The walk of the statement: a segment's block with bits turned is corrupt. -/
import Derived.Test.YtnkpgmibhpmdhaaGreatBeV9
namespace Go.Proofs.YtnkpgmibhpmdhaaGreat
set_option linter.unusedVariables false
set_option maxRecDepth 10000
open Go.RowKit
def segTurnedTbl (g n hd:Nat) (u J c s y:Int):List (Nat × V.Ent) :=
  [(12,V.Ent.is (.slice (some ⟨g,0,none⟩) n n)),
  (14,V.Ent.is (.int .i64 (hd:Int))),
  (18,V.Ent.is (.int .i64 u)),
  (78,V.Ent.is (.slice (some ⟨g,0,none⟩) n n)),
  (79,V.Ent.is (.int .i64 (hd:Int))),
  (80,V.Ent.is (.int .i64 u)),
  (81,V.Ent.is (.int .i64 (u / 8))),
  (82,V.Ent.is (.int .i64 J)),
  (83,V.Ent.is (.slice (some ⟨g,0,none⟩) n n)),
  (84,V.Ent.is (.int .i64 (hd:Int))),
  (85,V.Ent.is (.int .i64 u)),
  (86,V.Ent.is (.int .i64 (u / 8))),
  (87,V.Ent.is (.int .i64 J)),
  (88,V.Ent.is (.pointer (some ⟨g,0+J.toNat,none⟩))),
  (89,V.Ent.is (.int .u8 c)),
  (90,V.Ent.is (.int .i64 u)),
  (91,V.Ent.is (.int .i64 (u%8))),
  (92,V.Ent.is (.int .u8 s)),
  (93,V.Ent.is (.int .u8 y)),
  (94,V.Ent.is (.pointer (some ⟨g,0+J.toNat,none⟩)))]
theorem wrap_pow8G:∀ k,k<8→IntKind.u8.wrap (2^k)=((2^k:Nat):Int):=by decide
theorem quo8G (u:Int) (w:World) (h0:0≤u) (h1:u<65600):(binOp .quo 3 (.int .i64 u) (.int .i64 8)).run Tryz.prog w=.ok (.int .i64 (u / 8)) w:=by
 have e:u.tdiv 8=u / 8:=Int.tdiv_eq_ediv_of_nonneg h0
 simp[go_sem,e,IntKind.wrap_i64];omega
theorem rem8G (u:Int) (w:World) (h0:0≤u) (h1:u<65600):(binOp .rem 3 (.int .i64 u) (.int .i64 8)).run Tryz.prog w=.ok (.int .i64 (u%8)) w:=by
 have e:u.tmod 8=u%8:=Int.tmod_eq_emod_of_nonneg h0
 simp[go_sem,e]
theorem Dt_anyG (a m k N:Nat):(∃ p,p<N∧K.Dt a m (k+1) p=true)↔(∃ p,p<N∧K.Dt a m k p=true)∨(a+k<N∧m.testBit k=true):=by
 constructor
 ·rintro⟨p,hp,h⟩
  rw[K.Dt_next] at h
  simp only[Bool.or_eq_true,Bool.and_eq_true,decide_eq_true_eq] at h
  rcases h with h|⟨rfl,h⟩
  ·exact .inl ⟨p,hp,h⟩
  ·exact .inr ⟨hp,h⟩
 ·rintro (⟨p,hp,h⟩|⟨hp,h⟩)
  ·exact⟨p,hp,by rw[K.Dt_next,h];rfl⟩
  ·exact⟨a+k,hp,by rw[K.Dt_next];simp[h]⟩
theorem wf_of {l:List Z.V} (h:∀ x∈l,Z.Wf x):∀ x∈l,Z.I64 x.i:=fun x hx=>(h x hx).2.1
set_option maxHeartbeats 8000000 in
theorem segTurned_in (w:World) (ao:Option Addr) (ll cap:Nat) (vals:List Z.V) (kind at_ mask:Int) (hsl:SlV w ao ll cap vals) (hwf:∀ x∈vals,Z.Wf x) (hm:ll*32≤140737488355328) (ha0:0≤at_) (ha1:at_<65536) (hm0:0≤mask) (hm1:mask<4294967296) :
  Calls Tryz.prog 4 #[.slice ao ll cap,.int .i64 kind,.int .u16 at_,.int .u32 mask] w fun e w'=>e=.returned (.bool true)∧Below w.heap.size w w':=by
 have HSL:=hide hsl
 have HWF:=hide hwf
 have HVL:=hide hsl.1
 clear hsl hwf
 go_enter Tryz.func4,Tryz.ntmps4
 go_wp2_with fail
 refine (gshown_any w).mono ?_
 rintro e w1 ⟨rfl,hb1⟩
 have HB1:=hide hb1
 clear hb1
 go_wp2_with fail
 refine (gfew_any ao ll cap vals w1 (HSL.out.below HB1.out) (by omega)).mono ?_
 rintro e w2 ⟨q,rfl,hq,rfl⟩
 cases q with
 | false =>
  clear hq
  go_wp2
  go_ret
  exact⟨rfl,HB1.out⟩
 | true =>
 have hll:=hq rfl
 clear hq
 go_wp2_with fail
 refine (smake_any ao ll cap vals kind 0 w2 (HSL.out.below HB1.out) (wf_of HWF.out) hm ⟨by decide,by decide⟩).mono ?_
 rintro e w3 ⟨hb3,hmk⟩
 have HB3:=hide (bthen HB1.out hb3)
 clear hb3
 rcases hmk with ⟨hmE,v,rfl,hv⟩|⟨hno,rfl⟩
 ·have hM:=made_of hmE
  have hsok:=made_sok HWF.out hM
  have hsz:=seg_size HWF.out hM (by rw[HVL.out];exact hll)
  have hlt:=seg_lt (l:=vals) (kind:=kind) (codec:=0) HWF.out
  have hok:=(of_made_block HWF.out hmE (by have:=hsz.2;omega) []).1
  rw[List.append_nil] at hok
  obtain⟨S,hS⟩:∃ S,Z.mS vals kind 0=S:=⟨_,rfl⟩
  rw[hS] at hv hsok hsz hlt hok
  obtain⟨l,hl⟩:∃ l,Z.sB S=l:=⟨_,rfl⟩
  rw[hl] at hsz hlt hok
  obtain⟨len,hlen⟩:∃ n,l.length=n:=⟨_,rfl⟩
  have hlenm:len≤1040000:=by rw[← hlen];exact hsz.2
  have HSOK:=hide hsok
  have H2:=hide hlt
  have HOK:=hide hok
  have HLS:=hide hl
  have HLL:=hide hlen
  have HV:=hide hv
  obtain⟨an,cn,ab,cb,rfl,_,_⟩:=hv
  obtain⟨k,c,r,nu,⟨k1,i1,s1⟩,⟨k2,i2,s2⟩,ns,bd⟩:=S
  unfold segC at HV ⊢
  simp only at HV ⊢
  obtain⟨ln,hln⟩:∃ x,ns.length=x:=⟨_,rfl⟩
  obtain⟨nd,hnd⟩:∃ x,bd.length=x:=⟨_,rfl⟩
  rw[hln,hnd] at HV ⊢
  have hb4:=below_one w3 (.cells #[.int .i64 k,.int .i64 c,.int .i64 (r:Int),.int .i64 (nu:Int),.int .i64 k1,.int .i64 i1,.string s1,.int .i64 k2,.int .i64 i2,.string s2,.slice an ln cn,.slice ab nd cb] 30)
  have HBY:=hide (sbytes_row _ _ _ (HV.out.below hb4) HSOK.out)
  have HB4:=hide (bthen HB3.out hb4)
  clear hmE hM hsok hsz hlt hok hS hl hln hnd hb4 hlen HV HB3
  go_wp2_with fail
  refine HBY.out.mono ?_
  rintro e w5 ⟨g,rfl,hg,hBg,hb5⟩
  rw[HLS.out] at hg ⊢
  have HB5:=hide (bthen HB4.out hb5)
  have HBg:=hide (show w.heap.size≤g by have:=HB4.out.size;omega)
  have HG:=hide hg
  have hbl:=K.block_length l
  rw[HLL.out] at hbl
  have hlp:=E.leb_pos len
  have hlt:=E.leb_ten len (by omega)
  have hkl:=K.block_lt l H2.out
  have hge:=E.g_put len (by omega) (l++K.le4 (K.crc l))
  have hbk:E.leb len++(l++K.le4 (K.crc l))=K.block l:=by unfold K.block;rw[HLL.out]
  rw[hbk] at hge
  obtain⟨hd,hhd⟩:∃ hd,(E.leb len).length=hd:=⟨_,rfl⟩
  rw[hhd] at hlp hlt hbl hge
  have HHD:=hide hhd
  obtain⟨n,hn⟩:∃ n,(K.block l).length=n:=⟨_,rfl⟩
  rw[hn] at hbl ⊢
  have HBn:=hide hbl
  have hnl:len≤n:=by omega
  have hnb:n≤1040020:=by omega
  have hsl5:Sl w5 .u8 (some ⟨g,0,none⟩) n n (ints (K.block l)):=by
   have:=Sl.of_row hg (by rw[hn];unfold maxLen;omega)
   rwa [hn] at this
  have HGET:=hide (get_any (some ⟨g,0,none⟩) n n (K.block l) w5 hsl5 hkl (by omega))
  have HGE:=hide hge
  have h1:decide ((hd:Int)<1)=false:=by simp;omega
  have h2:¬ n≤hd:=by omega
  have h3:decide (n≤hd)=false:=by simp;omega
  clear hg hBg hb5 hbl hkl hge hbk hhd hn hsl5 HBY HB4
  go_wp2_with fail
  refine HGET.out.mono ?_
  rintro e w6 ⟨rfl,hb6⟩
  rw[HGE.out.1,HGE.out.2.1,HGE.out.2.2]
  have HG6:Hid (w6.heap[g]?=some (.cells (B8 (K.block l)).toArray 5 (0,0))):=by show _=_;rw[hb6.block g (lt_of_block HG.out)];exact HG.out
  have HB3:=hide (bthen HB5.out hb6)
  obtain⟨lenI,hlenI⟩:∃ x:Int,((len:Nat):Int)=x:=⟨_,rfl⟩
  rw[hlenI]
  clear hb6 HG HGET hlenI
  replace HG:=HG6
  go_wp2_with fail
  clear h1 h2 h3
  go_loopw [16,17] (fun t i wr=>∃ (x:Int) (b:Bool) (P:List Nat),0≤x∧x≤32∧i=.int .i64 x∧t=.bool b∧Hid (K.Turn (K.Dt at_.toNat mask.toNat x.toNat) P (l++K.le4 (K.crc l))∧(b=true↔∃ p,p<8*(len+4)∧K.Dt at_.toNat mask.toNat x.toNat p=true)∧wr.heap[g]?=some (.cells (B8 (E.leb len++P)).toArray 5 (0,0))∧Below w.heap.size w wr)) (fun _ i _=>32 - (intOf i).toNat)
  case atStart =>
   refine⟨0,false,l++K.le4 (K.crc l),by omega,by omega,rfl,rfl,hide ⟨K.Turn.zero _ _ _ ?_,?_,?_,HB3.out⟩⟩
   ·intro y hy
    rcases List.mem_append.1 hy with h|h
    ·exact H2.out y h
    ·exact K.le4_lt _ y h
   ·simp only[Bool.false_eq_true,false_iff,not_exists,not_and]
    intro p _
    rw[show (0:Int).toNat=0 from rfl,K.Dt_zero];simp
   ·rw[HG.out];unfold K.block;rw[HLL.out]
  case round =>
   obtain⟨x,b,P,hx0,hx1,rfl,rfl,HR⟩:=hrel
   by_cases hlt2:x<32
   ·have hq0:0≤mask / 2^x.toNat:=Int.ediv_nonneg hm0 (by have:=Int.pow_pos (n:=2) (m:=x.toNat) (by omega);omega)
    have hq1:mask / 2^x.toNat<4294967296:=Int.lt_of_le_of_lt (Int.ediv_le_self _ hm0) hm1
    have hqn:(mask / 2^x.toNat).toNat=mask.toNat / 2^x.toNat:=by
     obtain⟨M,rfl⟩:=Int.eq_ofNat_of_zero_le hm0
     rw[Int.toNat_natCast,← pow_int,← Int.natCast_ediv,Int.toNat_natCast]
    obtain⟨mq,hy⟩:∃ y,mask / 2^x.toNat=y:=⟨_,rfl⟩
    rw[hy] at hq0 hq1 hqn
    have e1:=u32_and mq 1 hq0 hq1 (by omega) (by omega)
    rw[show (1:Int).toNat=1 from rfl,Nat.and_one_is_mod,hqn] at e1
    have HT:=hide (Nat.testBit_eq_decide_div_mod_eq (x:=mask.toNat) (i:=x.toNat))
    obtain⟨z,hz⟩:∃ z:Int,((mask.toNat / 2^x.toNat%2:Nat):Int)=z:=⟨_,rfl⟩
    rw[hz] at e1
    have HTz:Hid (mask.toNat.testBit x.toNat=decide (z=1)):=hide (by
     rw[HT.out,← hz]
     generalize mask.toNat / 2^x.toNat%2=M
     rw[decide_eq_decide];omega)
    obtain⟨u,hu⟩:∃ u,at_+x=u:=⟨_,rfl⟩
    have hu0:0≤u:=by omega
    have hu1:u<65600:=by omega
    have HU:=hide (show at_.toNat+x.toNat=u.toNat by omega)
    have HX1:=hide (show (x+1).toNat=x.toNat+1 by omega)
    have HQL:Hid ((l++K.le4 (K.crc l)).length=len+4):=hide (by rw[List.length_append,HLL.out,K.le4_length])
    clear hqn hz
    by_cases hbit:z=1
    ·subst hbit
     have HTB:Hid (mask.toNat.testBit x.toNat=true):=hide (by rw[HTz.out];rfl)
     by_cases hin:(hd:Int)+u / 8<(n:Int)
     ·go_wp2_with fail
      obtain⟨J,hJ⟩:∃ J:Int,(hd:Int)+u / 8=J:=⟨_,rfl⟩
      rw[hJ] at hin
      have hJ0:0≤J:=by omega
      have hJ1:J<(n:Int):=hin
      obtain⟨r1,r2,r3,r4⟩:=HR.out
      have hPl:P.length=len+4:=by rw[r1.1];exact HQL.out
      have hJn:J.toNat=hd+u.toNat / 8:=by omega
      have hu8:u.toNat / 8<len+4:=by have:=HBn.out;omega
      have hcell:wr.cell? ⟨g,0+J.toNat,none⟩=some (.int .u8 ((P.getD (u.toNat / 8) 0:Nat):Int)):=by
       rw[cell_of_row wr g _ _ 5 (0,0) r3,Nat.zero_add,B8_at _ _ (by rw[List.length_append,HHD.out,hPl];omega)]
       congr 3
       simp[List.getD,List.getElem?_append_right,HHD.out,hJn]
      have hcl:=getD_lt8 r1.2.1 (u.toNat / 8)
      obtain⟨c,hc⟩:∃ c:Int,((P.getD (u.toNat / 8) 0:Nat):Int)=c:=⟨_,rfl⟩
      rw[hc] at hcell
      have hsw:IntKind.u8.wrap (2^(u%8).toNat)=((2^(u.toNat%8):Nat):Int):=by
       rw[show (u%8).toNat=u.toNat%8 by omega]
       exact wrap_pow8G _ (by omega)
      have hs8:2^(u.toNat%8)<2^8:=Nat.pow_lt_pow_right (by omega) (by omega)
      obtain⟨S,hSS⟩:∃ S:Nat,2^(u.toNat%8)=S:=⟨_,rfl⟩
      have hS8:S<256:=by rw[← hSS];exact hs8
      obtain⟨s,hs⟩:∃ s:Int,((2^(u.toNat%8):Nat):Int)=s:=⟨_,rfl⟩
      have hsS:s=(S:Int):=by rw[← hs,hSS]
      clear hs8
      have hxy:=u8_xor c s (by omega) (by omega) (by rw[hsS];omega) (by rw[hsS];omega)
      obtain⟨y,hye⟩:∃ y:Int,((c.toNat ^^^ s.toNat:Nat):Int)=y:=⟨_,rfl⟩
      rw[hye] at hxy
      have hyn:y=((P.getD (u.toNat / 8) 0 ^^^ 2^(u.toNat%8):Nat):Int):=by
       rw[← hye,← hc,← hs,Int.toNat_natCast,Int.toNat_natCast]
      have hgs:g<wr.heap.size:=lt_of_block r3
      have hquo:=fun w:World=>quo8G u w hu0 hu1
      have hrem:=fun w:World=>rem8G u w hu0 hu1
      have hadd:∀ w:World,(binOp .add 3 (.int .i64 (hd:Int)) (.int .i64 (u / 8))).run Tryz.prog w=.ok (.int .i64 J) w:=fun w=>by
       simp[go_sem,IntKind.wrap_i64];omega
      have hshl:∀ w:World,(binOp .shl 5 (.int .u8 1) (.int .i64 (u%8))).run Tryz.prog w=.ok (.int .u8 s) w:=fun w=>by
       have h0:0≤u%8:=by omega
       have h8:u%8<8:=by omega
       simp[go_sem,hsw,hs]
      have hxor:∀ w:World,(binOp .xor 5 (.int .u8 c) (.int .u8 s)).run Tryz.prog w=.ok (.int .u8 y) w:=fun w=>by
       simp[go_sem,hxy]
      refine V.wp_region_byte (w0:=wr) [78,79,80,81,82,83,84,85,86,87,88,89,90,91,92,93,94] [12,14,18] (segTurnedTbl g n hd u J c s y) 94 93 g (0+J.toNat) y c rfl rfl (by kernel_rfl) (by kernel_rfl) (by kernel_rfl) rfl rfl (by kernel_rfl) rfl rfl hgs hcell (by simp[World.frozen?,r3]) (Below.refl _ _) ?hb ?hs ?hd
      case hb =>
       intro d hd
       simp only[List.mem_cons,List.not_mem_nil,or_false] at hd
       rcases hd with rfl|rfl|rfl<;>rfl
      case hs =>
       refine⟨?_,?_,?_,?_,?_,?_,?_,?_,?_,?_,?_,?_,?_,?_,?_,?_,?_,trivial⟩
       ·exact V.Step.move (.inl rfl) (.inl rfl) (.inl ⟨_,rfl⟩) (fun _ h=>by cases h;rfl)
       ·exact V.Step.move (.inl rfl) (.inl rfl) (.inl ⟨_,rfl⟩) (fun _ h=>by cases h;rfl)
       ·exact V.Step.move (.inl rfl) (.inl rfl) (.inl ⟨_,rfl⟩) (fun _ h=>by cases h;rfl)
       ·exact V.Step.bin (v:=.int .i64 (u / 8)) (.inl rfl) rfl (.inl ⟨_,rfl⟩) (.inr ⟨_,rfl⟩) rfl rfl (fun w=>⟨rfl,hquo w⟩) (fun _ h=>by cases h;rfl)
       ·exact V.Step.bin (v:=.int .i64 J) (.inl rfl) rfl (.inl ⟨_,rfl⟩) (.inl ⟨_,rfl⟩) rfl rfl (fun w=>⟨rfl,hadd w⟩) (fun _ h=>by cases h;rfl)
       ·exact V.Step.move (.inl rfl) (.inl rfl) (.inl ⟨_,rfl⟩) (fun _ h=>by cases h;rfl)
       ·exact V.Step.move (.inl rfl) (.inl rfl) (.inl ⟨_,rfl⟩) (fun _ h=>by cases h;rfl)
       ·exact V.Step.move (.inl rfl) (.inl rfl) (.inl ⟨_,rfl⟩) (fun _ h=>by cases h;rfl)
       ·exact V.Step.bin (v:=.int .i64 (u / 8)) (.inl rfl) rfl (.inl ⟨_,rfl⟩) (.inr ⟨_,rfl⟩) rfl rfl (fun w=>⟨rfl,hquo w⟩) (fun _ h=>by cases h;rfl)
       ·exact V.Step.bin (v:=.int .i64 J) (.inl rfl) rfl (.inl ⟨_,rfl⟩) (.inl ⟨_,rfl⟩) rfl rfl (fun w=>⟨rfl,hadd w⟩) (fun _ h=>by cases h;rfl)
       ·exact V.Step.at (i:=J) (.inl rfl) rfl rfl (.inl ⟨_,rfl⟩) rfl hJ0 hJ1 (fun _ h=>by cases h;rfl)
       ·exact V.Step.byte (.inl rfl) rfl rfl hgs hcell (fun _ h=>by cases h;rfl)
       ·exact V.Step.move (.inl rfl) (.inl rfl) (.inl ⟨_,rfl⟩) (fun _ h=>by cases h;rfl)
       ·exact V.Step.bin (v:=.int .i64 (u%8)) (.inl rfl) rfl (.inl ⟨_,rfl⟩) (.inr ⟨_,rfl⟩) rfl rfl (fun w=>⟨rfl,hrem w⟩) (fun _ h=>by cases h;rfl)
       ·exact V.Step.bin (v:=.int .u8 s) (.inl rfl) rfl (.inr ⟨_,rfl⟩) (.inl ⟨_,rfl⟩) rfl rfl (fun w=>⟨rfl,hshl w⟩) (fun _ h=>by cases h;rfl)
       ·exact V.Step.bin (v:=.int .u8 y) (.inl rfl) rfl (.inl ⟨_,rfl⟩) (.inl ⟨_,rfl⟩) rfl rfl (fun w=>⟨rfl,hxor w⟩) (fun _ h=>by cases h;rfl)
       ·exact V.Step.at (i:=J) (.inl rfl) rfl rfl (.inl ⟨_,rfl⟩) rfl hJ0 hJ1 (fun _ h=>by cases h;rfl)
      case hd =>
       intro vs w5 hb5 hk
       have hg5:w5.heap[g]?=some (.cells (B8 (E.leb len++P)).toArray 5 (0,0)):=by rw[hb5.block g hgs];exact r3
       simp only[V.puts,List.foldl_cons,List.foldl_nil,Act.put,List.setIfInBounds_toArray,List.set_cons_zero,List.set_cons_succ]
       have HNew:Hid (K.Turn (K.Dt at_.toNat mask.toNat (x+1).toNat) (P.set (u.toNat / 8) (P.getD (u.toNat / 8) 0 ^^^ 2^(u.toNat%8))) (l++K.le4 (K.crc l))∧(true=true↔∃ p,p<8*(len+4)∧K.Dt at_.toNat mask.toNat (x+1).toNat p=true)∧(w5.setCell ⟨g,0+J.toNat,none⟩ (.int .u8 y)).heap[g]?=some (.cells (B8 (E.leb len++P.set (u.toNat / 8) (P.getD (u.toNat / 8) 0 ^^^ 2^(u.toNat%8)))).toArray 5 (0,0))∧Below w.heap.size w (w5.setCell ⟨g,0+J.toNat,none⟩ (.int .u8 y))):=hide (by
        refine⟨?_,?_,?_,?_⟩
        ·have:=r1.flip HTB.out (by rw[HU.out,HQL.out];exact hu8)
         rw[HU.out] at this
         rw[HX1.out]
         exact this
        ·rw[HX1.out,Dt_anyG]
         exact⟨fun _=>.inr ⟨by rw[HU.out];omega,HTB.out⟩,fun _=>rfl⟩
        ·rw[heap_setCell_row hg5,hyn,V.row_set]
         congr 4
         rw[Nat.zero_add,hJn,List.set_append_right _ _ (by rw[HHD.out];omega),HHD.out]
         congr 2;omega
        ·exact (r4.trans (hb5.mono r4.size)).setCell (p:=⟨g,0+J.toNat,none⟩) HBg.out _)
       obtain⟨w6,hw6⟩:∃ w6,w5.setCell ⟨g,0+J.toNat,none⟩ (.int .u8 y)=w6:=⟨_,rfl⟩
       rw[hw6] at HNew ⊢
       clear hk hg5 hw6 r1 r2 r3 r4 hquo hrem hadd hshl hxor hcell
       go_wp2_with fail
       go_roundw
       case rel=>exact⟨x+1,true,_,by omega,by omega,rfl,rfl,HNew⟩
       case measure=>simp[intOf];omega
     ·have HR2:Hid (K.Turn (K.Dt at_.toNat mask.toNat (x+1).toNat) P (l++K.le4 (K.crc l))∧(b=true↔∃ p,p<8*(len+4)∧K.Dt at_.toNat mask.toNat (x+1).toNat p=true)∧wr.heap[g]?=some (.cells (B8 (E.leb len++P)).toArray 5 (0,0))∧Below w.heap.size w wr):=hide (by
       obtain⟨r1,r2,r3,r4⟩:=HR.out
       have hfar:len+4≤u.toNat / 8:=by have:=HBn.out;omega
       refine⟨?_,?_,r3,r4⟩
       ·rw[HX1.out];exact r1.skip (.inr (by rw[HU.out,HQL.out];exact hfar))
       ·rw[HX1.out,Dt_anyG,r2]
        exact⟨fun h=>.inl h,fun h=>h.elim id fun h=>by have:=h.1;rw[HU.out] at this;omega⟩)
      go_wp2
      go_roundw
      case rel=>exact⟨x+1,b,P,by omega,by omega,rfl,rfl,HR2⟩
      case measure=>simp[intOf];omega
    ·have hzb:(z==1)=false:=by simp[hbit]
     have HR2:Hid (K.Turn (K.Dt at_.toNat mask.toNat (x+1).toNat) P (l++K.le4 (K.crc l))∧(b=true↔∃ p,p<8*(len+4)∧K.Dt at_.toNat mask.toNat (x+1).toNat p=true)∧wr.heap[g]?=some (.cells (B8 (E.leb len++P)).toArray 5 (0,0))∧Below w.heap.size w wr):=hide (by
      obtain⟨r1,r2,r3,r4⟩:=HR.out
      have htb:mask.toNat.testBit x.toNat=false:=by rw[HTz.out];simp[hbit]
      refine⟨?_,?_,r3,r4⟩
      ·rw[HX1.out];exact r1.skip (.inl htb)
      ·rw[HX1.out,Dt_anyG,r2]
       exact⟨fun h=>.inl h,fun h=>h.elim id fun h=>by rw[htb] at h;simp at h⟩)
     go_wp2
     go_roundw
     case rel=>exact⟨x+1,b,P,by omega,by omega,rfl,rfl,HR2⟩
     case measure=>simp[intOf];omega
   ·obtain rfl:x=32:=by omega
    obtain⟨r1,r2,r3,r4⟩:=HR.out
    have hPl:P.length=len+4:=by rw[r1.1,List.length_append,HLL.out,K.le4_length]
    have hLn:(E.leb len++P).length=n:=by rw[List.length_append,HHD.out,hPl];have:=HBn.out;omega
    have hsf:Sl wr .u8 (some ⟨g,0,none⟩) n n (ints (E.leb len++P)):=by
     have:=Sl.of_row r3 (by rw[hLn];unfold maxLen;omega)
     rwa [hLn] at this
    have hL2:∀ y∈E.leb len++P,y<256:=by
     intro y hy
     rcases List.mem_append.1 hy with h|h
     ·exact E.leb_lt _ y h
     ·exact r1.2.1 y h
    have HOFC:=hide (sof_any (some ⟨g,0,none⟩) n n (E.leb len++P) wr hsf hL2 (by omega))
    have hB:Hid (Below w.heap.size w wr):=hide r4
    cases b with
    | false =>
     have hz:∀ k,k<8*(l.length+4)→K.Dt at_.toNat mask.toNat (32:Int).toNat k=false:=fun k hk=>by
      rw[HLL.out] at hk
      cases hD:K.Dt at_.toNat mask.toNat (32:Int).toNat k with
      | false=>rfl
      | true=>exact absurd (r2.2 ⟨k,by omega,hD⟩) (by simp)
     have hP:=turned_not H2.out r1 hz
     rw[HLL.out] at hP
     have HE0:Hid (Z.ofE (E.leb len++P)=0):=by show _=_;rw[hP];exact HOK.out
     clear r1 r2 r3 r4 hsf hL2 hPl hLn hz hP HR
     go_wp2_with fail
     refine HOFC.out.mono ?_
     rintro e w5 ⟨hb5,hof⟩
     rcases hof with ⟨_,v,ra,rc,rfl,hv,_⟩|⟨hno,_⟩
     ·obtain⟨an,cn,ab,cb,rfl,_,_⟩:=hv
      obtain⟨k,c,r,nu,⟨k1,i1,s1⟩,⟨k2,i2,s2⟩,ns,bd⟩:=Z.rS (K.oX (E.leb len++P))
      unfold segC
      simp only
      obtain⟨ln,hln⟩:∃ x,ns.length=x:=⟨_,rfl⟩
      obtain⟨nd,hnd⟩:∃ x,bd.length=x:=⟨_,rfl⟩
      obtain⟨rl,hrl⟩:∃ x,(Z.ofR (E.leb len++P)).length=x:=⟨_,rfl⟩
      rw[hln,hnd,hrl]
      have HBF:=hide (bthen (bthen hB.out hb5) (below_one w5 (.cells #[.int .i64 k,.int .i64 c,.int .i64 (r:Int),.int .i64 (nu:Int),.int .i64 k1,.int .i64 i1,.string s1,.int .i64 k2,.int .i64 i2,.string s2,.slice an ln cn,.slice ab nd cb] 30)))
      clear hln hnd hrl hb5 HOFC
      go_wp2
      go_ret
      exact⟨rfl,HBF.out⟩
     ·exact absurd HE0.out hno
    | true =>
     obtain⟨k,hk,hD⟩:=r2.1 rfl
     have hbad:=turned_bad (m:=1048576) (by rw[HLL.out];omega) (by rw[HLL.out];omega) H2.out r1 (lo:=at_.toNat) (fun k hk=>K.Dt_in hk) ⟨k,by rw[HLL.out];exact hk,hD⟩
     rw[HLL.out] at hbad
     have HE5:Hid (Z.ofE (E.leb len++P)=5):=by show _=_;rw[of_bad (by rw[hbad];decide),hbad];rfl
     clear r1 r2 r3 r4 hsf hL2 hPl hLn hk hD hbad HR
     go_wp2_with fail
     refine HOFC.out.mono ?_
     rintro e w5 ⟨hb5,hof⟩
     rcases hof with ⟨h0,_⟩|⟨_,rfl⟩
     ·exact absurd (HE5.out.symm.trans h0) (by decide)
     ·rw[HE5.out]
      unfold segZ
      have HBF:=hide (bthen (bthen hB.out hb5) (below_one w5 (.cells #[.int .i64 0,.int .i64 0,.int .i64 0,.int .i64 0,.int .i64 0,.int .i64 0,.string ⟨#[]⟩,.int .i64 0,.int .i64 0,.string ⟨#[]⟩,.slice none 0 0,.slice none 0 0] 30)))
      clear hb5 HOFC
      go_wp2
      go_ret
      exact⟨rfl,HBF.out⟩
 ·obtain⟨E,hE⟩:∃ E,Z.mE vals kind 0=E:=⟨_,rfl⟩
  rw[hE] at hno ⊢
  have heb:(E != 0)=true:=by simpa using hno
  unfold segZ
  have HBF:=hide (bthen HB3.out (below_one w3 (.cells #[.int .i64 0,.int .i64 0,.int .i64 0,.int .i64 0,.int .i64 0,.int .i64 0,.string ⟨#[]⟩,.int .i64 0,.int .i64 0,.string ⟨#[]⟩,.slice none 0 0,.slice none 0 0] 30)))
  clear hE hno
  go_wp2
  go_ret
  exact⟨rfl,HBF.out⟩
theorem wf_u32G {n:Int} (h:(Lit.int .u32 n).wf=true):0≤n∧n<4294967296:=by
 have:=bounds_u32 h;omega
theorem segTurned_walk (w:World) (a:Option Addr) (len cap:Nat) (l:List Z.V) (hs:SlV w a len cap l) (hwf:∀ x∈l,Z.Wf x) (hr:cap*32≤140737488351232) (kind:Int) (wk:(Lit.int .i64 kind).wf=true) (at_:Int) (wa:(Lit.int .u16 at_).wf=true) (mask:Int) (wm:(Lit.int .u32 mask).wf=true) :
  Calls Tryz.prog 4 #[.slice a len cap,.int .i64 kind,.int .u16 at_,.int .u32 mask] w fun e w'=>e=.returned (.bool true)∧Below w.heap.size w w':=by
 obtain⟨h0,h1⟩:=wf_u16 wa
 obtain⟨h2,h3⟩:=wf_u32G wm
 have hc:=hs.2.1
 exact segTurned_in w a len cap l kind at_ mask hs hwf (by omega) h0 h1 h2 h3
end Go.Proofs.YtnkpgmibhpmdhaaGreat

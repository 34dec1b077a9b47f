/- The walk of the statement: a segment's bytes, cut, are refused; segments one behind the other are read. -/
import Derived.Test.YtnkpgmibhpmdhaaGreatBeV20
namespace Go.Proofs.YtnkpgmibhpmdhaaGreat
set_option linter.unusedVariables false
set_option maxRecDepth 10000
open Go.RowKit
def segCutsTbl (B0 g n Gt m:Nat) (kb kt:List Nat) (C:Array Value) (S:Z.S):List (Nat × V.Ent) :=
 [(14,V.Ent.is (.slice (some ⟨g,0,none⟩) n n)),(12,V.Ent.is (.pointer (some ⟨Gt,0,none⟩))),(72,V.Ent.own B0 []),(73,V.Ent.is (.slice (some ⟨g,0,none⟩) n n)),(74,V.Ent.own B0 kb),(75,V.Ent.is (.agg C)),(76,V.Ent.sl m kt),(77,V.Ent.own B0 (kb++kt)),(78,V.Ent.segT S m kt (.int .i64 0)),(71,V.Ent.segT S m kt (.int .i64 0)),(79,V.Ent.segV S),(80,V.Ent.sl m kt),(81,V.Ent.is (.int .i64 0)),(18,V.Ent.newS B0 30 segZ),(19,V.Ent.sl m kt),(20,V.Ent.is (.int .i64 0))]
set_option maxHeartbeats 8000000 in
theorem segCuts_in (w:World) (ao:Option Addr) (ll cap:Nat) (vals:List Z.V) (bo:Option Addr) (ml bcap:Nat) (more:List Z.V) (kind cut:Int) (hsl:SlV w ao ll cap vals) (hwf:∀ x∈vals,Z.Wf x) (hm:ll*32≤140737488355328) (hsl2:SlV w bo ml bcap more) (hwf2:∀ x∈more,Z.Wf x) (hm2:ml*32≤140737488355328) (hc0:0≤cut) (hc1:cut<65536) :
  Calls Tryz.prog 6 #[.slice ao ll cap,.slice bo ml bcap,.int .i64 kind,.int .u16 cut] w fun e w'=>e=.returned (.bool true)∧Below w.heap.size w w':=by
 have HSL:=hide hsl
 have HWFs:=hide hwf
 have HVLs:=hide hsl.1
 have HSL2:=hide hsl2
 have HWFt:=hide hwf2
 have HVLt:=hide hsl2.1
 clear hsl hwf hsl2 hwf2
 go_enter Tryz.func6,Tryz.ntmps6
 go_wp2_with fail
 refine (gshown_any w).mono ?_
 rintro e w1 ⟨rfl,hb1⟩
 have HB1:=hide hb1
 clear hb1
 go_wp2_with fail
 refine (gfew_any ao ll cap vals w1 (HSL.out.below HB1.out) (by omega)).mono ?_
 rintro e w2 ⟨q,rfl,hq,hww⟩
 obtain rfl:w1=w2:=hww.symm
 cases q with
 | false =>
  clear hq hww
  go_wp2
  go_ret
  exact⟨rfl,HB1.out⟩
 | true =>
 have hll:=hq rfl
 clear hq hww
 go_wp2_with fail
 refine (gfew_any bo ml bcap more w1 (HSL2.out.below HB1.out) (by omega)).mono ?_
 rintro e w2 ⟨q,rfl,hq,hww⟩
 obtain rfl:w1=w2:=hww.symm
 cases q with
 | false =>
  clear hq hww
  go_wp2
  go_ret
  exact⟨rfl,HB1.out⟩
 | true =>
 have hml:=hq rfl
 clear hq hww
 go_wp2_with fail
 refine (smake_any ao ll cap vals kind 0 w1 (HSL.out.below HB1.out) (fun x hx=>(HWFs.out x hx).2.1) hm ⟨by decide,by decide⟩).mono ?_
 rintro e w3 ⟨hb3,hmk⟩
 have HB3:=hide (bthen HB1.out hb3)
 clear hb3
 rcases hmk with ⟨hmE,v,rfl,hv⟩|⟨hno,rfl⟩
 ·have hM:=made_of hmE
  have hsok:=made_sok HWFs.out hM
  have hsz:=seg_size HWFs.out hM (by rw[HVLs.out];exact hll)
  have hlt:=seg_lt (l:=vals) (kind:=kind) (codec:=0) HWFs.out
  have hok:=fun more=>of_made_block HWFs.out hmE (by have:=hsz.2;omega) more
  have hrs:=rS_made HWFs.out hM
  have hnl:(Z.mS vals kind 0).ns.length≤4096:=by
   show (if cntT (nus vals)=0 then [] else nus vals).length≤4096
   have:=hM.most
   split
   ·simp
   ·rw[nus_length];exact this
  obtain⟨sS,hS⟩:∃ S,Z.mS vals kind 0=S:=⟨_,rfl⟩
  rw[hS] at hv hsok hsz hlt hok hrs hnl
  obtain⟨sB,hB⟩:∃ B,Z.sB sS=B:=⟨_,rfl⟩
  rw[hB] at hsz hlt hok hrs
  have sHSOK:=hide hsok
  have sHLT:=hide hlt
  have sHSZ:=hide hsz.2
  have sHOK:=hide hok
  have sHRS:=hide hrs
  have sHNL:=hide hnl
  have sHB:=hide hB
  have sHV:=hide hv
  obtain⟨san,scn,sab,scb,rfl,_,_⟩:=hv
  obtain⟨sk,sc,sr,sn,⟨sk1,si1,ss1⟩,⟨sk2,si2,ss2⟩,sns,sbd⟩:=sS
  unfold segC at sHV ⊢
  simp only at sHV ⊢
  obtain⟨sln,hln⟩:∃ x,sns.length=x:=⟨_,rfl⟩
  obtain⟨snd,hnd⟩:∃ x,sbd.length=x:=⟨_,rfl⟩
  rw[hln,hnd] at sHV ⊢
  have HLNS:=hide hln
  have HNDS:=hide hnd
  clear hmE hM hsok hsz hlt hok hrs hnl hS hB hln hnd
  obtain⟨w4,hw⟩:∃ x,w3.alloc (.cells #[.int .i64 sk,.int .i64 sc,.int .i64 (sr:Int),.int .i64 (sn:Int),.int .i64 sk1,.int .i64 si1,.string ss1,.int .i64 sk2,.int .i64 si2,.string ss2,.slice san sln scn,.slice sab snd scb] 30)=x:=⟨_,rfl⟩
  have hb:Below w3.heap.size w3 w4:=by rw[← hw];exact below_one w3 _
  obtain⟨Gs,hGs⟩:∃ G,w3.heap.size=G:=⟨_,rfl⟩
  have hA:Blk w4 Gs #[.int .i64 sk,.int .i64 sc,.int .i64 (sr:Int),.int .i64 (sn:Int),.int .i64 sk1,.int .i64 si1,.string ss1,.int .i64 sk2,.int .i64 si2,.string ss2,.slice san sln scn,.slice sab snd scb] 30:=by rw[← hw,← hGs];exact Blk.new w3 _ _
  have sHA:=hide hA
  have HB4:=hide (bthen HB3.out hb)
  have sHV2:=hide (sHV.out.below hb)
  have HWw4:=hide hw
  clear hw hb hA sHV
  have HMK2:=hide (smake_any bo ml bcap more kind 0 w4 (HSL2.out.below HB4.out) (fun x hx=>(HWFt.out x hx).2.1) hm2 ⟨by decide,by decide⟩)
  go_wp2_with fail
  rw[HWw4.out]
  refine HMK2.out.mono ?_
  rintro e w5 ⟨hb5,hmk⟩
  have HB5:=hide (bthen HB4.out hb5)
  replace sHA:=hide (sHA.out.below hb5)
  replace sHV2:=hide (sHV2.out.below hb5)
  clear hb5 HMK2 HWw4
  rcases hmk with ⟨hmE,v,rfl,hv⟩|⟨hno,rfl⟩
  ·have hM:=made_of hmE
   have hsok:=made_sok HWFt.out hM
   have hsz:=seg_size HWFt.out hM (by rw[HVLt.out];exact hml)
   have hlt:=seg_lt (l:=more) (kind:=kind) (codec:=0) HWFt.out
   have hok:=fun more=>of_made_block HWFt.out hmE (by have:=hsz.2;omega) more
   have hrs:=rS_made HWFt.out hM
   have hnl:(Z.mS more kind 0).ns.length≤4096:=by
    show (if cntT (nus more)=0 then [] else nus more).length≤4096
    have:=hM.most
    split
    ·simp
    ·rw[nus_length];exact this
   obtain⟨tS,hS⟩:∃ S,Z.mS more kind 0=S:=⟨_,rfl⟩
   rw[hS] at hv hsok hsz hlt hok hrs hnl
   obtain⟨tB,hB⟩:∃ B,Z.sB tS=B:=⟨_,rfl⟩
   rw[hB] at hsz hlt hok hrs
   have tHSOK:=hide hsok
   have tHLT:=hide hlt
   have tHSZ:=hide hsz.2
   have tHOK:=hide hok
   have tHRS:=hide hrs
   have tHNL:=hide hnl
   have tHB:=hide hB
   have tHV:=hide hv
   obtain⟨tan,tcn,tab,tcb,rfl,_,_⟩:=hv
   obtain⟨tk,tc,tr,tn,⟨tk1,ti1,ts1⟩,⟨tk2,ti2,ts2⟩,tns,tbd⟩:=tS
   unfold segC at tHV ⊢
   simp only at tHV ⊢
   obtain⟨tln,hln⟩:∃ x,tns.length=x:=⟨_,rfl⟩
   obtain⟨tnd,hnd⟩:∃ x,tbd.length=x:=⟨_,rfl⟩
   rw[hln,hnd] at tHV ⊢
   have HLNT:=hide hln
   have HNDT:=hide hnd
   clear hmE hM hsok hsz hlt hok hrs hnl hS hB hln hnd
   obtain⟨w6,hw⟩:∃ x,w5.alloc (.cells #[.int .i64 tk,.int .i64 tc,.int .i64 (tr:Int),.int .i64 (tn:Int),.int .i64 tk1,.int .i64 ti1,.string ts1,.int .i64 tk2,.int .i64 ti2,.string ts2,.slice tan tln tcn,.slice tab tnd tcb] 30)=x:=⟨_,rfl⟩
   have hb:Below w5.heap.size w5 w6:=by rw[← hw];exact below_one w5 _
   obtain⟨Gt,hGt⟩:∃ G,w5.heap.size=G:=⟨_,rfl⟩
   have hA:Blk w6 Gt #[.int .i64 tk,.int .i64 tc,.int .i64 (tr:Int),.int .i64 (tn:Int),.int .i64 tk1,.int .i64 ti1,.string ts1,.int .i64 tk2,.int .i64 ti2,.string ts2,.slice tan tln tcn,.slice tab tnd tcb] 30:=by rw[← hw,← hGt];exact Blk.new w5 _ _
   have tHA:=hide hA
   have HB6:=hide (bthen HB5.out hb)
   have tHV2:=hide (tHV.out.below hb)
   have HWw6:=hide hw
   clear hw hb hA tHV
   have hb6':Below w5.heap.size w5 w6:=by rw[← HWw6.out];exact below_one w5 _
   replace sHA:=hide (sHA.out.below hb6')
   replace sHV2:=hide (sHV2.out.below hb6')
   have HBY:=hide (sbytes_row _ _ w6 sHV2.out sHSOK.out)
   clear hb6'
   go_wp2_with (first
    | (guard_target =~ wpList _ _ _ ((⟨some 54,.load _ _,_,_,_,_⟩:Oper) :: _) _ _;rw[HWw6.out];refine wpList_load_row rfl 30 (.tmp 10) rfl Gs rfl 30 #[.int .i64 sk,.int .i64 sc,.int .i64 (sr:Int),.int .i64 (sn:Int),.int .i64 sk1,.int .i64 si1,.string ss1,.int .i64 sk2,.int .i64 si2,.string ss2,.slice san sln scn,.slice sab snd scb] (0,0) _ sHA.out Tryz.underlying30 rfl Tryz.sizeSeg ?_)
    | fail)
   refine HBY.out.mono ?_
   rintro e w7 ⟨g,rfl,hg,hBg,hb7⟩
   rw[sHB.out] at hg ⊢
   obtain⟨kb,hkb⟩:∃ x,K.block sB=x:=⟨_,rfl⟩
   obtain⟨kt,hkt⟩:∃ x,K.block tB=x:=⟨_,rfl⟩
   have hlen:=K.block_length sB
   have hlent:=K.block_length tB
   have hk1:=K.block_lt sB sHLT.out
   have hk2:=K.block_lt tB tHLT.out
   have hok:=sHOK.out kt
   have hok2:=tHOK.out []
   rw[hkt,List.append_nil] at hok2
   have hlp:=E.leb_ten sB.length (by have:=sHSZ.out;omega)
   have hlpt:=E.leb_ten tB.length (by have:=tHSZ.out;omega)
   have hcut:=fun k=>cut_short (l:=sB) (m:=1048576) (by have:=sHSZ.out;omega) (by have:=sHSZ.out;omega) (k:=k)
   rw[hkb] at hg hlen hk1 hok hcut ⊢
   rw[hkt] at hlent hk2
   obtain⟨n,hn⟩:∃ n,kb.length=n:=⟨_,rfl⟩
   obtain⟨m,hmm⟩:∃ m,kt.length=m:=⟨_,rfl⟩
   rw[hn] at hlen hcut ⊢
   rw[hmm] at hlent
   have hn0:0<n:=by omega
   have hnm:n≤1040020:=by have:=sHSZ.out;omega
   have hmm2:m≤1040020:=by have:=tHSZ.out;omega
   have hsl7:Sl w7 .u8 (some ⟨g,0,none⟩) n n (ints kb):=by
    have:=Sl.of_row hg (by rw[hn];unfold maxLen;omega)
    rwa [hn] at this
   have HKB256:=hide hk1
   have HKT256:=hide hk2
   have HOKT:=hide hok
   have HOK2:=hide hok2
   have HCUT:=hide hcut
   have HN:=hide hn
   have HM:=hide hmm
   have HKT:Hid (K.block (Z.sB ⟨tk,tc,tr,tn,⟨tk1,ti1,ts1⟩,⟨tk2,ti2,ts2⟩,tns,tbd⟩)=kt):=by show _=_;rw[tHB.out];exact hkt
   have HB7:=hide (bthen HB6.out hb7)
   have tHV7:=hide (tHV2.out.below hb7)
   have tHA7:=hide (tHA.out.below hb7)
   have HSL7:=hide hsl7
   have hn0b:((n:Int)==0)=false:=by simp;omega
   have hm0:=Int.emod_nonneg cut (show (n:Int)≠0 by omega)
   have hm1:=Int.emod_lt_of_pos cut (show (0:Int)<(n:Int) by omega)
   obtain⟨D,hD⟩:∃ D:Nat,cut%(n:Int)=(D:Int):=⟨(cut%(n:Int)).toNat,by omega⟩
   have hDn:D<n:=by omega
   obtain⟨qa,hqs,hr1,hr2⟩:=head_of hsl7 (Nat.le_of_lt hDn)
   rw[← hD] at hr1 hr2
   have htm:cut.tmod (n:Int)=cut%(n:Int):=Int.tmod_eq_emod_of_nonneg hc0
   have HOFD:=hide (sof_any qa D n (kb.take D) w7 hqs (fun y hy=>hk1 y (List.mem_of_mem_take hy)) (by omega))
   have HE3:Hid (Z.ofE (kb.take D)=3):=by
    show _=_
    have h3:=hcut D hDn
    rw[of_bad (by rw[h3];decide),h3]
    rfl
   clear hkb hkt hlen hlent hk1 hk2 hok hok2 hlp hlpt hcut hg hBg hb7 hn hmm hsl7 HBY HWw6 sHV2 sHA tHA tHV2 hqs hD
   go_wp2_with fail
   refine HOFD.out.mono ?_
   rintro e w8 ⟨hb8,hof⟩
   rcases hof with ⟨h0,_⟩|⟨_,rfl⟩
   ·exact absurd (HE3.out.symm.trans h0) (by decide)
   rw[HE3.out]
   unfold segZ
   obtain⟨w9,hw9⟩:∃ x,w8.alloc (.cells #[.int .i64 0,.int .i64 0,.int .i64 0,.int .i64 0,.int .i64 0,.int .i64 0,.string ⟨#[]⟩,.int .i64 0,.int .i64 0,.string ⟨#[]⟩,.slice none 0 0,.slice none 0 0] 30)=x:=⟨_,rfl⟩
   have hb9:=bthen hb8 (show Below w8.heap.size w8 w9 by rw[← hw9];exact below_one w8 _)
   have HSL9:=hide (HSL7.out.below hb9)
   have HB9:=hide (bthen HB7.out hb9)
   have tHV9:=hide (tHV7.out.below hb9)
   have tHA9:=hide (tHA7.out.below hb9)
   have HW9:=hide hw9
   have HTI:Hid ((Tryz.prog.info? 30).map (·.size)=some (#[.int .i64 tk,.int .i64 tc,.int .i64 (tr:Int),.int .i64 (tn:Int),.int .i64 tk1,.int .i64 ti1,.string ts1,.int .i64 tk2,.int .i64 ti2,.string ts2,.slice tan tln tcn,.slice tab tnd tcb]:Array Value).size):=Tryz.sizeSeg
   obtain⟨S,hS⟩:∃ S,(⟨sk,sc,sr,sn,⟨sk1,si1,ss1⟩,⟨sk2,si2,ss2⟩,sns,sbd⟩:Z.S)=S:=⟨_,rfl⟩
   rw[hS] at sHRS
   clear hb8 hb9 hw9 HOFD hr1 hr2 htm hS HB7 tHV7 tHA7 HSL7 hm0 hm1
   go_wp2_with fail
   rw[HW9.out]
   refine V.wp_region_dead (w0:=w9) [72,73,74,75,76,77,78,71,79,80,81,18,19,20] [14,12] [(2,[72]),(5,[74,72,76]),(12,[18,72,74,76,77])] (segCutsTbl w9.heap.size g n Gt m kb kt #[.int .i64 tk,.int .i64 tc,.int .i64 (tr:Int),.int .i64 (tn:Int),.int .i64 tk1,.int .i64 ti1,.string ts1,.int .i64 tk2,.int .i64 ti2,.string ts2,.slice tan tln tcn,.slice tab tnd tcb] S) (fun _ _=>True) 12 rfl Tryz.mixed (by kernel_rfl) (by kernel_rfl) (Below.refl _ _) ?hb ?hs ?hX ?hd
   case hb =>
    intro d hd
    simp only[List.mem_cons,List.not_mem_nil,or_false] at hd
    rcases hd with rfl|rfl<;>rfl
   case hs =>
    refine⟨.inl ⟨rfl,by decide,?_⟩,.inl ⟨rfl,by decide,?_⟩,.inr ⟨.inr (by kernel_rfl),?_⟩,.inl ⟨rfl,by decide,?_⟩,.inl ⟨rfl,by decide,?_⟩,.inr ⟨.inr (by kernel_rfl),?_⟩,.inl ⟨rfl,by decide,?_⟩,.inl ⟨rfl,by decide,?_⟩,.inl ⟨rfl,by decide,?_⟩,.inl ⟨rfl,by decide,?_⟩,.inl ⟨rfl,by decide,?_⟩,.inl ⟨rfl,by decide,?_⟩,.inr ⟨.inl rfl,?_⟩,.inl ⟨rfl,by decide,?_⟩,.inl ⟨rfl,by decide,?_⟩,trivial⟩
    ·exact V.Step.empty (.inl rfl) rfl (fun _ h=>by cases h;rfl)
    ·exact V.Step.move (.inl rfl) (.inl rfl) (.inl ⟨_,rfl⟩) (fun _ h=>by cases h;rfl)
    ·refine V.Touch.app (l:=[]) (news:=kb) rfl rfl rfl rfl HSL9.out (by simp;omega) (fun _ h=>by cases h;rfl) (by decide) (fun d hd=>?_)
     replace hd:d∈[14,12]∨d∈[73,75,18]:=by
      rcases hd with hd|hd
      ·exact .inl hd
      ·exact .inr (V.mem_alive [73,75,18] hd (by kernel_rfl))
     simp only[List.mem_cons,List.not_mem_nil,or_false] at hd
     rcases hd with (rfl|rfl)|(rfl|rfl|rfl)
     all_goals first|exact V.Safe.is _ _|exact V.Safe.newS _ _ _
    ·exact V.Step.ldRow (.inl rfl) rfl rfl tHA9.out HTI.out (fun _ h=>by cases h;rfl)
    ·refine V.Step.call1 (.inl rfl) rfl rfl Tryz.func15 (by decide +kernel) rfl (fun wc hwc=>?_)
     refine (sbytes_any _ _ wc (tHV9.out.below hwc) tHSOK.out).mono ?_
     rintro e w' ⟨v',rfl,ho',hb'⟩
     rw[HKT.out] at ho'
     obtain⟨qa,qc,rfl,hqs⟩:=Sl.of_own (l:=kt) ho' HM.out
     exact⟨_,rfl,hb',fun d h=>by cases h;exact⟨qa,qc,rfl,hqs⟩⟩
    ·refine V.Touch.appS (l:=kb) (news:=kt) rfl rfl rfl rfl (by rw[HN.out];omega) (fun _ h=>by cases h;rfl) (by decide) (fun d hd=>?_)
     replace hd:d∈[14,12]∨d∈[73,75,18]:=by
      rcases hd with hd|hd
      ·exact .inl hd
      ·exact .inr (V.mem_alive [73,75,18] hd (by kernel_rfl))
     simp only[List.mem_cons,List.not_mem_nil,or_false] at hd
     rcases hd with (rfl|rfl)|(rfl|rfl|rfl)
     all_goals first|exact V.Safe.is _ _|exact V.Safe.newS _ _ _
    ·refine V.Step.callR (.inl rfl) rfl Tryz.func8 (by decide +kernel) rfl (fun wc v hwc hv=>?_)
     obtain⟨qa,qc,rfl,hqs⟩:=Sl.of_own (l:=kb++kt) hv rfl
     refine (sof_any _ _ _ (kb++kt) wc hqs (fun y hy=>(List.mem_append.1 hy).elim (HKB256.out y) (HKT256.out y)) (by rw[List.length_append,HN.out,HM.out];omega)).mono ?_
     rintro e w' ⟨hb',hof⟩
     rcases hof with ⟨_,v',ra,rc,rfl,hv',hr'⟩|⟨hno,_⟩
     ·rw[HOKT.out.2.1,sHRS.out] at hv'
      rw[HOKT.out.2.2,HM.out] at hr' ⊢
      exact⟨_,rfl,hb',fun d h=>by cases h;exact⟨v',ra,rc,rfl,hv',hr'⟩⟩
     ·exact absurd HOKT.out.1 hno
    ·exact V.Step.move (.inl rfl) (.inl rfl) (.inl ⟨_,rfl⟩) (fun _ h=>by cases h;rfl)
    ·exact V.Step.ext0S (.inl rfl) rfl rfl (fun _ h=>by cases h;rfl)
    ·exact V.Step.ext1S (.inl rfl) rfl rfl (fun _ h=>by cases h;rfl)
    ·exact V.Step.ext2S (.inl rfl) rfl rfl (fun _ h=>by cases h;rfl)
    ·exact V.Step.newS (.inl rfl) rfl (fun _ h=>by cases h;rfl)
    ·refine V.Touch.layS rfl rfl rfl rfl rfl (fun d hd=>?_)
     replace hd:d∈[14,12]∨d∈[73,75,78,71,79,80,81]:=by
      rcases hd with hd|hd
      ·exact .inl hd
      ·exact .inr (V.mem_alive [73,75,78,71,79,80,81] hd (by kernel_rfl))
     simp only[List.mem_cons,List.not_mem_nil,or_false] at hd
     rcases hd with (rfl|rfl)|(rfl|rfl|rfl|rfl|rfl|rfl|rfl)
     all_goals first|exact V.SafeS.is _|exact V.SafeS.sl _ _|exact V.SafeS.segV _|exact V.SafeS.segT _ _ _ _
    ·exact V.Step.move (.inl rfl) (.inr rfl) (.inl ⟨_,rfl⟩) (fun _ h=>by cases h;rfl)
    ·exact V.Step.move (.inl rfl) (.inr rfl) (.inl ⟨_,rfl⟩) (fun _ h=>by cases h;rfl)
   case hX=>exact fun _ _ _ _ _ _ _ _ _ _ _=>trivial
   case hd =>
   intro vs wa hwa hkk _
   obtain⟨ra,rc,h19,hs19⟩:=hkk 13 _ 19 rfl rfl (by decide)
   have h20:vs 20=.int .i64 0:=hkk 14 _ 20 rfl rfl (by decide)
   obtain⟨y72,hy72⟩:∃ u,vs 72=u:=⟨_,rfl⟩
   obtain⟨y73,hy73⟩:∃ u,vs 73=u:=⟨_,rfl⟩
   obtain⟨y74,hy74⟩:∃ u,vs 74=u:=⟨_,rfl⟩
   obtain⟨y75,hy75⟩:∃ u,vs 75=u:=⟨_,rfl⟩
   obtain⟨y76,hy76⟩:∃ u,vs 76=u:=⟨_,rfl⟩
   obtain⟨y77,hy77⟩:∃ u,vs 77=u:=⟨_,rfl⟩
   obtain⟨y78,hy78⟩:∃ u,vs 78=u:=⟨_,rfl⟩
   obtain⟨y71,hy71⟩:∃ u,vs 71=u:=⟨_,rfl⟩
   obtain⟨y79,hy79⟩:∃ u,vs 79=u:=⟨_,rfl⟩
   obtain⟨y80,hy80⟩:∃ u,vs 80=u:=⟨_,rfl⟩
   obtain⟨y81,hy81⟩:∃ u,vs 81=u:=⟨_,rfl⟩
   obtain⟨y18,hy18⟩:∃ u,vs 18=u:=⟨_,rfl⟩
   simp only[V.puts,List.foldl_cons,List.foldl_nil,h19,h20,hy18,hy72,hy73,hy74,hy75,hy76,hy77,hy78,hy71,hy79,hy80,hy81,Act.put,List.setIfInBounds_toArray,List.set_cons_zero,List.set_cons_succ]
   have HBA:=hide (bthen HB9.out hwa)
   have tHVA:=hide (tHV9.out.below hwa)
   have tHAA:=hide (tHA9.out.below hwa)
   have HS19:=hide hs19
   clear hkk hwa hs19 h19 h20 hy18 hy72 hy73 hy74 hy75 hy76 hy77 hy78 hy71 hy79 hy80 hy81 tHV9 tHA9 HSL9 HB9 HW9
   have HOFT:=hide (sof_any ra m rc kt wa HS19.out HKT256.out (by omega))
   clear HS19
   go_wp2_with fail
   refine HOFT.out.mono ?_
   rintro e w10 ⟨hb10,hof⟩
   rcases hof with ⟨_,v',qa',qc',rfl,hv',hr'⟩|⟨hno,_⟩
   ·rw[HOK2.out.2.1,tHRS.out] at hv'
    rw[HOK2.out.2.2]
    simp only[List.length_nil]
    have HB10:=hide (bthen HBA.out hb10)
    have tHVB:=hide (tHVA.out.below hb10)
    have tHAB:=hide (tHAA.out.below hb10)
    have HVU:=hide hv'
    obtain⟨uan,ucn,uab,ucb,rfl,_,_⟩:=hv'
    have hlx:tns.length=tln:=HLNT.out
    have hly:tbd.length=tnd:=HNDT.out
    unfold segC at HVU ⊢
    simp only at HVU ⊢
    rw[hlx,hly] at HVU ⊢
    obtain⟨w11,hw11⟩:∃ x,w10.alloc (.cells #[.int .i64 tk,.int .i64 tc,.int .i64 (tr:Int),.int .i64 (tn:Int),.int .i64 tk1,.int .i64 ti1,.string ts1,.int .i64 tk2,.int .i64 ti2,.string ts2,.slice uan tln ucn,.slice uab tnd ucb] 30)=x:=⟨_,rfl⟩
    have hb11:Below w10.heap.size w10 w11:=by rw[← hw11];exact below_one w10 _
    obtain⟨Gu,hGu⟩:∃ G,w10.heap.size=G:=⟨_,rfl⟩
    have hA11:Blk w11 Gu #[.int .i64 tk,.int .i64 tc,.int .i64 (tr:Int),.int .i64 (tn:Int),.int .i64 tk1,.int .i64 ti1,.string ts1,.int .i64 tk2,.int .i64 ti2,.string ts2,.slice uan tln ucn,.slice uab tnd ucb] 30:=by rw[← hw11,← hGu];exact Blk.new w10 _ _
    have hT11:=tHAB.out.below hb11
    have HB11:=hide (bthen HB10.out hb11)
    have HV11:=hide (HVU.out.below hb11)
    have HT11:=hide (tHVB.out.below hb11)
    have HW11:=hide hw11
    have al:=hA11.lt
    have bl:=hT11.lt
    have a0:∀ p:BBy w11,p.v.cell? ⟨Gu,0,none⟩=some (.int .i64 tk):=fun p=>by rw[p.h.cell (p:=⟨Gu,0,none⟩) al];exact hA11.cell (i:=0) rfl
    have a1:∀ p:BBy w11,p.v.cell? ⟨Gu,1,none⟩=some (.int .i64 tc):=fun p=>by rw[p.h.cell (p:=⟨Gu,1,none⟩) al];exact hA11.cell (i:=1) rfl
    have a2:∀ p:BBy w11,p.v.cell? ⟨Gu,2,none⟩=some (.int .i64 (tr:Int)):=fun p=>by rw[p.h.cell (p:=⟨Gu,2,none⟩) al];exact hA11.cell (i:=2) rfl
    have a3:∀ p:BBy w11,p.v.cell? ⟨Gu,3,none⟩=some (.int .i64 (tn:Int)):=fun p=>by rw[p.h.cell (p:=⟨Gu,3,none⟩) al];exact hA11.cell (i:=3) rfl
    have a4:∀ p:BBy w11,p.v.cell? ⟨Gu,4,none⟩=some (.int .i64 tk1):=fun p=>by rw[p.h.cell (p:=⟨Gu,4,none⟩) al];exact hA11.cell (i:=4) rfl
    have a5:∀ p:BBy w11,p.v.cell? ⟨Gu,5,none⟩=some (.int .i64 ti1):=fun p=>by rw[p.h.cell (p:=⟨Gu,5,none⟩) al];exact hA11.cell (i:=5) rfl
    have a6:∀ p:BBy w11,p.v.cell? ⟨Gu,6,none⟩=some (.string ts1):=fun p=>by rw[p.h.cell (p:=⟨Gu,6,none⟩) al];exact hA11.cell (i:=6) rfl
    have a7:∀ p:BBy w11,p.v.cell? ⟨Gu,7,none⟩=some (.int .i64 tk2):=fun p=>by rw[p.h.cell (p:=⟨Gu,7,none⟩) al];exact hA11.cell (i:=7) rfl
    have a8:∀ p:BBy w11,p.v.cell? ⟨Gu,8,none⟩=some (.int .i64 ti2):=fun p=>by rw[p.h.cell (p:=⟨Gu,8,none⟩) al];exact hA11.cell (i:=8) rfl
    have a9:∀ p:BBy w11,p.v.cell? ⟨Gu,9,none⟩=some (.string ts2):=fun p=>by rw[p.h.cell (p:=⟨Gu,9,none⟩) al];exact hA11.cell (i:=9) rfl
    have a10:∀ p:BBy w11,p.v.cell? ⟨Gu,10,none⟩=some (.slice uan tln ucn):=fun p=>by rw[p.h.cell (p:=⟨Gu,10,none⟩) al];exact hA11.cell (i:=10) rfl
    have a11:∀ p:BBy w11,p.v.cell? ⟨Gu,11,none⟩=some (.slice uab tnd ucb):=fun p=>by rw[p.h.cell (p:=⟨Gu,11,none⟩) al];exact hA11.cell (i:=11) rfl
    have b0:∀ p:BBy w11,p.v.cell? ⟨Gt,0,none⟩=some (.int .i64 tk):=fun p=>by rw[p.h.cell (p:=⟨Gt,0,none⟩) bl];exact hT11.cell (i:=0) rfl
    have b1:∀ p:BBy w11,p.v.cell? ⟨Gt,1,none⟩=some (.int .i64 tc):=fun p=>by rw[p.h.cell (p:=⟨Gt,1,none⟩) bl];exact hT11.cell (i:=1) rfl
    have b2:∀ p:BBy w11,p.v.cell? ⟨Gt,2,none⟩=some (.int .i64 (tr:Int)):=fun p=>by rw[p.h.cell (p:=⟨Gt,2,none⟩) bl];exact hT11.cell (i:=2) rfl
    have b3:∀ p:BBy w11,p.v.cell? ⟨Gt,3,none⟩=some (.int .i64 (tn:Int)):=fun p=>by rw[p.h.cell (p:=⟨Gt,3,none⟩) bl];exact hT11.cell (i:=3) rfl
    have b4:∀ p:BBy w11,p.v.cell? ⟨Gt,4,none⟩=some (.int .i64 tk1):=fun p=>by rw[p.h.cell (p:=⟨Gt,4,none⟩) bl];exact hT11.cell (i:=4) rfl
    have b5:∀ p:BBy w11,p.v.cell? ⟨Gt,5,none⟩=some (.int .i64 ti1):=fun p=>by rw[p.h.cell (p:=⟨Gt,5,none⟩) bl];exact hT11.cell (i:=5) rfl
    have b6:∀ p:BBy w11,p.v.cell? ⟨Gt,6,none⟩=some (.string ts1):=fun p=>by rw[p.h.cell (p:=⟨Gt,6,none⟩) bl];exact hT11.cell (i:=6) rfl
    have b7:∀ p:BBy w11,p.v.cell? ⟨Gt,7,none⟩=some (.int .i64 tk2):=fun p=>by rw[p.h.cell (p:=⟨Gt,7,none⟩) bl];exact hT11.cell (i:=7) rfl
    have b8:∀ p:BBy w11,p.v.cell? ⟨Gt,8,none⟩=some (.int .i64 ti2):=fun p=>by rw[p.h.cell (p:=⟨Gt,8,none⟩) bl];exact hT11.cell (i:=8) rfl
    have b9:∀ p:BBy w11,p.v.cell? ⟨Gt,9,none⟩=some (.string ts2):=fun p=>by rw[p.h.cell (p:=⟨Gt,9,none⟩) bl];exact hT11.cell (i:=9) rfl
    have b10:∀ p:BBy w11,p.v.cell? ⟨Gt,10,none⟩=some (.slice tan tln tcn):=fun p=>by rw[p.h.cell (p:=⟨Gt,10,none⟩) bl];exact hT11.cell (i:=10) rfl
    have b11:∀ p:BBy w11,p.v.cell? ⟨Gt,11,none⟩=some (.slice tab tnd tcb):=fun p=>by rw[p.h.cell (p:=⟨Gt,11,none⟩) bl];exact hT11.cell (i:=11) rfl
    have inh:Nonempty (BBy w11):=⟨⟨w11,Below.refl _ _⟩⟩
    have R1:Hid (∀ p:BBy w11,Calls Tryz.prog 12 #[.agg #[.int .i64 tk,.int .i64 tc,.int .i64 (tr:Int),.int .i64 (tn:Int),.int .i64 tk1,.int .i64 ti1,.string ts1,.int .i64 tk2,.int .i64 ti2,.string ts2,.slice uan tln ucn,.slice uab tnd ucb]] p.v fun e w'=>e=.returned (.agg #[.int .i64 tk,.int .i64 tc,.int .i64 (tr:Int),.int .i64 (tn:Int),.int .i64 tk1,.int .i64 ti1,.string ts1,.int .i64 tk2,.int .i64 ti2,.string ts2,.slice uan tln ucn,.slice uab tnd ucb])∧Below p.v.heap.size p.v w'):=hide fun p=>sreal_any ⟨tk,tc,tr,tn,⟨tk1,ti1,ts1⟩,⟨tk2,ti2,ts2⟩,tns,tbd⟩ _ p.v (HV11.out.below p.h)
    have R2:Hid (∀ p:BBy w11,Calls Tryz.prog 12 #[.agg #[.int .i64 tk,.int .i64 tc,.int .i64 (tr:Int),.int .i64 (tn:Int),.int .i64 tk1,.int .i64 ti1,.string ts1,.int .i64 tk2,.int .i64 ti2,.string ts2,.slice tan tln tcn,.slice tab tnd tcb]] p.v fun e w'=>e=.returned (.agg #[.int .i64 tk,.int .i64 tc,.int .i64 (tr:Int),.int .i64 (tn:Int),.int .i64 tk1,.int .i64 ti1,.string ts1,.int .i64 tk2,.int .i64 ti2,.string ts2,.slice tan tln tcn,.slice tab tnd tcb])∧Below p.v.heap.size p.v w'):=hide fun p=>sreal_any ⟨tk,tc,tr,tn,⟨tk1,ti1,ts1⟩,⟨tk2,ti2,ts2⟩,tns,tbd⟩ _ p.v (HT11.out.below p.h)
    have R3:Hid (∀ p:BBy w11,Calls Tryz.prog 11 #[.agg #[.int .i64 tk,.int .i64 tc,.int .i64 (tr:Int),.int .i64 (tn:Int),.int .i64 tk1,.int .i64 ti1,.string ts1,.int .i64 tk2,.int .i64 ti2,.string ts2,.slice uan tln ucn,.slice uab tnd ucb],.agg #[.int .i64 tk,.int .i64 tc,.int .i64 (tr:Int),.int .i64 (tn:Int),.int .i64 tk1,.int .i64 ti1,.string ts1,.int .i64 tk2,.int .i64 ti2,.string ts2,.slice tan tln tcn,.slice tab tnd tcb]] p.v fun e w'=>e=.returned (.bool true)∧Below p.v.heap.size p.v w'):=hide fun p=>tsame_yes ⟨tk,tc,tr,tn,⟨tk1,ti1,ts1⟩,⟨tk2,ti2,ts2⟩,tns,tbd⟩ _ _ p.v (HV11.out.below p.h) (HT11.out.below p.h) (by have:=tHNL.out;show tns.length≤_;have h2:tns.length≤4096:=this;omega)
    clear hb10 hb11 hw11 hA11 hT11 hr' hlx hly HOFT HVU tHVB tHAB
    go_wp2_with fail
    rw[HW11.out]
    refine region_below (by kernel_rfl) ?_
    quiet_step (fail)
    quiet_step (first|(go_at_call 12;refine Calls.below_of (R1.out _)))
    quiet_step (fail)
    quiet_step (first|(go_at_call 12;refine Calls.below_of (R2.out _)))
    quiet_step (first|(go_at_call 11;refine Calls.below_of (R3.out _)))
    quiet_step (fail)
    refine wpQuiet_nil ?_
    intro w12 hw'
    have hb12:Below w11.heap.size w11 w12:=by
     obtain⟨p,hw''⟩:=hw'
     rw[hw'']
     exact p.h
    have HBF:=hide (bthen HB11.out hb12)
    clear hw' hb12 R1 R2 R3 inh a0 b0 a1 b1 a2 b2 a3 b3 a4 b4 a5 b5 a6 b6 a7 b7 a8 b8 a9 b9 a10 b10 a11 b11
    go_wp2
    go_ret
    exact⟨rfl,HBF.out⟩
   ·exact absurd HOK2.out.1 hno
  ·obtain⟨E,hE⟩:∃ E,Z.mE more kind 0=E:=⟨_,rfl⟩
   rw[hE] at hno ⊢
   have heb:(E != 0)=true:=by simpa using hno
   unfold segZ
   have HBF:=hide (bthen HB5.out (below_one w5 (.cells #[.int .i64 0,.int .i64 0,.int .i64 0,.int .i64 0,.int .i64 0,.int .i64 0,.string ⟨#[]⟩,.int .i64 0,.int .i64 0,.string ⟨#[]⟩,.slice none 0 0,.slice none 0 0] 30)))
   clear hE hno
   go_wp2
   go_ret
   exact⟨rfl,HBF.out⟩
 ·obtain⟨E,hE⟩:∃ E,Z.mE vals kind 0=E:=⟨_,rfl⟩
  rw[hE] at hno ⊢
  have heb:(E != 0)=true:=by simpa using hno
  unfold segZ
  have hb4:=below_one w3 (.cells #[.int .i64 0,.int .i64 0,.int .i64 0,.int .i64 0,.int .i64 0,.int .i64 0,.string ⟨#[]⟩,.int .i64 0,.int .i64 0,.string ⟨#[]⟩,.slice none 0 0,.slice none 0 0] 30)
  have HB4:=hide (bthen HB3.out hb4)
  have HMK2:=hide (smake_any bo ml bcap more kind 0 _ (HSL2.out.below HB4.out) (fun x hx=>(HWFt.out x hx).2.1) hm2 ⟨by decide,by decide⟩)
  clear hE hno hb4
  go_wp2_with fail
  refine HMK2.out.mono ?_
  rintro e w5 ⟨hb5,hmk⟩
  have HB5:=hide (bthen HB4.out hb5)
  clear hb5 HMK2
  rcases hmk with ⟨_,v,rfl,hv⟩|⟨_,rfl⟩
  ·obtain⟨an,cn,ab,cb,rfl,_,_⟩:=hv
   obtain⟨S,hS⟩:∃ S,Z.mS more kind 0=S:=⟨_,rfl⟩
   rw[hS]
   clear hS
   obtain⟨uk,uc,ur,un,⟨uk1,ui1,us1⟩,⟨uk2,ui2,us2⟩,ns,bd⟩:=S
   unfold segC
   simp only
   obtain⟨ln,hln⟩:∃ x,ns.length=x:=⟨_,rfl⟩
   obtain⟨nd,hnd⟩:∃ x,bd.length=x:=⟨_,rfl⟩
   rw[hln,hnd]
   have HBF:=hide (bthen HB5.out (below_one w5 (.cells #[.int .i64 uk,.int .i64 uc,.int .i64 (ur:Int),.int .i64 (un:Int),.int .i64 uk1,.int .i64 ui1,.string us1,.int .i64 uk2,.int .i64 ui2,.string us2,.slice an ln cn,.slice ab nd cb] 30)))
   clear hln hnd
   go_wp2
   go_ret
   exact⟨rfl,HBF.out⟩
  ·obtain⟨F,hF⟩:∃ E,Z.mE more kind 0=E:=⟨_,rfl⟩
   rw[hF]
   unfold segZ
   have HBF:=hide (bthen HB5.out (below_one w5 (.cells #[.int .i64 0,.int .i64 0,.int .i64 0,.int .i64 0,.int .i64 0,.int .i64 0,.string ⟨#[]⟩,.int .i64 0,.int .i64 0,.string ⟨#[]⟩,.slice none 0 0,.slice none 0 0] 30)))
   clear hF
   go_wp2
   go_ret
   exact⟨rfl,HBF.out⟩
theorem segCuts_walk (w:World) (a:Option Addr) (len cap:Nat) (l:List Z.V) (hs:SlV w a len cap l) (hwf:∀ x∈l,Z.Wf x) (hr:cap*32≤140737488351232) (a1:Option Addr) (len1 cap1:Nat) (m:List Z.V) (hs1:SlV w a1 len1 cap1 m) (hwf1:∀ x∈m,Z.Wf x) (hr1:cap1*32≤140737488351232) (kind:Int) (wk:(Lit.int .i64 kind).wf=true) (cut:Int) (wc:(Lit.int .u16 cut).wf=true) :
  Calls Tryz.prog 6 #[.slice a len cap,.slice a1 len1 cap1,.int .i64 kind,.int .u16 cut] w fun e w'=>e=.returned (.bool true)∧Below w.heap.size w w':=by
 obtain⟨h0,h1⟩:=wf_u16 wc
 have hc:=hs.2.1
 have hc1:=hs1.2.1
 exact segCuts_in w a len cap l a1 len1 cap1 m kind cut hs hwf (by omega) hs1 hwf1 (by omega) h0 h1
end Go.Proofs.YtnkpgmibhpmdhaaGreat

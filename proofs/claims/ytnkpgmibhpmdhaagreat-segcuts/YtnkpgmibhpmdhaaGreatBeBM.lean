/- Contracts and plain facts, one behind the other: MR H1 H2 H3 -/
import Derived.Deep.WholeRow
import Derived.Test.YtnkpgmibhpmdhaaGreatBeBL
namespace Go.Proofs.YtnkpgmibhpmdhaaGreat
set_option maxRecDepth 10000
set_option linter.unusedVariables false
open Go.RowKit
theorem Sl.setG {w:World} {ao:Option Addr} {len cap:Nat} {l:List Int} {G:Nat} {C:Array Value} {t:TypeId} (h:Sl w .u8 ao len cap l) (hB:Blk w G C t) (hC:∀ v∈C.toList,∀ n,v≠.int .u8 n) (i:Nat) (v:Value):Sl (w.setCell ⟨G,i,none⟩ v) .u8 ao len cap l :=
 h.kept0 (F:=fun k=>k=G) (Kept.setCell (F:=fun k=>k=G) (p:=⟨G,i,none⟩) (Kept.refl _ w) (.inl rfl) v) (h.away hB hC)
theorem Sb.setG {w:World} {ao:Option Addr} {len cap:Nat} {l:List Bool} {G:Nat} {C:Array Value} {t:TypeId} (h:Sb w ao len cap l) (hB:Blk w G C t) (hC:∀ v∈C.toList,∀ n,v≠.bool n) (i:Nat) (v:Value):Sb (w.setCell ⟨G,i,none⟩ v) ao len cap l :=
 h.kept0 (F:=fun k=>k=G) (Kept.setCell (F:=fun k=>k=G) (p:=⟨G,i,none⟩) (Kept.refl _ w) (.inl rfl) v) (h.away hB hC)
theorem SegAt.row {w:World} {v:Value} {s:Z.S} {B:Nat} (h:SegAt w v s) (hB:Blk w B segZ 30) (D:Array Value):SegAt (w.setRow B D) v s:=by
 obtain⟨an,cn,ab,cb,h1,h2,h3⟩:=h
 exact⟨an,cn,ab,cb,h1,h2.row hB segZ_bool D,h3.row hB segZ_u8 D⟩
set_option maxHeartbeats 4000000 in
theorem toseg_any (ao:Option Addr) (len cap:Nat) (b:List Nat) (w:World) (h:Sl w .u8 ao len cap (ints b)) (h256:∀ x∈b,x<256) (hm:len≤140737488355328) :
  Calls Tryz.prog 19 #[.slice ao len cap] w (ReadAns b w):=by
 obtain⟨w0,hw0⟩:∃ w0,w.alloc (.cells segZ 30)=w0:=⟨_,rfl⟩
 have hb0:Below w.heap.size w w0:=by rw[← hw0];exact below_one w _
 have HB0:=hide hb0
 have HR0:Hid (Blk w0 w.heap.size segZ 30):=by show Blk _ _ _ _;rw[← hw0];exact Blk.new w _ _
 unfold segZ at hw0
 have HW0:=hide hw0
 have HS:=hide (h.below hb0)
 have H256:=hide h256
 clear hw0 hb0 h h256
 go_enter Tryz.func19,Tryz.ntmps19
 go_wp2_with fail
 rw[HW0.out]
 refine (tohead_any ao len cap b w0 HS.out H256.out hm).mono ?_
 rintro e w2 ⟨hb2,hans⟩
 have HB2:=hide (bthen HB0.out hb2)
 have HR2:=hide (HR0.out.below hb2)
 rcases hans with ⟨hne,rfl⟩|⟨h0,qa,qm,qc,rfl,hq⟩
 ·obtain⟨E,hE⟩:∃ E,Z.hE b=E:=⟨_,rfl⟩
  rw[hE] at hne ⊢
  have HP:Hid (Z.rE b=E):=by show _=_;rw[rE_head (by rw[hE];exact hne)];exact hE
  have HNE:=hide hne
  have heb:(E != 0)=true:=by simpa using hne
  have HB3:=hide (bthen HB2.out (below_one w2 (.cells segZ 30)))
  have HR3:=hide (HR2.out.alloc (.cells segZ 30))
  unfold segZ at HB3 HR3 ⊢
  clear hE hne hb2
  go_wp2_with (first
   | (guard_target =~ wpList _ _ _ ((⟨none,.store _ _ _,_,_,_,_⟩:Oper) :: _) _ _;refine wpList_store_row rfl 30 (.tmp 2) (.tmp 14) rfl w.heap.size segZ rfl rfl 30 segZ HR3.out Tryz.sizeSeg rfl segZ_one ?_)
   | fail)
  have HRF:=hide (Blk.row HR3.out segZ)
  have HBF:=hide (below_setRow HB3.out (Nat.le_refl _) segZ)
  exact bodyPost_ret (results_seg1 Tryz.results19 _ _ w.heap.size rfl HRF.out Tryz.sizeSeg) rfl ⟨HBF.out,.inr ⟨by rw[HP.out];exact HNE.out,by rw[HP.out];rfl⟩⟩
 ·obtain⟨z1,z2,z3,z4,hz5⟩:=hE_zero h0
  have hrr:Z.rr' b≤4096:=by
   have:¬ 4096<Z.rr' b:=fun hh=>hz5 (.inr (.inl hh))
   omega
  have hnr:Z.rn b≤Z.rr' b:=by
   have:¬ Z.rr' b<Z.rn b:=fun hh=>hz5 (.inr (.inr hh))
   omega
  have HREST:=hide (rE_rest h0)
  have HH0:=hide h0
  have h4256:∀ x∈Z.r4 b,x<256:=fun x hx=>H256.out x (List.mem_of_mem_drop (List.mem_of_mem_drop (List.mem_of_mem_drop (List.mem_of_mem_drop hx))))
  have hqm:qm≤140737488355328:=by
   have h1:(Z.r4 b).length=qm:=by rw[← hq.1,ints_length]
   have h2:(Z.r4 b).length≤b.length:=by unfold Z.r4 Z.fb;simp only[List.length_drop];omega
   have h3:b.length=len:=by rw[← HS.out.1,ints_length]
   omega
  obtain⟨k,hk⟩:∃ k,E.gN b=k:=⟨_,rfl⟩
  obtain⟨c,hc⟩:∃ c,Z.cap (E.gN (Z.fb b))=c:=⟨_,rfl⟩
  obtain⟨r,hr⟩:∃ r,Z.rr' b=r:=⟨_,rfl⟩
  obtain⟨n,hn⟩:∃ n,Z.rn b=n:=⟨_,rfl⟩
  obtain⟨b4,hb4⟩:∃ x,Z.r4 b=x:=⟨_,rfl⟩
  rw[hr,hn,hb4] at HREST
  rw[hk,hc,hr,hn]
  rw[hr] at hrr hnr
  rw[hn] at hnr
  rw[hb4] at hq h4256
  unfold segH
  obtain⟨w3,hw3⟩:∃ w3,w2.alloc (.cells #[.int .i64 (k:Int),.int .i64 (c:Int),.int .i64 (r:Int),.int .i64 (n:Int),.int .i64 0,.int .i64 0,.string ⟨#[]⟩,.int .i64 0,.int .i64 0,.string ⟨#[]⟩,.slice none 0 0,.slice none 0 0] 30)=w3:=⟨_,rfl⟩
  obtain⟨G,hG⟩:∃ G,w2.heap.size=G:=⟨_,rfl⟩
  have hb3:Below w2.heap.size w2 w3:=by rw[← hw3];exact below_one w2 _
  have hA3:Blk w3 G #[.int .i64 (k:Int),.int .i64 (c:Int),.int .i64 (r:Int),.int .i64 (n:Int),.int .i64 0,.int .i64 0,.string ⟨#[]⟩,.int .i64 0,.int .i64 0,.string ⟨#[]⟩,.slice none 0 0,.slice none 0 0] 30:=by rw[← hw3,← hG];exact Blk.new w2 _ _
  have hgg:w.heap.size+1≤G:=by
   have h1:=hb2.size
   have h2:=HR0.out.lt
   have h3:w0.heap.size=w.heap.size+1:=by rw[← HW0.out];simp
   omega
  have HGG:=hide hgg
  have HB3:=hide (bthen HB2.out hb3)
  have HR3:=hide (HR2.out.below hb3)
  have HA3:=hide hA3
  have HQ3:=hide ((hq.below hb2).below hb3)
  have H4256:=hide h4256
  have HKK:=hide hk
  have HCC:=hide hc
  have HRR:=hide hr
  have HNN:=hide hn
  have HB4:=hide hb4
  have HW3:=hide hw3
  have e2:w3.cell? ⟨G,2,none⟩=some (.int .i64 (r:Int)):=hA3.cell (i:=2) rfl
  have e3:w3.cell? ⟨G,3,none⟩=some (.int .i64 (n:Int)):=hA3.cell (i:=3) rfl
  have e4:w3.cell? ⟨G,4,none⟩=some (.int .i64 0):=hA3.cell (i:=4) rfl
  have e5:w3.cell? ⟨G,5,none⟩=some (.int .i64 0):=hA3.cell (i:=5) rfl
  have e6:w3.cell? ⟨G,6,none⟩=some (.string ⟨#[]⟩):=hA3.cell (i:=6) rfl
  have e7:w3.cell? ⟨G,7,none⟩=some (.int .i64 0):=hA3.cell (i:=7) rfl
  have e8:w3.cell? ⟨G,8,none⟩=some (.int .i64 0):=hA3.cell (i:=8) rfl
  have e9:w3.cell? ⟨G,9,none⟩=some (.string ⟨#[]⟩):=hA3.cell (i:=9) rfl
  clear z1 z2 z3 z4 hz5 h0 h4256 hk hc hr hn hb4 hw3 hb3 hA3 hgg hq hb2 HB0 HR0 HB2 HR2 HW0
  go_wp2_with fail
  rw[HW3.out]
  refine (tonulls_any qa qm qc b4 r n 0 0 ⟨#[]⟩ 0 0 ⟨#[]⟩ w3 HQ3.out H4256.out hqm hrr).mono ?_
  rintro e w4 ⟨hb4,hans⟩
  have HB4w:=hide (bthen HB3.out hb4)
  have HR4:=hide (HR3.out.below hb4)
  have hA4:=HA3.out.below hb4
  have HA4:=hide hA4
  have r10:w4.cell? ⟨G,10,none⟩=some (.slice none 0 0):=hA4.cell (i:=10) rfl
  have t10:=hA4.thaw 10
  have hG1:w.heap.size≤G:=by have:=HGG.out;omega
  have hG2:G≠w.heap.size:=by have:=HGG.out;omega
  clear e2 e3 e4 e5 e6 e7 e8 e9 HB3 HR3 HA3 HW3 hb4 hA4
  rcases hans with ⟨hne,rfl⟩|⟨h0,an,cn,ab,nb,cb,rfl,hsb,hsl⟩
  ·obtain⟨E,hE⟩:∃ E,Z.nE r n b4=E:=⟨_,rfl⟩
   rw[hE] at hne ⊢
   have HP:Hid (Z.rE b=(E:Int)):=by show _=_;rw[HREST.out,hE,if_pos hne]
   have HNE:Hid (((E:Nat):Int)≠0):=by show _≠_;omega
   have heb:(((E:Nat):Int) != 0)=true:=by simp;omega
   have HB5:=hide (HB4w.out.setCell (p:=⟨G,10,none⟩) hG1 (.slice none 0 0))
   have HR5:=hide (HR4.out.other (p:=⟨G,10,none⟩) (fun e=>hG2 e) (.slice none 0 0))
   clear hE hne hG1 hG2 HREST HH0 HQ3 H4256 HKK HCC HRR HNN HB4 HA4 HB4w HR4 HS H256 hrr hnr hqm
   go_wp2_with (first
    | (guard_target =~ wpList _ _ _ ((⟨none,.store _ _ _,_,_,_,_⟩:Oper) :: _) _ _;refine wpList_store_row rfl 30 (.tmp 2) (.tmp 27) rfl w.heap.size segZ rfl rfl 30 segZ HR5.out Tryz.sizeSeg rfl segZ_one ?_)
    | fail)
   have HRF:=hide (Blk.row HR5.out segZ)
   have HBF:=hide (below_setRow HB5.out (Nat.le_refl _) segZ)
   exact bodyPost_ret (results_seg1 Tryz.results19 _ _ w.heap.size rfl HRF.out Tryz.sizeSeg) rfl ⟨HBF.out,.inr ⟨by rw[HP.out];exact HNE.out,by rw[HP.out];rfl⟩⟩
  ·obtain⟨ns,hns⟩:∃ x,Z.nL r n b4=x:=⟨_,rfl⟩
   obtain⟨ln,hln⟩:∃ x,ns.length=x:=⟨_,rfl⟩
   obtain⟨b5,hb5⟩:∃ x,Z.nR r n b4=x:=⟨_,rfl⟩
   rw[hns,hln] at hsb
   rw[hb5] at hsl
   rw[hns,hln]
   have HN0:=hide h0
   have HB5w:=hide (HB4w.out.setCell (p:=⟨G,10,none⟩) hG1 (.slice an ln cn))
   have HR5:=hide (HR4.out.other (p:=⟨G,10,none⟩) (fun e=>hG2 e) (.slice an ln cn))
   have HA5:Hid (Blk (w4.setCell ⟨G,10,none⟩ (.slice an ln cn)) G #[.int .i64 (k:Int),.int .i64 (c:Int),.int .i64 (r:Int),.int .i64 (n:Int),.int .i64 0,.int .i64 0,.string ⟨#[]⟩,.int .i64 0,.int .i64 0,.string ⟨#[]⟩,.slice an ln cn,.slice none 0 0] 30):=HA4.out.set 10 (.slice an ln cn)
   have HNS:=hide hns
   have HLN:=hide hln
   have HB5:=hide hb5
   have h5256:∀ x∈b5,x<256:=by
    rw[← hb5]
    unfold Z.nR
    split
    ·exact H4256.out
    ·exact fun x hx=>H4256.out x (List.mem_of_mem_drop hx)
   have hnb:nb≤140737488355328:=by
    have h1:b5.length=nb:=by rw[← hsl.1,ints_length]
    have h2:b4.length=qm:=by rw[← HQ3.out.1,ints_length]
    have h3:b5.length≤b4.length:=by
     rw[← hb5]
     unfold Z.nR
     split
     ·exact Nat.le_refl _
     ·rw[List.length_drop];omega
    omega
   obtain⟨w5,hw5⟩:∃ w5,w4.setCell ⟨G,10,none⟩ (.slice an ln cn)=w5:=⟨_,rfl⟩
   have H5256:=hide h5256
   have HSL5:Hid (Sl w5 .u8 ab nb cb (ints b5)):=by show Sl _ _ _ _ _ _;rw[← hw5];exact hsl.setG HA4.out (by simp) 10 _
   have HSB5:Hid (Sb w5 an ln cn ns):=by show Sb _ _ _ _ _;rw[← hw5];exact hsb.setG HA4.out (by simp) 10 _
   have HW5:=hide hw5
   clear hns hln hb5 hsb hsl h0 h5256 hw5 HB4w HR4 HA4 HQ3 H4256
   go_wp2_with (first
    | (guard_target =~ wpList _ _ _ ((⟨some 31,.load _ _,_,_,_,_⟩:Oper) :: _) _ _;refine wpList_load_row rfl 30 (.tmp 4) rfl G rfl 30 #[.int .i64 (k:Int),.int .i64 (c:Int),.int .i64 (r:Int),.int .i64 (n:Int),.int .i64 0,.int .i64 0,.string ⟨#[]⟩,.int .i64 0,.int .i64 0,.string ⟨#[]⟩,.slice an ln cn,.slice none 0 0] (0,0) _ HA5.out Tryz.underlying30 rfl Tryz.sizeSeg ?_)
    | fail)
   rw[HW5.out] at HA5 HB5w HR5 ⊢
   refine (toends_any ab nb cb b5 (k:Int) (c:Int) r n 0 0 ⟨#[]⟩ 0 0 ⟨#[]⟩ (.slice an ln cn) (.slice none 0 0) w5 HSL5.out H5256.out hnb rfl rfl hnr).mono ?_
   rintro e w6 ⟨hb6,hans⟩
   have HB6:=hide (bthen HB5w.out hb6)
   have HR6:=hide (HR5.out.below hb6)
   have hA6:=HA5.out.below hb6
   have HA6:=hide hA6
   have HSB6:=hide (HSB5.out.below hb6)
   have hG1:w.heap.size≤G:=by have:=HGG.out;omega
   have hG2:G≠w.heap.size:=by have:=HGG.out;omega
   have e4:w6.cell? ⟨G,4,none⟩=some (.int .i64 0):=hA6.cell (i:=4) rfl
   have e5:w6.cell? ⟨G,5,none⟩=some (.int .i64 0):=hA6.cell (i:=5) rfl
   have e6:w6.cell? ⟨G,6,none⟩=some (.string ⟨#[]⟩):=hA6.cell (i:=6) rfl
   have e7:w6.cell? ⟨G,7,none⟩=some (.int .i64 0):=hA6.cell (i:=7) rfl
   have e8:w6.cell? ⟨G,8,none⟩=some (.int .i64 0):=hA6.cell (i:=8) rfl
   have e9:w6.cell? ⟨G,9,none⟩=some (.string ⟨#[]⟩):=hA6.cell (i:=9) rfl
   have t4:=hA6.thaw 4
   have t5:=hA6.thaw 5
   have t6:=hA6.thaw 6
   have t7:=hA6.thaw 7
   have t8:=hA6.thaw 8
   have t9:=hA6.thaw 9
   clear hb6 hA6 HB5w HR5 HA5 HSB5 HSL5 H5256 HW5
   have HKC:Hid (Z.rk b=(k:Int)):=by show _=_;unfold Z.rk;rw[HKK.out]
   have HR5b:Hid (Z.r5 b=b5):=by show _=_;unfold Z.r5;rw[HRR.out,HNN.out,HB4.out];exact HB5.out
   rcases hans with ⟨hne,rfl⟩|⟨h0,pb,np,cp,rfl,hsl⟩
   ·obtain⟨E,hE⟩:∃ E,Z.zE (k:Int) r n b5=E:=⟨_,rfl⟩
    rw[hE] at hne ⊢
    have HP:Hid (Z.rE b=(E:Int)):=by show _=_;rw[HREST.out,if_neg (by rw[HN0.out];decide),HKC.out,HR5b.out,hE,if_pos hne]
    have HNE:Hid (((E:Nat):Int)≠0):=by show _≠_;omega
    have heb:(((E:Nat):Int) != 0)=true:=by simp;omega
    have hb7:=put3_below (w1:=put3at w6 G 4 (.int .i64 0) (.int .i64 0) (.string ⟨#[]⟩)) (i:=7) (.int .i64 0) (.int .i64 0) (.string ⟨#[]⟩) (put3_below (i:=4) (.int .i64 0) (.int .i64 0) (.string ⟨#[]⟩) HB6.out hG1) hG1
    have hr7:=(HR6.out.put3O hG2 4 (.int .i64 0) (.int .i64 0) (.string ⟨#[]⟩)).put3O hG2 7 (.int .i64 0) (.int .i64 0) (.string ⟨#[]⟩)
    obtain⟨w7,hw7⟩:∃ w7,put3at (put3at w6 G 4 (.int .i64 0) (.int .i64 0) (.string ⟨#[]⟩)) G 7 (.int .i64 0) (.int .i64 0) (.string ⟨#[]⟩)=w7:=⟨_,rfl⟩
    rw[hw7] at hb7 hr7
    have HB7:=hide hb7
    have HR7:=hide hr7
    unfold put3at at hw7
    have HW7:=hide hw7
    clear hb7 hr7 hw7 hE hne hG1 hG2 HREST HH0 HKC HR5b HN0 HKK HCC HRR HNN HB4 HA6 HB6 HR6 HSB6 HS H256 hrr hnr hqm hnb HNS HLN HB5
    go_wp2_with (first
     | (guard_target =~ wpList _ _ _ ((⟨some 43,_,_,_,_,_⟩:Oper) :: _) _ _;rw[HW7.out])
     | (guard_target =~ wpList _ _ _ ((⟨none,.store _ _ _,_,_,_,_⟩:Oper) :: _) _ _;refine wpList_store_row rfl 30 (.tmp 2) (.tmp 43) rfl w.heap.size segZ rfl rfl 30 segZ HR7.out Tryz.sizeSeg rfl segZ_one ?_)
     | fail)
    have HRF:=hide (Blk.row HR7.out segZ)
    have HBF:=hide (below_setRow HB7.out (Nat.le_refl _) segZ)
    exact bodyPost_ret (results_seg1 Tryz.results19 _ _ w.heap.size rfl HRF.out Tryz.sizeSeg) rfl ⟨HBF.out,.inr ⟨by rw[HP.out];exact HNE.out,by rw[HP.out];rfl⟩⟩
   ·obtain⟨⟨k1,i1,s1⟩,hV1⟩:∃ x,Z.zMn (k:Int) r n b5=x:=⟨_,rfl⟩
    obtain⟨⟨k2,i2,s2⟩,hV2⟩:∃ x,Z.zMx (k:Int) r n b5=x:=⟨_,rfl⟩
    obtain⟨b6,hb6⟩:∃ x,Z.zR (k:Int) r n b5=x:=⟨_,rfl⟩
    rw[hb6] at hsl
    rw[hV1,hV2]
    simp only[Z.V.v]
    have ha61:Blk (put3at w6 G 4 (.int .i64 k1) (.int .i64 i1) (.string s1)) G #[.int .i64 (k:Int),.int .i64 (c:Int),.int .i64 (r:Int),.int .i64 (n:Int),.int .i64 k1,.int .i64 i1,.string s1,.int .i64 0,.int .i64 0,.string ⟨#[]⟩,.slice an ln cn,.slice none 0 0] 30:=HA6.out.put3 4 (.int .i64 k1) (.int .i64 i1) (.string s1)
    have hb61:=put3_below (i:=4) (.int .i64 k1) (.int .i64 i1) (.string s1) HB6.out hG1
    have hr61:=HR6.out.put3O hG2 4 (.int .i64 k1) (.int .i64 i1) (.string s1)
    obtain⟨w61,hw61⟩:∃ w61,put3at w6 G 4 (.int .i64 k1) (.int .i64 i1) (.string s1)=w61:=⟨_,rfl⟩
    rw[hw61] at ha61 hb61 hr61
    have hsb61:=HSB6.out.kept0 (put3_kept w6 G 4 (.int .i64 k1) (.int .i64 i1) (.string s1)) (HSB6.out.away HA6.out (by simp))
    have hsl61:=hsl.kept0 (put3_kept w6 G 4 (.int .i64 k1) (.int .i64 i1) (.string s1)) (hsl.away HA6.out (by simp))
    rw[hw61] at hsb61 hsl61
    have u7:w61.cell? ⟨G,7,none⟩=some (.int .i64 0):=ha61.cell (i:=7) rfl
    have u8:w61.cell? ⟨G,8,none⟩=some (.int .i64 0):=ha61.cell (i:=8) rfl
    have u9:w61.cell? ⟨G,9,none⟩=some (.string ⟨#[]⟩):=ha61.cell (i:=9) rfl
    have v7:=ha61.thaw 7
    have v8:=ha61.thaw 8
    have v9:=ha61.thaw 9
    have ha7:Blk (put3at w61 G 7 (.int .i64 k2) (.int .i64 i2) (.string s2)) G #[.int .i64 (k:Int),.int .i64 (c:Int),.int .i64 (r:Int),.int .i64 (n:Int),.int .i64 k1,.int .i64 i1,.string s1,.int .i64 k2,.int .i64 i2,.string s2,.slice an ln cn,.slice none 0 0] 30:=ha61.put3 7 (.int .i64 k2) (.int .i64 i2) (.string s2)
    have hb7:=put3_below (i:=7) (.int .i64 k2) (.int .i64 i2) (.string s2) hb61 hG1
    have hr7:=hr61.put3O hG2 7 (.int .i64 k2) (.int .i64 i2) (.string s2)
    obtain⟨w7,hw7⟩:∃ w7,put3at w61 G 7 (.int .i64 k2) (.int .i64 i2) (.string s2)=w7:=⟨_,rfl⟩
    rw[hw7] at ha7 hb7 hr7
    have hsb7:=hsb61.kept0 (put3_kept w61 G 7 (.int .i64 k2) (.int .i64 i2) (.string s2)) (hsb61.away ha61 (by simp))
    have hsl7:=hsl61.kept0 (put3_kept w61 G 7 (.int .i64 k2) (.int .i64 i2) (.string s2)) (hsl61.away ha61 (by simp))
    rw[hw7] at hsb7 hsl7
    have hsb8:=hsb7.setG ha7 (by simp) 11 (.slice pb np cp)
    have hsl8:=hsl7.setG ha7 (by simp) 11 (.slice pb np cp)
    have r11:w7.cell? ⟨G,11,none⟩=some (.slice none 0 0):=ha7.cell (i:=11) rfl
    have t11:=ha7.thaw 11
    have hb8:=hb7.setCell (p:=⟨G,11,none⟩) hG1 (.slice pb np cp)
    have hr8:=hr7.other (p:=⟨G,11,none⟩) (fun e=>hG2 e) (.slice pb np cp)
    have ha8:Blk (w7.setCell ⟨G,11,none⟩ (.slice pb np cp)) G #[.int .i64 (k:Int),.int .i64 (c:Int),.int .i64 (r:Int),.int .i64 (n:Int),.int .i64 k1,.int .i64 i1,.string s1,.int .i64 k2,.int .i64 i2,.string s2,.slice an ln cn,.slice pb np cp] 30:=ha7.set 11 (.slice pb np cp)
    obtain⟨w8,hw8⟩:∃ w8,w7.setCell ⟨G,11,none⟩ (.slice pb np cp)=w8:=⟨_,rfl⟩
    rw[hw8] at hb8 hr8 ha8 hsb8 hsl8
    have HSB8:=hide hsb8
    have HSL8:=hide hsl8
    unfold put3at at hw61 hw7
    have HW61:=hide hw61
    have HW7:=hide hw7
    have HW8:=hide hw8
    have HB8:=hide hb8
    have HR8:=hide hr8
    have HA8:=hide ha8
    have HE0:=hide h0
    have HV1:=hide hV1
    have HV2:=hide hV2
    have HB6r:=hide hb6
    have HRR2:=hide hrr
    have HNR2:=hide hnr
    have HG12:=hide (And.intro hG1 hG2)
    have HQN:=hide (And.intro hqm hnb)
    clear hV1 hV2 hb6 hsl hb7 hr7 ha7 ha61 hb61 hr61 hb8 hr8 ha8 hsb61 hsl61 hsb7 hsl7 hsb8 hsl8 hw61 hw7 hw8 h0 hrr hnr hG1 hG2 hqm hnb
    have HAT:Hid (SegAt w8 (.agg #[.int .i64 (k:Int),.int .i64 (c:Int),.int .i64 (r:Int),.int .i64 (n:Int),.int .i64 k1,.int .i64 i1,.string s1,.int .i64 k2,.int .i64 i2,.string s2,.slice an ln cn,.slice pb np cp]) (Z.rSc b)):=by
     show SegAt _ _ _
     obtain⟨q1,q2,q3,q4,q5,q6,q7,q8⟩:=rSc_parts b
     have e5:(Z.rSc b).ns=ns:=by rw[q5,HRR.out,HNN.out,HB4.out];exact HNS.out
     have e6:(Z.rSc b).bd=b6:=by rw[q6,HKC.out,HRR.out,HNN.out,HR5b.out];exact HB6r.out
     have e7:(Z.rSc b).mn=⟨k1,i1,s1⟩:=by rw[q7,HKC.out,HRR.out,HNN.out,HR5b.out];exact HV1.out
     have e8:(Z.rSc b).mx=⟨k2,i2,s2⟩:=by rw[q8,HKC.out,HRR.out,HNN.out,HR5b.out];exact HV2.out
     have e3:(Z.rSc b).rows=r:=by rw[q3];exact HRR.out
     have e4:(Z.rSc b).nulls=n:=by rw[q4];exact HNN.out
     have e1:(Z.rSc b).k=(k:Int):=by rw[q1];exact HKC.out
     have e2:(Z.rSc b).c=(c:Int):=by rw[q2,HCC.out]
     have hnp:b6.length=np:=by have:=HSL8.out.1;rw[ints_length] at this;exact this
     refine⟨an,cn,pb,cp,?_,?_,?_⟩
     ·rw[e1,e2,e3,e4,e5,e6,e7,e8,HLN.out,hnp];rfl
     ·rw[e5,HLN.out];exact HSB8.out
     ·rw[e6,hnp];exact HSL8.out
    have HHALF:=hide (half_read H256.out HH0.out (by rw[HRR.out,HNN.out,HB4.out];exact HN0.out) (by rw[show b.length=len from by rw[← HS.out.1,ints_length]];exact hm))
    have HMADE:=hide (rE_made H256.out HH0.out (by rw[HRR.out,HNN.out,HB4.out];exact HN0.out) (by rw[HKC.out,HRR.out,HNN.out,HR5b.out];exact HE0.out))
    have HISM:=hide (smade_any (Z.rSc b) _ w8 HAT.out HHALF.out)
    go_wp2_with (first
     | (guard_target =~ wpList _ _ _ ((⟨some 39,_,_,_,_,_⟩:Oper) :: _) _ _;rw[HW61.out];clear e4 e5 e6 e7 e8 e9 t4 t5 t6 t7 t8 t9)
     | (guard_target =~ wpList _ _ _ ((⟨none,.store _ (.tmp 40) _,_,_,_,_⟩:Oper) :: _) _ _;go_step;go_step;go_step;go_step;go_step;go_step;go_step;go_step;go_step;go_step;go_step;go_step;go_step;go_step;go_step;go_step;go_step;go_step;go_step;go_step;go_step;go_step;go_step;go_step;rw[HW7.out];go_step;go_step;go_step;go_step;go_step;go_step;go_step;go_step;go_step;go_step;go_step;go_step;go_step;go_step;rw[HW8.out];clear u7 u8 u9 v7 v8 v9 r11 t11;go_wp2_with (first | (guard_target =~ wpList _ _ _ ((⟨some 47,_,_,_,_,_⟩:Oper) :: _) _ _;refine wpList_load_row rfl 30 (.tmp 4) rfl G rfl 30 #[.int .i64 (k:Int),.int .i64 (c:Int),.int .i64 (r:Int),.int .i64 (n:Int),.int .i64 k1,.int .i64 i1,.string s1,.int .i64 k2,.int .i64 i2,.string s2,.slice an ln cn,.slice pb np cp] (0,0) _ HA8.out Tryz.underlying30 rfl Tryz.sizeSeg ?_) | fail))
     | fail)
    refine HISM.out.mono ?_
    rintro e w9 ⟨q,rfl,hq,hb9⟩
    have HQ9:=hide hq
    have HB9:=hide (bthen HB8.out hb9)
    have HR9:=hide (HR8.out.below hb9)
    have HA9:=hide (HA8.out.below hb9)
    have HAT9:=hide (HAT.out.below hb9)
    clear hq hb9 HISM HAT HA8 HR8 HB8 HSB8 HSL8 HW61 HW7 HW8 HV1 HV2 HB6r HRR2 HNR2 HG12 HQN HE0 HREST HH0 HKC HR5b HN0 HKK HCC HRR HNN HB4 HA6 HB6 HR6 HSB6 HS H256 HNS HLN HB5 HGG
    cases q with
    | false =>
     have HP:Hid (Z.rE b=4):=HMADE.out.2 (fun h=>by have:=HQ9.out.2 ((isW_isM HHALF.out).2 h);cases this)
     go_wp2_with (first
      | (guard_target =~ wpList _ _ _ ((⟨none,.store _ _ _,_,_,_,_⟩:Oper) :: _) _ _;refine wpList_store_row rfl 30 (.tmp 2) (.tmp 50) rfl w.heap.size segZ rfl rfl 30 segZ HR9.out Tryz.sizeSeg rfl segZ_one ?_)
      | fail)
     have HRF:=hide (Blk.row HR9.out segZ)
     have HBF:=hide (below_setRow HB9.out (Nat.le_refl _) segZ)
     exact bodyPost_ret (results_seg1 Tryz.results19 _ _ w.heap.size rfl HRF.out Tryz.sizeSeg) rfl ⟨HBF.out,.inr ⟨by rw[HP.out];exact (by decide),by rw[HP.out];rfl⟩⟩
    | true =>
     have HP:Hid (Z.rE b=0):=HMADE.out.1 ((isW_isM HHALF.out).1 (HQ9.out.1 rfl))
     have HSAME:=hide (isM_cap.1 ((isW_isM HHALF.out).1 (HQ9.out.1 rfl)))
     obtain⟨C,hC⟩:∃ C:Array Value,#[.int .i64 (k:Int),.int .i64 (c:Int),.int .i64 (r:Int),.int .i64 (n:Int),.int .i64 k1,.int .i64 i1,.string s1,.int .i64 k2,.int .i64 i2,.string s2,.slice an ln cn,.slice pb np cp]=C:=⟨_,rfl⟩
     have HCI:Hid ((Tryz.prog.info? 30).map (·.size)=some C.size):=by show _=_;rw[← hC];kernel_rfl
     have HC8:Hid (segZ.size=C.size):=by show _=_;rw[← hC];rfl
     have HC1:Hid (C.all (·.oneCell')=true):=by show _=_;rw[← hC];simp[Value.oneCell']
     have hA9:=HA9.out
     have hAT9:=HAT9.out
     rw[hC] at hA9 hAT9
     have HA10:=hide hA9
     have HAT10:=hide hAT9
     clear hA9 hAT9 HA9 HAT9 hC HMADE HHALF HQ9
     go_wp2_with (first
      | (guard_target =~ wpList _ _ _ ((⟨some 51,.load _ _,_,_,_,_⟩:Oper) :: _) _ _;refine wpList_load_row rfl 30 (.tmp 4) rfl G rfl 30 C (0,0) _ HA10.out Tryz.underlying30 rfl HCI.out ?_)
      | (guard_target =~ wpList _ _ _ ((⟨none,.store _ _ _,_,_,_,_⟩:Oper) :: _) _ _;refine wpList_store_row rfl 30 (.tmp 2) (.tmp 51) rfl w.heap.size C rfl rfl 30 segZ HR9.out HCI.out HC8.out HC1.out ?_)
      | fail)
     have HRF:=hide (Blk.row HR9.out C)
     have HBF:=hide (below_setRow HB9.out (Nat.le_refl _) C)
     refine bodyPost_ret (results_seg1 Tryz.results19 _ _ w.heap.size rfl HRF.out HCI.out) rfl ⟨HBF.out,.inl ⟨HP.out,_,rfl,?_⟩⟩
     rw[← HSAME.out]
     exact HAT10.out.row HR9.out C
end Go.Proofs.YtnkpgmibhpmdhaaGreat
namespace Go.Proofs.YtnkpgmibhpmdhaaGreat
set_option maxRecDepth 10000
set_option linter.unusedVariables false
open Go.RowKit
theorem sts_snoc (x i:Nat):K.sts x (List.replicate (i+1) 0)=K.st (K.sts x (List.replicate i 0)) 0:=by
 rw[List.replicate_succ',K.sts_append];rfl
theorem st_odd (y:Nat) (h:y%2=1):K.st y 0=(y / 2) ^^^ 3988292384:=by unfold K.st;rw[if_neg (by omega)];rfl
theorem st_even (y:Nat) (h:y%2=0):K.st y 0=y / 2:=by unfold K.st;rw[if_pos h]
theorem xor_pol (y:Nat) (h:y<4294967296):bits .xor .u32 ((y:Int) / 2) 3988292384=(((y / 2) ^^^ 3988292384:Nat):Int):=by
 have:=u32_xor_nat (y / 2) 3988292384 (by omega) (by omega)
 simpa using this
set_option maxHeartbeats 2000000 in
theorem through_any (n:Nat) (w:World) (hn:n<4294967296) :
  Calls Tryz.prog 79 #[.int .u32 (n:Int)] w fun e w'=>e=.returned (.int .u32 ((K.row n:Nat):Int))∧w'=w:=by
 go_enter Tryz.func79,Tryz.ntmps79
 go_wp2_with fail
 go_loop [0,4] (fun r i=>∃ (y k:Nat),k≤8∧i=.int .i64 (k:Int)∧r=.int .u32 (y:Int)∧y<4294967296∧Hid (y=K.sts n (List.replicate k 0))) (fun _ i=>8 - (intOf i).toNat)
 case atStart=>exact⟨n,0,by omega,rfl,rfl,hn,rfl⟩
 case round =>
  obtain⟨y,k,hk,rfl,rfl,hy,HY⟩:=hrel
  by_cases hlt:k<8
  ·have HS:=hide (sts_snoc n k)
   by_cases h2:y%2=1
   ·have hb:((y:Int)%2==1)=true:=by simp;omega
    have HX:=hide (xor_pol y hy)
    have hst:=hide (st_odd y h2)
    clear h2
    go_wp2
    go_round
    case rel=>exact⟨K.st y 0,k+1,hlt,by go_num,by rw[HX.out,hst.out],K.st_lt y 0 hy,hide (by rw[HS.out,← HY.out])⟩
    case measure=>simp[intOf];omega
   ·have hb:((y:Int)%2==1)=false:=by simp;omega
    have hst:=hide (st_even y (by omega))
    clear h2
    go_wp2
    go_round
    case rel=>exact⟨K.st y 0,k+1,hlt,by go_num,by rw[hst.out];rfl,K.st_lt y 0 hy,hide (by rw[HS.out,← HY.out])⟩
    case measure=>simp[intOf];omega
  ·obtain rfl:k=8:=by omega
   go_wp2
   go_ret
   exact⟨by rw[HY.out];rfl,rfl⟩
def Tab (f:Nat→Nat) (C:Array Value):Prop:=C.size=256∧∀ i,i<256→C[i]?=some (.int .u32 ((f i:Nat):Int))
theorem Tab.one {f:Nat→Nat} {C:Array Value} (h:Tab f C):C.all (·.oneCell')=true:=by
 rw[Array.all_eq_true]
 intro i hi
 have h1:=h.2 i (by rw[← h.1];exact hi)
 rw[Array.getElem?_eq_getElem hi] at h1
 rw[Option.some.inj h1];rfl
theorem Tab.set {f:Nat→Nat} {C:Array Value} {k n:Nat} (h:Tab f C) (hk:k<256):Tab (fun i=>if i=k then n else f i) (C.setIfInBounds k (.int .u32 ((n:Nat):Int))):=by
 refine⟨by simp[h.1],fun i hi=>?_⟩
 by_cases he:i=k
 ·subst he;simp[h.1,hi]
 ·rw[Array.getElem?_setIfInBounds_ne (fun e=>he e.symm),h.2 i hi];simp[he]
theorem Tab.congr {f g:Nat→Nat} {C:Array Value} (h:Tab f C) (hfg:∀ i,i<256→f i=g i):Tab g C :=
 ⟨h.1,fun i hi=>by rw[h.2 i hi,hfg i hi]⟩
theorem Tab.zero:Tab (fun _=>0) (Array.replicate 256 (.int .u32 0)) :=
 ⟨by simp,fun i hi=>by simp[hi]⟩
theorem heap_setCell_row {w:World} {p:Nat} {C:Array Value} {t:TypeId} (h:w.heap[p]?=some (.cells C t (0,0))) (i:Nat) (u:Value) :
  (w.setCell ⟨p,i,none⟩ u).heap[p]?=some (.cells (C.setIfInBounds i u) t (0,0)):=by
 simp only[World.setCell,Array.getElem?_modify,h];simp
theorem cell_of_tab {w:World} {p:Nat} {C:Array Value} {t:TypeId} {f:Nat→Nat} (h:w.heap[p]?=some (.cells C t (0,0))) (hC:Tab f C) {i:Nat} (hi:i<256):w.cell? ⟨p,i,none⟩=some (.int .u32 ((f i:Nat):Int))∧w.frozen? ⟨p,i,none⟩=false:=by
 constructor
 ·rw[cell_of_row w p i C t (0,0) h];exact hC.2 i hi
 ·simp[World.frozen?,h]
theorem Tryz.infoTab:(Tryz.prog.info? 84).map (fun i=>(i.zero,i.size))=some (some (.agg (Array.replicate 256 (.int .u32 0))),256):=by kernel_rfl
set_option maxHeartbeats 2000000 in
theorem table_any (w:World) :
  Calls Tryz.prog 43 #[] w fun e w'=>∃ C,e=.returned (.agg C)∧Tab K.row C∧Below w.heap.size w w':=by
 obtain⟨hz,hi⟩:=zero_of_info Tryz.infoTab
 obtain⟨Z,hZ⟩:∃ Z,Array.replicate 256 (Value.int .u32 0)=Z:=⟨_,rfl⟩
 have HT:Hid (Tab (fun _=>0) Z):=hide (hZ ▸ Tab.zero)
 rw[hZ] at hz
 clear hZ
 have HI:=hide hi
 clear hi
 go_enter Tryz.func43,Tryz.ntmps43
 go_wp2_with fail
 have b0:=heap_alloc_new w (.cells Z 84)
 have b1:=heap_alloc_new (w.alloc (.cells Z 84)) (.cells Z 84)
 go_loopw [3] (fun i wr=>∃ (x:Int) (C:Array Value),0≤x∧x≤256∧i=.int .i64 x∧Hid (Tab (fun i=>if i<x.toNat then K.row i else 0) C∧wr.heap[w.heap.size]?=some (.cells Z 84 (0,0))∧wr.heap[w.heap.size+1]?=some (.cells C 84 (0,0))∧Below w.heap.size w wr)) (fun i _=>256 - (intOf i).toNat)
 case atStart =>
  refine⟨0,Z,by omega,by omega,rfl,hide ⟨by simpa using HT.out,heap_alloc_keep _ b0,by simpa using b1,((Below.refl _ _).alloc (Nat.le_refl _) _).alloc (by simp) _⟩⟩
 case round =>
  obtain⟨x,C,hx0,hx1,rfl,HR⟩:=hrel
  clear b0 b1
  by_cases hlt:x<256
  ·obtain⟨hc,hf⟩:=cell_of_tab HR.out.2.2.1 HR.out.1 (i:=x.toNat) (by omega)
   obtain⟨y,hy⟩:∃ y:Int,(((if x.toNat<x.toNat then K.row x.toNat else 0:Nat):Nat):Int)=y:=⟨_,rfl⟩
   rw[hy] at hc
   clear hy
   have hth:=fun w=>through_any x.toNat w (by omega)
   rw[show ((x.toNat:Nat):Int)=x by omega] at hth
   have HTh:=hide hth
   clear hth
   go_wp2_with (go_at_call 79;refine (HTh.out _).mono ?_;rintro e w' ⟨rfl,rfl⟩)
   go_roundw
   case rel =>
    obtain⟨r1,r2,r3,r4⟩:=HR.out
    refine⟨x+1,_,by omega,by omega,rfl,hide ⟨(r1.set (k:=x.toNat) (n:=K.row x.toNat) (by omega)).congr fun i hi=>?_,?_,heap_setCell_row r3 _ _,r4.setCell (by simp) _⟩⟩
    ·by_cases h1:i=x.toNat
     ·subst h1;simp;omega
     ·simp only[h1,if_false]
      by_cases h2:i<x.toNat
      ·rw[if_pos h2,if_pos (by omega)]
      ·rw[if_neg h2,if_neg (by omega)]
    ·rw[Below.heap_setCell _ _ _ _ (by show w.heap.size≠w.heap.size+1;omega)];exact r2
   case measure=>simp[intOf];omega
  ·obtain rfl:x=256:=by omega
   have HC:Hid (Tab K.row C):=hide (HR.out.1.congr fun i hi=>by simp[hi])
   have hsz:=HC.out.1
   have HZs:=hide HT.out.1
   have HS:=hide hsz
   clear hsz
   go_wp2_with (first|refine wpList_load_row rfl 84 (.tmp 1) rfl (w.heap.size+1) rfl 84 C (0,0) (.array 256 44) HR.out.2.2.1 Tryz.underlying84 rfl (by rw[HS.out];exact HI.out) ?_|refine wpList_store_row rfl 84 (.tmp 0) (.tmp 12) rfl w.heap.size C rfl rfl 84 Z HR.out.2.1 (by rw[HS.out];exact HI.out) (by rw[HS.out];exact HZs.out) HC.out.one ?_)
   refine bodyPost_ret (v:=.agg C) ?h1 rfl ⟨C,rfl,HC.out,?h2⟩
   case h1=>exact results_cell_row Tryz.results43 _ _ w.heap.size 84 C (0,0) (.array 256 44) rfl (setRow_heap _ _ _ _ _ _ HR.out.2.1) Tryz.underlying84 rfl (by rw[HS.out];exact HI.out)
   case h2=>exact HR.out.2.2.2.trans ⟨rfl,rfl,rfl,by simp[World.setRow],fun k hk=>setRow_other _ _ _ _ (by omega)⟩
def regBy (f:Nat→Nat) (w:Nat) (l:List Nat):Nat:=l.foldl (fun w c=>(w / 256) ^^^ f ((w%256) ^^^ c)) w
def sumBy (f:Nat→Nat) (l:List Nat):Nat:=4294967295 - regBy f 4294967295 l
theorem regBy_snoc (f:Nat→Nat) (w:Nat) (l:List Nat) (c:Nat):regBy f w (l++[c])=(regBy f w l / 256) ^^^ f ((regBy f w l%256) ^^^ c):=by simp[regBy]
theorem xor_lt8 {a b:Nat} (ha:a<256) (hb:b<256):a ^^^ b<256:=Nat.xor_lt_two_pow (n:=8) ha hb
theorem getD_lt8 {l:List Nat} (h:∀ x∈l,x<256) (k:Nat):l.getD k 0<256:=E.getD_lt h k
theorem regBy_row:∀ (l:List Nat) (w:Nat),(∀ x∈l,x<256)→regBy K.row w l=K.reg w l
 | [],w,_=>rfl
 | c :: r,w,h=>by
  have h1:=K.by8 w c (h c (by simp))
  have h2:=regBy_row r (K.sts w (K.bits8 c)) fun x hx=>h x (by simp[hx])
  have h3:regBy K.row w (c :: r)=regBy K.row ((w / 256) ^^^ K.row ((w%256) ^^^ c)) r:=rfl
  rw[h3,← h1,h2,K.reg_cons]
theorem sumBy_row (l:List Nat) (h:∀ x∈l,x<256):sumBy K.row l=K.crc l:=by
 unfold sumBy;rw[regBy_row l _ h];rfl
theorem sum_xor (x a:Int) (hx0:0≤x) (hx:x<4294967296) (ha0:0≤a) (ha:a<4294967296):bits .xor .u32 (x / 256) a=(((x.toNat / 256) ^^^ a.toNat:Nat):Int):=by
 have:=u32_xor (x / 256) a (by omega) (by omega) ha0 ha
 rw[this,show (x / 256).toNat=x.toNat / 256 by omega]
theorem byte_xor (x c:Int) (hx0:0≤x) (hc0:0≤c) (hc:c<256):bits .xor .u8 (x%256) c=(((x.toNat%256) ^^^ c.toNat:Nat):Int):=by
 have:=u8_xor (x%256) c (by omega) (by omega) hc0 hc
 rw[this,show (x%256).toNat=x.toNat%256 by omega]
theorem not_u32 (x:Int) (hx0:0≤x) (hx:x<4294967296):bits .xor .u32 IntKind.u32.max x=((4294967295 - x.toNat:Nat):Int):=by
 have:=u32_xor 4294967295 x (by omega) (by omega) hx0 hx
 rw[show IntKind.u32.max=4294967295 from rfl,this,show (4294967295:Int).toNat=4294967295 from rfl,Nat.xor_comm,← K.not_xor _ (by omega)]
set_option maxHeartbeats 2000000 in
theorem sum_zero (C:Array Value) (ao:Option Addr) (cap:Nat) (w:World) :
  Calls Tryz.prog 42 #[.agg C,.slice ao 0 cap] w fun e w'=>e=.returned (.int .u32 0)∧Below w.heap.size w w':=by
 have hsg:IntKind.u32.signed=false:=rfl
 have hnot:bits .xor .u32 IntKind.u32.max 4294967295=0:=by decide
 go_enter Tryz.func42,Tryz.ntmps42
 go_wp2_with fail
 go_loopw [5,10] (fun r i wr=>r=.int .u32 4294967295∧i=.int .i64 0∧wr=w.alloc (.cells C 84)) (fun _ _ _=>0)
 case atStart=>exact⟨rfl,rfl,rfl⟩
 case round =>
  obtain⟨rfl,rfl,rfl⟩:=hrel
  go_wp2
  go_ret
  exact⟨rfl,(Below.refl _ _).alloc (Nat.le_refl _) _⟩
set_option maxHeartbeats 2000000 in
theorem sum_some (f:Nat→Nat) (C:Array Value) (b off len cap:Nat) (l:List Nat) (w:World) (hC:Tab f C) (hf:∀ i,i<256→f i<4294967296) (hl:l.length=len) (hm:len≤140737488355328) (hb:b<w.heap.size) (hc:∀ i,i<len→w.cell? ⟨b,off+i,none⟩=some (.int .u8 ((l.getD i 0:Nat):Int))) (h256:∀ x∈l,x<256) :
  Calls Tryz.prog 42 #[.agg C,.slice (some ⟨b,off,none⟩) len cap] w fun e w'=>e=.returned (.int .u32 ((sumBy f l:Nat):Int))∧Below w.heap.size w w':=by
 have hsg:IntKind.u32.signed=false:=rfl
 have HC:=hide hC
 have HF:=hide hf
 have HL:=hide hl
 have H2:=hide h256
 have Hc:=hide hc
 clear hC hf hl h256 hc
 go_enter Tryz.func42,Tryz.ntmps42
 go_wp2_with fail
 go_loop [5,10] (fun r i=>∃ (k:Nat) (x:Int),k≤len∧i=.int .i64 (k:Int)∧r=.int .u32 x∧0≤x∧x<4294967296∧Hid (x.toNat=regBy f 4294967295 (l.take k))) (fun _ i=>len - (intOf i).toNat)
 case atStart=>exact⟨0,4294967295,by omega,rfl,rfl,by omega,by omega,hide rfl⟩
 case round =>
  obtain⟨k,x,hk,rfl,rfl,hx0,hx1,HX⟩:=hrel
  by_cases hlt:k<len
  ·have e0:(w.alloc (.cells C 84)).cell? ⟨b,off+k,none⟩=some (.int .u8 ((l.getD k 0:Nat):Int)):=by
    rw[World.cell?_alloc_lt _ _ ⟨b,off+k,none⟩ hb];exact Hc.out k hlt
   have hcl:=getD_lt8 H2.out k
   have HS:=hide (regBy_snoc f 4294967295 (l.take k) (l.getD k 0))
   have HT:=hide (take_snocN l k (by have:=HL.out;omega))
   obtain⟨c,hce⟩:∃ c:Int,((l.getD k 0:Nat):Int)=c:=⟨_,rfl⟩
   rw[hce] at e0
   have hc0:0≤c:=by omega
   have hc1:c<256:=by omega
   have HCE:=hide (show l.getD k 0=c.toNat by omega)
   have e1:=byte_xor x c hx0 hc0 hc1
   have hjl:(x.toNat%256) ^^^ c.toNat<256:=xor_lt8 (by omega) (by omega)
   obtain⟨j,hj⟩:∃ j:Int,(((x.toNat%256) ^^^ c.toNat:Nat):Int)=j:=⟨_,rfl⟩
   rw[hj] at e1
   have hj0:0≤j:=by omega
   have hj1:j<256:=by omega
   have HJ:=hide (show (x.toNat%256) ^^^ c.toNat=j.toNat by omega)
   have e2:(w.alloc (.cells C 84)).cell? ⟨w.heap.size,j.toNat,none⟩=some (.int .u32 ((f j.toNat:Nat):Int)):=by
    rw[World.cell?_alloc_new];exact HC.out.2 _ (by omega)
   have hfl:=HF.out j.toNat (by omega)
   obtain⟨F,hF⟩:∃ F:Int,((f j.toNat:Nat):Int)=F:=⟨_,rfl⟩
   rw[hF] at e2
   have e3:=sum_xor x F hx0 hx1 (by omega) (by omega)
   have HFF:=hide (show f j.toNat=F.toNat by omega)
   have hyl:(x.toNat / 256) ^^^ F.toNat<4294967296:=K.xor_lt32 (by omega) (by omega)
   obtain⟨y,hy⟩:∃ y:Int,(((x.toNat / 256) ^^^ F.toNat:Nat):Int)=y:=⟨_,rfl⟩
   rw[hy] at e3
   have hy0:0≤y:=by omega
   have hy1:y<4294967296:=by omega
   have HY:=hide (show y.toNat=(x.toNat / 256) ^^^ F.toNat by omega)
   clear hce hcl hjl hj hfl hF hyl hy
   go_wp2
   go_round
   case rel=>exact⟨k+1,y,by omega,by go_num,rfl,hy0,hy1,hide (by rw[HT.out,HS.out,HCE.out,HY.out,← HX.out,HJ.out,HFF.out])⟩
   case measure=>simp[intOf];omega
  ·obtain rfl:k=len:=by omega
   have hn:=not_u32 x hx0 hx1
   have HN:Hid (((4294967295 - x.toNat:Nat):Int)=((sumBy f l:Nat):Int)):=hide (by rw[HX.out,List.take_of_length_le (by have:=HL.out;omega)];rfl)
   obtain⟨z,hz⟩:∃ z:Int,((4294967295 - x.toNat:Nat):Int)=z:=⟨_,rfl⟩
   rw[hz] at hn HN
   clear hz
   go_wp2
   go_ret
   exact⟨ret_int HN.out,(Below.refl _ _).alloc (Nat.le_refl _) _⟩
theorem sum_any (f:Nat→Nat) (C:Array Value) (ao:Option Addr) (len cap:Nat) (l:List Nat) (w:World) (hC:Tab f C) (hf:∀ i,i<256→f i<4294967296) (h:Sl w .u8 ao len cap (ints l)) (hm:len≤140737488355328) (h256:∀ x∈l,x<256) :
  Calls Tryz.prog 42 #[.agg C,.slice ao len cap] w fun e w'=>e=.returned (.int .u32 ((sumBy f l:Nat):Int))∧Below w.heap.size w w':=by
 obtain⟨h1,h2,h3,h4,h5⟩:=h
 rw[ints_length] at h1
 by_cases h0:len=0
 ·subst h0
  obtain rfl:l=[]:=List.eq_nil_of_length_eq_zero h1
  rw[show sumBy f []=0 by simp[sumBy,regBy]]
  exact sum_zero C ao cap w
 ·rcases h5 with h5|⟨b,off,rfl,hlt,h5⟩
  ·omega
  ·exact sum_some f C b off len cap l w hC hf h1 hm hlt (fun i hi=>by rw[h5 i hi,ints_getD]) h256
theorem row_lt8:∀ i,i<256→K.row i<4294967296:=fun i hi=>K.row_lt i (by omega)
theorem sum_crc (C:Array Value) (ao:Option Addr) (len cap:Nat) (l:List Nat) (w:World) (hC:Tab K.row C) (h:Sl w .u8 ao len cap (ints l)) (hm:len≤140737488355328) (h256:∀ x∈l,x<256) :
  Calls Tryz.prog 42 #[.agg C,.slice ao len cap] w fun e w'=>e=.returned (.int .u32 ((K.crc l:Nat):Int))∧Below w.heap.size w w':=by
 rw[← sumBy_row l h256]
 exact sum_any K.row C ao len cap l w hC row_lt8 h hm h256
end Go.Proofs.YtnkpgmibhpmdhaaGreat

/- Contracts and plain facts, one behind the other: MP MI -/
import Derived.Test.YtnkpgmibhpmdhaaGreatBeBJ
namespace Go.Proofs.YtnkpgmibhpmdhaaGreat
set_option linter.unusedVariables false
set_option maxRecDepth 10000
open Go.RowKit
theorem results_vals2 {fn:Func} {p q u v:Tmp} (h:fn.results=#[.cell p 25,.cell q 25,.tmp u,.tmp v]) (tmps:Array Value) (w:World) (g g':Nat) {k i k' i':Int} {s s':ByteArray} (hp:tmps.getD p undef=.pointer (some ⟨g,0,none⟩)) (hq:tmps.getD q undef=.pointer (some ⟨g',0,none⟩)) (hA:At w g k i s) (hA':At w g' k' i' s') :
  (results fn tmps).run Tryz.prog w=.ok (.tuple #[.agg #[.int .i64 k,.int .i64 i,.string s],.agg #[.int .i64 k',.int .i64 i',.string s'],tmps.getD u undef,tmps.getD v undef]) w:=by
 have hp':tmps[p]?.getD undef=.pointer (some ⟨g,0,none⟩):=by simpa using hp
 have hq':tmps[q]?.getD undef=.pointer (some ⟨g',0,none⟩):=by simpa using hq
 unfold At at hA hA'
 simp[results,h,hp',hq',asAddr,run_loadVar_row w g 25 25 _ (0,0) _ hA Tryz.underlying25 rfl (by kernel_rfl),run_loadVar_row w g' 25 25 _ (0,0) _ hA' Tryz.underlying25 rfl (by kernel_rfl)]
theorem ends_puts {w wr:World} {G1 G2:Nat} {k i k' i':Int} {s s':ByteArray} (h1:At wr G1 k i s) (h2:At wr G2 k' i' s') (hd:G1≠G2) (hb:Below w.heap.size w wr) (hg1:w.heap.size≤G1) (hg2:w.heap.size≤G2) (a b:Int) (c:ByteArray) (a' b':Int) (c':ByteArray) :
  At (putV (putV wr G1 a b c) G2 a' b' c') G1 a b c∧At (putV (putV wr G1 a b c) G2 a' b' c') G2 a' b' c'∧Below w.heap.size w (putV (putV wr G1 a b c) G2 a' b' c'):=by
 have p1:=h1.set a b c
 have p2:At (putV wr G1 a b c) G2 k' i' s':=by
  unfold At at *
  rw[(putV_kept wr G1 a b c).block G2 (lt_of_block h2) (fun e=>hd e.symm)]
  exact h2
 have p3:At (putV (putV wr G1 a b c) G2 a' b' c') G1 a b c:=by
  have q:=p1
  unfold At at q ⊢
  rw[(putV_kept (putV wr G1 a b c) G2 a' b' c').block G1 (lt_of_block q) hd]
  exact q
 exact⟨p3,p2.set a' b' c',putV_below a' b' c' (putV_below a b c hb hg1) hg2⟩
def EndsAns (k:Int) (rows nulls:Nat) (b:List Nat) (w:World) (e:Ending) (w':World):Prop :=
 Below w.heap.size w w'∧((Z.zE k rows nulls b≠0∧e=.returned (.tuple #[.agg #[.int .i64 0,.int .i64 0,.string ⟨#[]⟩],.agg #[.int .i64 0,.int .i64 0,.string ⟨#[]⟩],.slice none 0 0,.int .i64 ((Z.zE k rows nulls b:Nat):Int)])) ∨
  (Z.zE k rows nulls b=0∧∃ ab nb cb,e=.returned (.tuple #[(Z.zMn k rows nulls b).v,(Z.zMx k rows nulls b).v,.slice ab nb cb,.int .i64 0])∧Sl w' .u8 ab nb cb (ints (Z.zR k rows nulls b))))
set_option maxHeartbeats 2000000 in
theorem toends_any (ao:Option Addr) (len cap:Nat) (b:List Nat) (k c:Int) (rows nulls:Nat) (ak ai:Int) (az:ByteArray) (bk bi:Int) (bz:ByteArray) (vn vd:Value) (w:World) (h:Sl w .u8 ao len cap (ints b)) (h256:∀ x∈b,x<256) (hm:len≤140737488355328) (hv1:vn.oneCell'=true) (hv2:vd.oneCell'=true) (hrn:nulls≤rows) :
  Calls Tryz.prog 47 #[.slice ao len cap,.agg #[.int .i64 k,.int .i64 c,.int .i64 (rows:Int),.int .i64 (nulls:Int),.int .i64 ak,.int .i64 ai,.string az,.int .i64 bk,.int .i64 bi,.string bz,vn,vd]] w (EndsAns k rows nulls b w):=by
 obtain⟨w0,hw0⟩:∃ w0,w.alloc (.cells #[.int .i64 k,.int .i64 c,.int .i64 (rows:Int),.int .i64 (nulls:Int),.int .i64 ak,.int .i64 ai,.string az,.int .i64 bk,.int .i64 bi,.string bz,vn,vd] 30)=w0:=⟨_,rfl⟩
 have hb0:Below w.heap.size w w0:=by rw[← hw0];exact below_one w _
 have hB0:Blk w0 w.heap.size #[.int .i64 k,.int .i64 c,.int .i64 (rows:Int),.int .i64 (nulls:Int),.int .i64 ak,.int .i64 ai,.string az,.int .i64 bk,.int .i64 bi,.string bz,vn,vd] 30:=by rw[← hw0];exact Blk.new w _ _
 have HW0:=hide hw0
 clear hw0
 obtain⟨G1,hG1⟩:∃ G,w.heap.size+1=G:=⟨_,rfl⟩
 obtain⟨G2,hG2⟩:∃ G,w.heap.size+1+1=G:=⟨_,rfl⟩
 obtain⟨G3,hG3⟩:∃ G,w.heap.size+1+1+1=G:=⟨_,rfl⟩
 obtain⟨w3,hw3⟩:∃ w3,((w0.alloc (.cells #[.int .i64 0,.int .i64 0,.string ⟨#[]⟩] 25)).alloc (.cells #[.int .i64 0,.int .i64 0,.string ⟨#[]⟩] 25)).alloc (.cells #[.int .i64 0,.int .i64 0,.string ⟨#[]⟩] 25)=w3:=⟨_,rfl⟩
 have hz0:w0.heap.size=w.heap.size+1:=by rw[← HW0.out];simp
 have hA1:At w3 G1 0 0 ⟨#[]⟩:=by rw[← hw3,← hG1,← hz0];exact ((At.new w0 0 0 ⟨#[]⟩).alloc _).alloc _
 have hA2:At w3 G2 0 0 ⟨#[]⟩:=by
  have:=(At.new (w0.alloc (.cells #[.int .i64 0,.int .i64 0,.string ⟨#[]⟩] 25)) 0 0 ⟨#[]⟩).alloc (.cells #[.int .i64 0,.int .i64 0,.string ⟨#[]⟩] 25)
  rw[← hw3,← hG2,← hz0]
  simpa using this
 have hA3:At w3 G3 0 0 ⟨#[]⟩:=by
  have:=At.new ((w0.alloc (.cells #[.int .i64 0,.int .i64 0,.string ⟨#[]⟩] 25)).alloc (.cells #[.int .i64 0,.int .i64 0,.string ⟨#[]⟩] 25)) 0 0 ⟨#[]⟩
  rw[← hw3,← hG3,← hz0]
  simpa using this
 have hb3:Below w.heap.size w w3:=by rw[← hw3];exact ((hb0.alloc (by omega) _).alloc (by simp;omega) _).alloc (by simp;omega) _
 have hB3:Blk w3 w.heap.size #[.int .i64 k,.int .i64 c,.int .i64 (rows:Int),.int .i64 (nulls:Int),.int .i64 ak,.int .i64 ai,.string az,.int .i64 bk,.int .i64 bi,.string bz,vn,vd] 30:=by rw[← hw3];exact ((hB0.alloc _).alloc _).alloc _
 obtain⟨B,hBB⟩:∃ B,w.heap.size=B:=⟨_,rfl⟩
 rw[hBB] at hB3 hG1 hG2 hG3
 have d12:G1≠G2:=by omega
 have d13:G1≠G3:=by omega
 have d23:G2≠G3:=by omega
 have HG:=hide (show w.heap.size≤G1∧w.heap.size≤G2∧w.heap.size≤G3 by omega)
 have HW3:=hide hw3
 have HB3:=hide hb3
 have HK3:=hide hB3
 have HA1:=hide hA1
 have HA2:=hide hA2
 have HA3:=hide hA3
 have HS:=hide (h.below hb3)
 have HS0:=hide h
 have H256:=hide h256
 have HL:Hid (b.length=len):=by show _=_;rw[← h.1,ints_length]
 have HGG:=hide (And.intro hG1 (And.intro hG2 hG3))
 clear hw3 hb3 hB3 hA1 hA2 hA3 h h256 hb0 hB0 hz0 hG1 hG2 hG3
 go_enter Tryz.func47,Tryz.ntmps47
 by_cases hnr:nulls=rows
 ·subst hnr
  have hE:Hid (Z.zE k nulls nulls b=0∧Z.zMn k nulls nulls b=Z.z0∧Z.zMx k nulls nulls b=Z.z0∧Z.zR k nulls nulls b=b):=by
   show _∧_
   unfold Z.zE Z.zMn Z.zMx Z.zR
   simp
  go_wp2_with fail
  rw[HW0.out,HW3.out]
  rw[HGG.out.2.2,HGG.out.2.1,HGG.out.1]
  obtain⟨a1,a2,a3⟩:=HA3.out.cells
  obtain⟨c1,c2,c3⟩:=HA1.out.cells
  obtain⟨e1,e2,e3⟩:=HA2.out.cells
  obtain⟨f1,f2,f3⟩:=HA1.out.thawed
  obtain⟨g1,g2,g3⟩:=HA2.out.thawed
  go_region
  clear a1 a2 a3 c1 c2 c3 e1 e2 e3 f1 f2 f3 g1 g2 g3
  have ht:=ends_puts HA1.out HA2.out d12 HB3.out HG.out.1 HG.out.2.1 0 0 ⟨#[]⟩ 0 0 ⟨#[]⟩
  obtain⟨w4,hw4⟩:∃ w4,(putV (putV w3 G1 0 0 ⟨#[]⟩) G2 0 0 ⟨#[]⟩).drew=w4:=⟨_,rfl⟩
  have ht2:At w4 G1 0 0 ⟨#[]⟩∧At w4 G2 0 0 ⟨#[]⟩∧Below w.heap.size w w4:=by rw[← hw4];exact⟨ht.1.below (Below.refl _ _).drew,ht.2.1.below (Below.refl _ _).drew,ht.2.2.drew⟩
  have HT:=hide ht2
  unfold putV at hw4
  rw[hw4]
  clear hw4 ht ht2
  go_wp2
  refine bodyPost_ret (results_vals2 Tryz.results47 _ w4 G1 G2 rfl rfl HT.out.1 HT.out.2.1) rfl ?_
  refine⟨HT.out.2.2,.inr ⟨hE.out.1,ao,len,cap,?_,?_⟩⟩
  ·rw[hE.out.2.1,hE.out.2.2.1];rfl
  ·rw[hE.out.2.2.2];exact HS0.out.below HT.out.2.2
 ·have hnb:((nulls:Int)==(rows:Int))=false:=by simp;omega
  have hlt:nulls<rows:=by omega
  have hE:Hid (Z.zE k rows nulls b=(if Z.oE b k≠0 then Z.oE b k else Z.oE (Z.oR b k) k)∧Z.zMn k rows nulls b=Z.oV b k∧Z.zMx k rows nulls b=Z.oV (Z.oR b k) k∧Z.zR k rows nulls b=Z.oR (Z.oR b k) k):=by
   show _∧_
   unfold Z.zE Z.zMn Z.zMx Z.zR
   rw[if_pos hlt,if_pos hlt,if_pos hlt,if_pos hlt]
   exact⟨rfl,rfl,rfl,rfl⟩
  clear hnr hlt
  go_wp2_with fail
  rw[HW0.out,HW3.out]
  try rw[HGG.out.2.2]
  try rw[HGG.out.2.1]
  try rw[HGG.out.1]
  refine (vof_any ao len cap b k w3 HS.out H256.out hm).mono ?_
  rintro e w4 ⟨qa,qc,rfl,hs1,hb4⟩
  obtain⟨⟨k1,i1,s1⟩,hV⟩:∃ x,Z.oV b k=x:=⟨_,rfl⟩
  obtain⟨r1,hR⟩:∃ x,Z.oR b k=x:=⟨_,rfl⟩
  obtain⟨n1,hN⟩:∃ n,r1.length=n:=⟨_,rfl⟩
  obtain⟨X,hX⟩:∃ x,Z.oE b k=x:=⟨_,rfl⟩
  rw[hR,hN] at hs1
  rw[hV,hR,hX,hN]
  simp only[Z.V.v]
  have HE2:=hE
  rw[hV,hR,hX] at HE2
  have HS1:=hide hs1
  have HB4:=hide (bthen HB3.out hb4)
  have hK4:=HK3.out.below hb4
  have HK4:=hide hK4
  have HC1:=hide (HA1.out.below hb4)
  have HC2:=hide (HA2.out.below hb4)
  have HC3:=hide (HA3.out.below hb4)
  have b0:w4.cell? ⟨B,0,none⟩=some (.int .i64 k):=hK4.cell (i:=0) rfl
  obtain⟨c1,c2,c3⟩:=HC1.out.cells
  obtain⟨f1,f2,f3⟩:=HC1.out.thawed
  have hrl:n1≤len:=by
   have h2:(Z.oR b k).length≤b.length:=by
    unfold Z.oR
    split
    ·unfold Z.oS
     split
     ·simp
     ·split
      ·simp
      ·split
       ·unfold E.xR
        simp
       ·exact Nat.le_refl _
    ·simp
   rw[hR,hN,HL.out] at h2
   exact h2
  have hr256:∀ x∈r1,x<256:=by rw[← hR];exact oR_lt H256.out k
  have HR256:=hide hr256
  clear hr256
  have hGB:G1≠B:=by have:=HGG.out.1;omega
  have hK5:Blk (putV w4 G1 k1 i1 s1) B #[.int .i64 k,.int .i64 c,.int .i64 (rows:Int),.int .i64 (nulls:Int),.int .i64 ak,.int .i64 ai,.string az,.int .i64 bk,.int .i64 bi,.string bz,vn,vd] 30:=by
   unfold putV
   exact ((hK4.other (p:=⟨G1,0,none⟩) (fun e=>hGB e) _).other (p:=⟨G1,1,none⟩) (fun e=>hGB e) _).other (p:=⟨G1,2,none⟩) (fun e=>hGB e) _
  have q0:(putV w4 G1 k1 i1 s1).cell? ⟨B,0,none⟩=some (.int .i64 k):=hK5.cell (i:=0) rfl
  have hD2:At (putV w4 G1 k1 i1 s1) G2 0 0 ⟨#[]⟩:=by
   have h2:=HC2.out
   unfold At at h2 ⊢
   rw[(putV_kept w4 G1 k1 i1 s1).block G2 (lt_of_block h2) (fun e=>d12 e.symm)]
   exact h2
  have hD3:At (putV w4 G1 k1 i1 s1) G3 0 0 ⟨#[]⟩:=by
   have h2:=HC3.out
   unfold At at h2 ⊢
   rw[(putV_kept w4 G1 k1 i1 s1).block G3 (lt_of_block h2) (fun e=>d13 e.symm)]
   exact h2
  have hD1:=HC1.out.set k1 i1 s1
  have hB5:Below w.heap.size w (putV w4 G1 k1 i1 s1):=putV_below k1 i1 s1 HB4.out HG.out.1
  have hs5:=HS1.out.putV HC1.out k1 i1 s1
  obtain⟨w5,hw5⟩:∃ w5,putV w4 G1 k1 i1 s1=w5:=⟨_,rfl⟩
  rw[hw5] at hD1 hD2 hD3 hB5 hs5 hK5
  have HD1:=hide hD1
  have HD2:=hide hD2
  have HD3:=hide hD3
  have HB5:=hide hB5
  have HS5:=hide hs5
  unfold putV at hw5 q0
  have HW5:=hide hw5
  clear hw5 hD1 hD2 hD3 hB5 hs5 hK5
  have HX:=hide hX
  have HR:=hide hR
  clear hV hR hN hX hs1 hb4 hK4 HW0 HW3 HA1 HA2 HA3 HK3 HGG hE
  by_cases hX0:X=0
  ·subst hX0
   go_wp2_with fail
   rw[HW5.out]
   clear q0 c1 c2 c3 f1 f2 f3
   refine (vof_any qa n1 qc r1 k w5 HS5.out HR256.out (by omega)).mono ?_
   rintro e w6 ⟨pa,pc,rfl,hs6,hb6⟩
   obtain⟨⟨k2,i2,s2⟩,hV2⟩:∃ x,Z.oV r1 k=x:=⟨_,rfl⟩
   obtain⟨r2,hR2⟩:∃ x,Z.oR r1 k=x:=⟨_,rfl⟩
   obtain⟨n2,hN2⟩:∃ n,r2.length=n:=⟨_,rfl⟩
   obtain⟨Y,hY⟩:∃ x,Z.oE r1 k=x:=⟨_,rfl⟩
   rw[hR2,hN2] at hs6
   rw[hV2,hR2,hY,hN2]
   simp only[Z.V.v]
   have HE3:=HE2
   rw[hV2,hR2,hY] at HE3
   have HS6:=hide hs6
   have HB6:=hide (bthen HB5.out hb6)
   have HF1:=hide (HD1.out.below hb6)
   have HF2:=hide (HD2.out.below hb6)
   have HF3:=hide (HD3.out.below hb6)
   obtain⟨e1,e2,e3⟩:=HF2.out.cells
   obtain⟨g1,g2,g3⟩:=HF2.out.thawed
   have hh1:At (putV w6 G2 k2 i2 s2) G1 k1 i1 s1:=by
    have h2:=HF1.out
    unfold At at h2 ⊢
    rw[(putV_kept w6 G2 k2 i2 s2).block G1 (lt_of_block h2) d12]
    exact h2
   have hh3:At (putV w6 G2 k2 i2 s2) G3 0 0 ⟨#[]⟩:=by
    have h2:=HF3.out
    unfold At at h2 ⊢
    rw[(putV_kept w6 G2 k2 i2 s2).block G3 (lt_of_block h2) (fun e=>d23 e.symm)]
    exact h2
   have hh2:=HF2.out.set k2 i2 s2
   have hb7:Below w.heap.size w (putV w6 G2 k2 i2 s2):=putV_below k2 i2 s2 HB6.out HG.out.2.1
   have hs7:=HS6.out.putV HF2.out k2 i2 s2
   obtain⟨w7,hw7⟩:∃ w7,putV w6 G2 k2 i2 s2=w7:=⟨_,rfl⟩
   rw[hw7] at hh1 hh2 hh3 hb7 hs7
   have HH1:=hide hh1
   have HH2:=hide hh2
   have HH3:=hide hh3
   have HB7:=hide hb7
   have HS7:=hide hs7
   unfold putV at hw7
   have HW7:=hide hw7
   clear hw7 hh1 hh2 hh3 hb7 hs7 hb6 hs6 hV2 hR2 hN2 hY HW5 HE2
   by_cases hY0:Y=0
   ·subst hY0
    go_wp2_with fail
    rw[HW7.out]
    clear e1 e2 e3 g1 g2 g3
    obtain⟨c1,c2,c3⟩:=HH1.out.cells
    obtain⟨e1,e2,e3⟩:=HH2.out.cells
    obtain⟨f1,f2,f3⟩:=HH1.out.thawed
    obtain⟨g1,g2,g3⟩:=HH2.out.thawed
    go_region
    clear c1 c2 c3 e1 e2 e3 f1 f2 f3 g1 g2 g3
    have hm2:At (putV w7 G1 k1 i1 s1) G2 k2 i2 s2:=by
     have h2:=HH2.out
     unfold At at h2 ⊢
     rw[(putV_kept w7 G1 k1 i1 s1).block G2 (lt_of_block h2) (fun e=>d12 e.symm)]
     exact h2
    have hs8:=((HS7.out.putV HH1.out k1 i1 s1).putV hm2 k2 i2 s2).below (Below.refl _ _).drew
    have ht:=ends_puts HH1.out HH2.out d12 HB7.out HG.out.1 HG.out.2.1 k1 i1 s1 k2 i2 s2
    obtain⟨w9,hw9⟩:∃ w9,(putV (putV w7 G1 k1 i1 s1) G2 k2 i2 s2).drew=w9:=⟨_,rfl⟩
    have ht2:At w9 G1 k1 i1 s1∧At w9 G2 k2 i2 s2∧Below w.heap.size w w9:=by rw[← hw9];exact⟨ht.1.below (Below.refl _ _).drew,ht.2.1.below (Below.refl _ _).drew,ht.2.2.drew⟩
    have HT:=hide ht2
    rw[hw9] at hs8
    have HS9:=hide hs8
    clear hs8 hm2
    unfold putV at hw9
    rw[hw9]
    clear hw9 ht ht2
    go_wp2
    refine bodyPost_ret (results_vals2 Tryz.results47 _ w9 G1 G2 rfl rfl HT.out.1 HT.out.2.1) rfl ?_
    refine⟨HT.out.2.2,.inr ⟨by rw[HE3.out.1];rfl,pa,n2,pc,by rw[HE3.out.2.1,HE3.out.2.2.1];rfl,?_⟩⟩
    rw[HE3.out.2.2.2]
    exact HS9.out
   ·have hY0':(((Y:Nat):Int) != 0)=true:=by simp;omega
    have HP:Hid (Z.zE k rows nulls b=Y):=by show _=_;rw[HE3.out.1,if_neg (by decide)]
    have HY0:=hide hY0
    clear hY0
    go_wp2_with fail
    rw[HW7.out]
    clear e1 e2 e3 g1 g2 g3
    obtain⟨a1,a2,a3⟩:=HH3.out.cells
    obtain⟨c1,c2,c3⟩:=HH1.out.cells
    obtain⟨e1,e2,e3⟩:=HH2.out.cells
    obtain⟨f1,f2,f3⟩:=HH1.out.thawed
    obtain⟨g1,g2,g3⟩:=HH2.out.thawed
    go_region
    clear a1 a2 a3 c1 c2 c3 e1 e2 e3 f1 f2 f3 g1 g2 g3
    have ht:=ends_puts HH1.out HH2.out d12 HB7.out HG.out.1 HG.out.2.1 0 0 ⟨#[]⟩ 0 0 ⟨#[]⟩
    obtain⟨w9,hw9⟩:∃ w9,(putV (putV w7 G1 0 0 ⟨#[]⟩) G2 0 0 ⟨#[]⟩).drew=w9:=⟨_,rfl⟩
    have ht2:At w9 G1 0 0 ⟨#[]⟩∧At w9 G2 0 0 ⟨#[]⟩∧Below w.heap.size w w9:=by rw[← hw9];exact⟨ht.1.below (Below.refl _ _).drew,ht.2.1.below (Below.refl _ _).drew,ht.2.2.drew⟩
    have HT:=hide ht2
    unfold putV at hw9
    rw[hw9]
    clear hw9 ht ht2
    go_wp2
    refine bodyPost_ret (results_vals2 Tryz.results47 _ w9 G1 G2 rfl rfl HT.out.1 HT.out.2.1) rfl ?_
    exact⟨HT.out.2.2,.inl ⟨by rw[HP.out];exact HY0.out,by rw[HP.out];rfl⟩⟩
  ·have hX0':(((X:Nat):Int) != 0)=true:=by simp;omega
   have HP:Hid (Z.zE k rows nulls b=X):=by show _=_;rw[HE2.out.1,if_pos hX0]
   have HX0:=hide hX0
   clear q0 hX0
   go_wp2_with fail
   rw[HW5.out]
   clear c1 c2 c3 f1 f2 f3
   obtain⟨a1,a2,a3⟩:=HD3.out.cells
   obtain⟨c1,c2,c3⟩:=HD1.out.cells
   obtain⟨e1,e2,e3⟩:=HD2.out.cells
   obtain⟨f1,f2,f3⟩:=HD1.out.thawed
   obtain⟨g1,g2,g3⟩:=HD2.out.thawed
   go_region
   clear a1 a2 a3 c1 c2 c3 e1 e2 e3 f1 f2 f3 g1 g2 g3
   have ht:=ends_puts HD1.out HD2.out d12 HB5.out HG.out.1 HG.out.2.1 0 0 ⟨#[]⟩ 0 0 ⟨#[]⟩
   obtain⟨w9,hw9⟩:∃ w9,(putV (putV w5 G1 0 0 ⟨#[]⟩) G2 0 0 ⟨#[]⟩).drew=w9:=⟨_,rfl⟩
   have ht2:At w9 G1 0 0 ⟨#[]⟩∧At w9 G2 0 0 ⟨#[]⟩∧Below w.heap.size w w9:=by rw[← hw9];exact⟨ht.1.below (Below.refl _ _).drew,ht.2.1.below (Below.refl _ _).drew,ht.2.2.drew⟩
   have HT:=hide ht2
   unfold putV at hw9
   rw[hw9]
   clear hw9 ht ht2
   go_wp2
   refine bodyPost_ret (results_vals2 Tryz.results47 _ w9 G1 G2 rfl rfl HT.out.1 HT.out.2.1) rfl ?_
   exact⟨HT.out.2.2,.inl ⟨by rw[HP.out];exact HX0.out,by rw[HP.out];rfl⟩⟩
end Go.Proofs.YtnkpgmibhpmdhaaGreat
namespace Go.Proofs.YtnkpgmibhpmdhaaGreat
set_option linter.unusedVariables false
set_option maxRecDepth 10000
open Go.RowKit Go.Maps
def Z.wE (s:Z.S):Int:=if Z.gE s.bd ((s.rows:Int) - (s.nulls:Int)) s.k s.c≠0 then Z.gE s.bd ((s.rows:Int) - (s.nulls:Int)) s.k s.c else if s.ns=[] then 0 else joinE s.ns (Z.gL s.bd ((s.rows:Int) - (s.nulls:Int)) s.k s.c)
def Z.wL (s:Z.S):List Z.V:=if Z.gE s.bd ((s.rows:Int) - (s.nulls:Int)) s.k s.c≠0 then [] else if s.ns=[] then Z.gL s.bd ((s.rows:Int) - (s.nulls:Int)) s.k s.c else joinL s.ns (Z.gL s.bd ((s.rows:Int) - (s.nulls:Int)) s.k s.c)
def ValsAns (s:Z.S) (w:World) (e:Ending) (w':World):Prop:=∃ a cp,e=.returned (.tuple #[.slice a (Z.wL s).length cp,.int .i64 (Z.wE s)])∧SlV w' a (Z.wL s).length cp (Z.wL s)∧Below w.heap.size w w'
theorem ValsAns.no {s:Z.S} {E:Int} {w w':World} (h:Z.gE s.bd ((s.rows:Int) - (s.nulls:Int)) s.k s.c=E) (h0:E≠0) (hb:Below w.heap.size w w'):ValsAns s w (.returned (.tuple #[.slice none 0 0,.int .i64 E])) w':=by
 have e1:Z.wE s=E:=by unfold Z.wE;rw[h,if_pos h0]
 have e2:Z.wL s=[]:=by unfold Z.wL;rw[h,if_pos h0]
 unfold ValsAns;rw[e1,e2]
 exact⟨none,0,rfl,SlV.nil _,hb⟩
theorem ValsAns.bare {s:Z.S} {w w':World} {a:Option Addr} {m cp:Nat} {L:List Z.V} (h:Z.gE s.bd ((s.rows:Int) - (s.nulls:Int)) s.k s.c=0) (hL:Z.gL s.bd ((s.rows:Int) - (s.nulls:Int)) s.k s.c=L) (h0:s.ns=[]) (hs:SlV w' a m cp L) (hb:Below w.heap.size w w'):ValsAns s w (.returned (.tuple #[.slice a m cp,.int .i64 0])) w':=by
 have e1:Z.wE s=0:=by unfold Z.wE;rw[if_neg (by omega),if_pos h0]
 have e2:Z.wL s=L:=by unfold Z.wL;rw[if_neg (by omega),if_pos h0];exact hL
 obtain rfl:L.length=m:=hs.1
 unfold ValsAns;rw[e1,e2]
 exact⟨a,cp,rfl,hs,hb⟩
theorem ValsAns.join {s:Z.S} {w w':World} {B:Nat} {v:Value} {L:List Z.V} (h:Z.gE s.bd ((s.rows:Int) - (s.nulls:Int)) s.k s.c=0) (hL:Z.gL s.bd ((s.rows:Int) - (s.nulls:Int)) s.k s.c=L) (h0:s.ns≠[]) (hs:OwnV w' B v (joinL s.ns L)) (hb:Below w.heap.size w w'):ValsAns s w (.returned (.tuple #[v,.int .i64 (joinE s.ns L)])) w':=by
 have e1:Z.wE s=joinE s.ns L:=by unfold Z.wE;rw[if_neg (by omega),if_neg h0,hL]
 have e2:Z.wL s=joinL s.ns L:=by unfold Z.wL;rw[if_neg (by omega),if_neg h0,hL]
 obtain⟨a,cp,rfl,h1,_⟩:=SlV.of_own hs
 unfold ValsAns;rw[e1,e2]
 exact⟨a,cp,rfl,h1,hb⟩
theorem ofK_parts {w:World} {b:Nat} {kind:Int} {f g:FuncId} {x y:Value} (h:OfK w b kind f g (.agg #[x,y])):x=.func (.func 147) #[] #[.pointer (some ⟨b+1,0,none⟩),.pointer (some ⟨b,0,none⟩)]∧y=.func (.func 148) #[] #[.pointer (some ⟨b+2,0,none⟩),.pointer (some ⟨b,0,none⟩)]:=by
 have h1:=h.1
 injection h1 with h1
 injection h1 with h1
 injection h1 with h1 h2
 injection h2 with h2 _
 exact⟨h1,h2⟩
def valsTbl (B W:Nat) (k c:Int) (q:Bool):List (Nat × V.Ent) :=
 [(1,V.Ent.is (.pointer (some ⟨B,0,none⟩))),(9,V.Ent.is (.pointer (some ⟨B,0,none⟩))),(10,V.Ent.is (.int .i64 k)),(11,V.Ent.mapC k),(12,V.Ent.is (.pointer (some ⟨B,1,none⟩))),(13,V.Ent.is (.int .i64 c)),(14,V.Ent.lookC k c q),(8,V.Ent.lookC k c q),(15,V.Ent.codC k c),(16,V.Ent.is (.bool q)),(4,V.Ent.newC W),(5,V.Ent.is (.bool q))]
theorem gL_len {b:List Nat} {n kind codec:Int} (h256:∀ x∈b,x<256) (h:Z.gE b n kind codec=0):(Z.gL b n kind codec).length≤140737488355328:=by
 obtain⟨N,_,h2,h3,_⟩:=body_two h256 h
 have:=(chk_zero (bE_chk h3)).2.1
 omega
set_option maxHeartbeats 2000000 in
theorem svals_any (s:Z.S) (v:Value) (w:World) (h:SegAt w v s) (hc:Z.I64 s.c) (hlt:∀ x∈s.bd,x<256) (ons:s.ns.length*32≤140737488355328) (obd:s.bd.length≤140737488355328) (hr:s.rows<4611686018427387904) (hu:s.nulls<4611686018427387904) :
  Calls Tryz.prog 82 #[v] w (ValsAns s w):=by
 obtain⟨an,cn,ab,cb,rfl,hsb,hsl⟩:=h
 obtain⟨k,c,rows,nulls,⟨ak,ai,az⟩,⟨bk,bi,bz⟩,ns,bd⟩:=s
 simp only at hsb hsl hc hlt ons obd hr hu
 unfold segC
 simp only
 obtain⟨nn,hnn⟩:∃ nn,ns.length=nn:=⟨_,rfl⟩
 obtain⟨nd,hnd⟩:∃ nd,bd.length=nd:=⟨_,rfl⟩
 rw[hnn] at hsb ons ⊢
 rw[hnd] at hsl obd ⊢
 have hb1:=below_one w (.cells #[.int .i64 k,.int .i64 c,.int .i64 (rows:Int),.int .i64 (nulls:Int),.int .i64 ak,.int .i64 ai,.string az,.int .i64 bk,.int .i64 bi,.string bz,.slice an nn cn,.slice ab nd cb] 30)
 have hB:=Blk.new w #[.int .i64 k,.int .i64 c,.int .i64 (rows:Int),.int .i64 (nulls:Int),.int .i64 ak,.int .i64 ai,.string az,.int .i64 bk,.int .i64 bi,.string bz,.slice an nn cn,.slice ab nd cb] 30
 obtain⟨w1,hw1⟩:∃ w1,w.alloc (.cells #[.int .i64 k,.int .i64 c,.int .i64 (rows:Int),.int .i64 (nulls:Int),.int .i64 ak,.int .i64 ai,.string az,.int .i64 bk,.int .i64 bi,.string bz,.slice an nn cn,.slice ab nd cb] 30)=w1:=⟨_,rfl⟩
 rw[hw1] at hb1 hB
 obtain⟨B,hBB⟩:∃ B,w.heap.size=B:=⟨_,rfl⟩
 rw[hBB] at hB
 have hBl:=hB.lt
 have c0:=hB.cell (i:=0) rfl
 have c1:=hB.cell (i:=1) rfl
 have HW1:=hide hw1
 have HSB:=hide (hsb.below hb1)
 have HSL:=hide (hsl.below hb1)
 have HB1:=hide hb1
 have HK:=hide hB
 have HNN:=hide hnn
 have HLT:=hide hlt
 have HC64:=hide hc
 obtain⟨q,hq⟩:∃ q,(decide (c=1)||decide (c=2)||decide (c=3)||(decide (c=4)&&decide (k=1)))=q:=⟨_,rfl⟩
 have HQ:=hide hq.symm
 clear hw1 hb1 hB hsb hsl hnn hlt hc hnd hq
 go_enter Tryz.func82,Tryz.ntmps82
 go_wp2_with fail
 rw[HW1.out]
 refine V.wp_region_dead (w0:=w1) [9,10,11,12,13,14,8,15,16,4,5] [1] [(10,[4])] (valsTbl B w1.heap.size k c q) (V.LaidC 4 w1.heap.size k c) 10 rfl Tryz.mixed (by kernel_rfl) (by kernel_rfl) (Below.refl _ _) ?hb ?hs ?hX ?hd
 case hb =>
  intro d hd
  simp only[List.mem_cons,List.not_mem_nil,or_false] at hd
  obtain rfl:=hd
  rfl
 case hs =>
  refine⟨.inl ⟨rfl,by decide,?_⟩,.inl ⟨rfl,by decide,?_⟩,.inl ⟨rfl,by decide,?_⟩,.inl ⟨rfl,by decide,?_⟩,.inl ⟨rfl,by decide,?_⟩,.inl ⟨rfl,by decide,?_⟩,.inl ⟨rfl,by decide,?_⟩,.inl ⟨rfl,by decide,?_⟩,.inl ⟨rfl,by decide,?_⟩,.inl ⟨rfl,by decide,?_⟩,.inr ⟨.inl rfl,?_⟩,.inl ⟨rfl,by decide,?_⟩,trivial⟩
  ·exact V.Step.fieldG (p:=.pointer (some ⟨B,0,none⟩)) (q:=.pointer (some ⟨B,0,none⟩)) (.inl rfl) rfl rfl (fun w=>by simp[go_sem]) (fun _ h=>by cases h;rfl)
  ·exact V.Step.loadI (.inl rfl) rfl rfl Tryz.underlying3 hBl c0 (fun _ h=>by cases h;rfl)
  ·exact V.Step.codecs (.inl rfl) rfl rfl (fun _ h=>by cases h;rfl)
  ·exact V.Step.fieldG (p:=.pointer (some ⟨B,0,none⟩)) (q:=.pointer (some ⟨B,1,none⟩)) (.inl rfl) rfl rfl (fun w=>by simp[go_sem]) (fun _ h=>by cases h;rfl)
  ·exact V.Step.loadI (.inl rfl) rfl rfl Tryz.underlying3 hBl c1 (fun _ h=>by cases h;rfl)
  ·exact V.Step.lookC (.inl rfl) rfl rfl rfl HC64.out HQ.out (fun _ h=>by cases h;rfl)
  ·exact V.Step.move (.inl rfl) (.inl rfl) (.inl ⟨_,rfl⟩) (fun _ h=>by cases h;rfl)
  ·exact V.Step.ext0C (.inl rfl) rfl rfl (fun _ h=>by cases h;rfl)
  ·exact V.Step.ext1C (.inl rfl) rfl rfl (fun _ h=>by cases h;rfl)
  ·exact V.Step.newC (.inl rfl) rfl (fun _ h=>by cases h;rfl)
  ·refine V.Touch.layC rfl rfl rfl rfl rfl (fun d hd=>?_)
   replace hd:d∈[1]∨d∈[9,10,11,12,13,14,8,15,16]:=by
    rcases hd with hd|hd
    ·exact .inl hd
    ·exact .inr (V.mem_alive [9,10,11,12,13,14,8,15,16] hd (by kernel_rfl))
   simp only[List.mem_cons,List.not_mem_nil,or_false] at hd
   rcases hd with rfl|(rfl|rfl|rfl|rfl|rfl|rfl|rfl|rfl|rfl)
   all_goals first|exact V.SafeC.is _|exact V.SafeC.codC _ _|exact V.SafeC.lookC _ _ _|exact V.SafeC.mapC _
  ·exact V.Step.move (.inl rfl) (.inr rfl) (.inl ⟨_,rfl⟩) (fun _ h=>by cases h;rfl)
 case hX =>
  intro j o hj hwt hne a wa wb v hx hbb
  exact hx.put hbb (V.once_get (by kernel_rfl) hj hwt hne)
 case hd =>
 intro vs w3 hw3 hk hx
 obtain⟨b,x,y,e4,hbl,hcell,hv⟩:=hx (by decide)
 rw[V.puts_eval (by decide) (by simp)] at e4
 have v5:=hk 11 _ 5 rfl rfl (by decide)
 have v5:vs 5=.bool q:=v5
 obtain⟨y9,hy9⟩:∃ u,vs 9=u:=⟨_,rfl⟩
 obtain⟨y10,hy10⟩:∃ u,vs 10=u:=⟨_,rfl⟩
 obtain⟨y11,hy11⟩:∃ u,vs 11=u:=⟨_,rfl⟩
 obtain⟨y12,hy12⟩:∃ u,vs 12=u:=⟨_,rfl⟩
 obtain⟨y13,hy13⟩:∃ u,vs 13=u:=⟨_,rfl⟩
 obtain⟨y14,hy14⟩:∃ u,vs 14=u:=⟨_,rfl⟩
 obtain⟨y8,hy8⟩:∃ u,vs 8=u:=⟨_,rfl⟩
 obtain⟨y15,hy15⟩:∃ u,vs 15=u:=⟨_,rfl⟩
 obtain⟨y16,hy16⟩:∃ u,vs 16=u:=⟨_,rfl⟩
 simp only[V.puts,List.foldl_cons,List.foldl_nil,e4,v5,hy9,hy10,hy11,hy12,hy13,hy14,hy8,hy15,hy16,Act.put,List.setIfInBounds_toArray,List.set_cons_zero,List.set_cons_succ]
 have HB3:=hide (bthen HB1.out hw3)
 have HSB3:=hide (HSB.out.below hw3)
 have HSL3:=hide (HSL.out.below hw3)
 have hK3:=HK.out.below hw3
 have HK3:=hide hK3
 have d2:=hK3.cell (i:=2) rfl
 have d3:=hK3.cell (i:=3) rfl
 have d11:=hK3.cell (i:=11) rfl
 have e1:w3.cell? ⟨b,1,none⟩=some y:=by simp[World.cell?,hcell]
 have e0:w3.cell? ⟨b,0,none⟩=some x:=by simp[World.cell?,hcell]
 obtain⟨N,hN⟩:∃ N:Int,(rows:Int) - (nulls:Int)=N:=⟨_,rfl⟩
 have HNQ:=hide hN
 have hNN:IntKind.i64.wrap N=N:=by rw[IntKind.wrap_i64];omega
 obtain⟨_,_,_,_,_,hv1,hv2,hv3,hv4⟩:=hv
 clear hk hw3 hK3 hy9 hy10 hy11 hy12 hy13 hy14 hy8 hy15 hy16 HSB HSL HB1 HK HW1 hbl hcell e4 v5
 by_cases h1:c=1
 ·subst h1
  obtain rfl:q=true:=by rw[HQ.out];rfl
  obtain⟨b',hO⟩:=hv1 rfl
  obtain⟨ho1,ho2⟩:=ofK_parts hO
  have HOK:=hide hO
  rw[ho2] at e1
  clear hO ho1 ho2 hv1 hv2 hv3 hv4
  have HG:Hid (Calls Tryz.prog 148 #[.slice ab nd cb,.int .i64 N,.pointer (some ⟨b'+2,0,none⟩),.pointer (some ⟨b',0,none⟩)] w3 (GetAns bd N k 1 w3)):=kindO_any 104 Tryz.enter_104 b' N k 1 ab nd cb bd w3 HOK.out.2.1 HOK.out.2.2.2 ((pof_any ab nd cb bd N k w3 HSL3.out HLT.out obd).mono fun _ _ h=>get_col h)
  go_wp2_with fail
  refine HG.out.mono ?_
  rintro e w4 ⟨a4,c4,rfl,hs4,hb4⟩
  obtain⟨L,hL⟩:∃ L,Z.gL bd N k 1=L:=⟨_,rfl⟩
  obtain⟨E,hE⟩:∃ E,Z.gE bd N k 1=E:=⟨_,rfl⟩
  rw[hL] at hs4 ⊢
  rw[hE]
  obtain⟨m,hm⟩:∃ m,L.length=m:=⟨_,rfl⟩
  rw[hm] at hs4 ⊢
  have HS4:=hide hs4
  have HB4:=hide (bthen HB3.out hb4)
  have hK4:=HK3.out.below hb4
  have c10:=hK4.cell (i:=10) rfl
  have HSB4:=hide (HSB3.out.below hb4)
  have HL:=hide hL
  have HE:=hide hE
  clear hs4 hb4 hL hE hm HG HK3 HSB3 HSL3 HB3 hK4 d2 d3 d11 e1 e0
  by_cases hE0:E=0
  ·subst hE0
   by_cases hn0:nn=0
   ·subst hn0
    have hns:ns=[]:=List.eq_nil_of_length_eq_zero HNN.out
    have HF:Hid (ValsAns ⟨k,1,rows,nulls,⟨ak,ai,az⟩,⟨bk,bi,bz⟩,ns,bd⟩ w (.returned (.tuple #[.slice a4 m c4,.int .i64 0])) w4):=ValsAns.bare (by show Z.gE bd ((rows:Int) - (nulls:Int)) k 1=0;rw[HNQ.out];exact HE.out) (L:=L) (by show Z.gL bd ((rows:Int) - (nulls:Int)) k 1=L;rw[HNQ.out];exact HL.out) hns HS4.out HB4.out
    clear hns
    go_wp2
    go_ret2
    exact HF.out
   ·have hnb:((nn:Int)==0)=false:=by simp;omega
    have hns:ns≠[]:=fun e=>hn0 (by rw[← HNN.out,e];rfl)
    have hmm:m≤140737488355328:=by
     have h1:=HS4.out.1
     have h2:=gL_len (b:=bd) (n:=N) (kind:=k) (codec:=1) HLT.out HE.out
     rw[HL.out] at h2
     omega
    have HJ:=hide (zjoin_any an nn cn ns a4 m c4 L w4 HSB4.out HS4.out (by omega) hmm)
    have HNS:=hide hns
    clear hns hmm
    go_wp2_with fail
    refine HJ.out.mono ?_
    rintro e w5 ⟨v5,rfl,ho5,hb5⟩
    have HF:Hid (ValsAns ⟨k,1,rows,nulls,⟨ak,ai,az⟩,⟨bk,bi,bz⟩,ns,bd⟩ w (.returned (.tuple #[v5,.int .i64 (joinE ns L)])) w5):=ValsAns.join (by show Z.gE bd ((rows:Int) - (nulls:Int)) k 1=0;rw[HNQ.out];exact HE.out) (L:=L) (by show Z.gL bd ((rows:Int) - (nulls:Int)) k 1=L;rw[HNQ.out];exact HL.out) HNS.out ho5 (bthen HB4.out hb5)
    obtain⟨J,hJ⟩:∃ J,joinE ns L=J:=⟨_,rfl⟩
    rw[hJ] at HF ⊢
    clear ho5 hb5 hJ HJ
    go_wp2
    go_ret2
    exact HF.out
  ·have hEb:(E != 0)=true:=by simpa using hE0
   have HF:Hid (ValsAns ⟨k,1,rows,nulls,⟨ak,ai,az⟩,⟨bk,bi,bz⟩,ns,bd⟩ w (.returned (.tuple #[.slice none 0 0,.int .i64 E])) w4):=ValsAns.no (by show Z.gE bd ((rows:Int) - (nulls:Int)) k 1=E;rw[HNQ.out];exact HE.out) hE0 HB4.out
   clear hE0
   go_wp2
   go_ret2
   exact HF.out
 by_cases h2:c=2
 ·subst h2
  obtain rfl:q=true:=by rw[HQ.out];rfl
  obtain⟨b',hO⟩:=hv2 rfl
  obtain⟨ho1,ho2⟩:=ofK_parts hO
  have HOK:=hide hO
  rw[ho2] at e1
  clear hO ho1 ho2 hv1 hv2 hv3 hv4
  have HG:Hid (Calls Tryz.prog 148 #[.slice ab nd cb,.int .i64 N,.pointer (some ⟨b'+2,0,none⟩),.pointer (some ⟨b',0,none⟩)] w3 (GetAns bd N k 2 w3)):=kindO_any 106 Tryz.enter_106 b' N k 2 ab nd cb bd w3 HOK.out.2.1 HOK.out.2.2.2 ((rlof_any ab nd cb bd N k w3 HSL3.out HLT.out obd).mono fun _ _ h=>get_run h)
  go_wp2_with fail
  refine HG.out.mono ?_
  rintro e w4 ⟨a4,c4,rfl,hs4,hb4⟩
  obtain⟨L,hL⟩:∃ L,Z.gL bd N k 2=L:=⟨_,rfl⟩
  obtain⟨E,hE⟩:∃ E,Z.gE bd N k 2=E:=⟨_,rfl⟩
  rw[hL] at hs4 ⊢
  rw[hE]
  obtain⟨m,hm⟩:∃ m,L.length=m:=⟨_,rfl⟩
  rw[hm] at hs4 ⊢
  have HS4:=hide hs4
  have HB4:=hide (bthen HB3.out hb4)
  have hK4:=HK3.out.below hb4
  have c10:=hK4.cell (i:=10) rfl
  have HSB4:=hide (HSB3.out.below hb4)
  have HL:=hide hL
  have HE:=hide hE
  clear hs4 hb4 hL hE hm HG HK3 HSB3 HSL3 HB3 hK4 d2 d3 d11 e1 e0
  by_cases hE0:E=0
  ·subst hE0
   by_cases hn0:nn=0
   ·subst hn0
    have hns:ns=[]:=List.eq_nil_of_length_eq_zero HNN.out
    have HF:Hid (ValsAns ⟨k,2,rows,nulls,⟨ak,ai,az⟩,⟨bk,bi,bz⟩,ns,bd⟩ w (.returned (.tuple #[.slice a4 m c4,.int .i64 0])) w4):=ValsAns.bare (by show Z.gE bd ((rows:Int) - (nulls:Int)) k 2=0;rw[HNQ.out];exact HE.out) (L:=L) (by show Z.gL bd ((rows:Int) - (nulls:Int)) k 2=L;rw[HNQ.out];exact HL.out) hns HS4.out HB4.out
    clear hns
    go_wp2
    go_ret2
    exact HF.out
   ·have hnb:((nn:Int)==0)=false:=by simp;omega
    have hns:ns≠[]:=fun e=>hn0 (by rw[← HNN.out,e];rfl)
    have hmm:m≤140737488355328:=by
     have h1:=HS4.out.1
     have h2:=gL_len (b:=bd) (n:=N) (kind:=k) (codec:=2) HLT.out HE.out
     rw[HL.out] at h2
     omega
    have HJ:=hide (zjoin_any an nn cn ns a4 m c4 L w4 HSB4.out HS4.out (by omega) hmm)
    have HNS:=hide hns
    clear hns hmm
    go_wp2_with fail
    refine HJ.out.mono ?_
    rintro e w5 ⟨v5,rfl,ho5,hb5⟩
    have HF:Hid (ValsAns ⟨k,2,rows,nulls,⟨ak,ai,az⟩,⟨bk,bi,bz⟩,ns,bd⟩ w (.returned (.tuple #[v5,.int .i64 (joinE ns L)])) w5):=ValsAns.join (by show Z.gE bd ((rows:Int) - (nulls:Int)) k 2=0;rw[HNQ.out];exact HE.out) (L:=L) (by show Z.gL bd ((rows:Int) - (nulls:Int)) k 2=L;rw[HNQ.out];exact HL.out) HNS.out ho5 (bthen HB4.out hb5)
    obtain⟨J,hJ⟩:∃ J,joinE ns L=J:=⟨_,rfl⟩
    rw[hJ] at HF ⊢
    clear ho5 hb5 hJ HJ
    go_wp2
    go_ret2
    exact HF.out
  ·have hEb:(E != 0)=true:=by simpa using hE0
   have HF:Hid (ValsAns ⟨k,2,rows,nulls,⟨ak,ai,az⟩,⟨bk,bi,bz⟩,ns,bd⟩ w (.returned (.tuple #[.slice none 0 0,.int .i64 E])) w4):=ValsAns.no (by show Z.gE bd ((rows:Int) - (nulls:Int)) k 2=E;rw[HNQ.out];exact HE.out) hE0 HB4.out
   clear hE0
   go_wp2
   go_ret2
   exact HF.out
 by_cases h3:c=3
 ·subst h3
  obtain rfl:q=true:=by rw[HQ.out];rfl
  obtain⟨b',hO⟩:=hv3 rfl
  obtain⟨ho1,ho2⟩:=ofK_parts hO
  have HOK:=hide hO
  rw[ho2] at e1
  clear hO ho1 ho2 hv1 hv2 hv3 hv4
  have HG:Hid (Calls Tryz.prog 148 #[.slice ab nd cb,.int .i64 N,.pointer (some ⟨b'+2,0,none⟩),.pointer (some ⟨b',0,none⟩)] w3 (GetAns bd N k 3 w3)):=kindO_any 108 Tryz.enter_108 b' N k 3 ab nd cb bd w3 HOK.out.2.1 HOK.out.2.2.2 ((dof_any ab nd cb bd N k w3 HSL3.out HLT.out obd).mono fun _ _ h=>get_dict h)
  go_wp2_with fail
  refine HG.out.mono ?_
  rintro e w4 ⟨a4,c4,rfl,hs4,hb4⟩
  obtain⟨L,hL⟩:∃ L,Z.gL bd N k 3=L:=⟨_,rfl⟩
  obtain⟨E,hE⟩:∃ E,Z.gE bd N k 3=E:=⟨_,rfl⟩
  rw[hL] at hs4 ⊢
  rw[hE]
  obtain⟨m,hm⟩:∃ m,L.length=m:=⟨_,rfl⟩
  rw[hm] at hs4 ⊢
  have HS4:=hide hs4
  have HB4:=hide (bthen HB3.out hb4)
  have hK4:=HK3.out.below hb4
  have c10:=hK4.cell (i:=10) rfl
  have HSB4:=hide (HSB3.out.below hb4)
  have HL:=hide hL
  have HE:=hide hE
  clear hs4 hb4 hL hE hm HG HK3 HSB3 HSL3 HB3 hK4 d2 d3 d11 e1 e0
  by_cases hE0:E=0
  ·subst hE0
   by_cases hn0:nn=0
   ·subst hn0
    have hns:ns=[]:=List.eq_nil_of_length_eq_zero HNN.out
    have HF:Hid (ValsAns ⟨k,3,rows,nulls,⟨ak,ai,az⟩,⟨bk,bi,bz⟩,ns,bd⟩ w (.returned (.tuple #[.slice a4 m c4,.int .i64 0])) w4):=ValsAns.bare (by show Z.gE bd ((rows:Int) - (nulls:Int)) k 3=0;rw[HNQ.out];exact HE.out) (L:=L) (by show Z.gL bd ((rows:Int) - (nulls:Int)) k 3=L;rw[HNQ.out];exact HL.out) hns HS4.out HB4.out
    clear hns
    go_wp2
    go_ret2
    exact HF.out
   ·have hnb:((nn:Int)==0)=false:=by simp;omega
    have hns:ns≠[]:=fun e=>hn0 (by rw[← HNN.out,e];rfl)
    have hmm:m≤140737488355328:=by
     have h1:=HS4.out.1
     have h2:=gL_len (b:=bd) (n:=N) (kind:=k) (codec:=3) HLT.out HE.out
     rw[HL.out] at h2
     omega
    have HJ:=hide (zjoin_any an nn cn ns a4 m c4 L w4 HSB4.out HS4.out (by omega) hmm)
    have HNS:=hide hns
    clear hns hmm
    go_wp2_with fail
    refine HJ.out.mono ?_
    rintro e w5 ⟨v5,rfl,ho5,hb5⟩
    have HF:Hid (ValsAns ⟨k,3,rows,nulls,⟨ak,ai,az⟩,⟨bk,bi,bz⟩,ns,bd⟩ w (.returned (.tuple #[v5,.int .i64 (joinE ns L)])) w5):=ValsAns.join (by show Z.gE bd ((rows:Int) - (nulls:Int)) k 3=0;rw[HNQ.out];exact HE.out) (L:=L) (by show Z.gL bd ((rows:Int) - (nulls:Int)) k 3=L;rw[HNQ.out];exact HL.out) HNS.out ho5 (bthen HB4.out hb5)
    obtain⟨J,hJ⟩:∃ J,joinE ns L=J:=⟨_,rfl⟩
    rw[hJ] at HF ⊢
    clear ho5 hb5 hJ HJ
    go_wp2
    go_ret2
    exact HF.out
  ·have hEb:(E != 0)=true:=by simpa using hE0
   have HF:Hid (ValsAns ⟨k,3,rows,nulls,⟨ak,ai,az⟩,⟨bk,bi,bz⟩,ns,bd⟩ w (.returned (.tuple #[.slice none 0 0,.int .i64 E])) w4):=ValsAns.no (by show Z.gE bd ((rows:Int) - (nulls:Int)) k 3=E;rw[HNQ.out];exact HE.out) hE0 HB4.out
   clear hE0
   go_wp2
   go_ret2
   exact HF.out
 by_cases h4:c=4∧k=1
 ·obtain⟨rfl,rfl⟩:=h4
  obtain rfl:q=true:=by rw[HQ.out];rfl
  have ho:=hv4 ⟨rfl,rfl⟩
  have ho2:#[x,y]=#[.func (.func 109) #[] #[],.func (.func 110) #[] #[]]:=by unfold Z.c4 at ho;injection ho with ho
  obtain⟨rfl,rfl⟩:x=.func (.func 109) #[] #[]∧y=.func (.func 110) #[] #[]:=by simpa using ho2
  clear ho ho2 hv1 hv2 hv3 hv4
  have HG:Hid (Calls Tryz.prog 110 #[.slice ab nd cb,.int .i64 N] w3 (GetAns bd N 1 4 w3)):=(deof_any ab nd cb bd N w3 HSL3.out HLT.out obd).mono fun _ _ h=>get_delta h
  go_wp2_with fail
  refine HG.out.mono ?_
  rintro e w4 ⟨a4,c4,rfl,hs4,hb4⟩
  obtain⟨L,hL⟩:∃ L,Z.gL bd N 1 4=L:=⟨_,rfl⟩
  obtain⟨E,hE⟩:∃ E,Z.gE bd N 1 4=E:=⟨_,rfl⟩
  rw[hL] at hs4 ⊢
  rw[hE]
  obtain⟨m,hm⟩:∃ m,L.length=m:=⟨_,rfl⟩
  rw[hm] at hs4 ⊢
  have HS4:=hide hs4
  have HB4:=hide (bthen HB3.out hb4)
  have hK4:=HK3.out.below hb4
  have c10:=hK4.cell (i:=10) rfl
  have HSB4:=hide (HSB3.out.below hb4)
  have HL:=hide hL
  have HE:=hide hE
  clear hs4 hb4 hL hE hm HG HK3 HSB3 HSL3 HB3 hK4 d2 d3 d11 e1 e0
  by_cases hE0:E=0
  ·subst hE0
   by_cases hn0:nn=0
   ·subst hn0
    have hns:ns=[]:=List.eq_nil_of_length_eq_zero HNN.out
    have HF:Hid (ValsAns ⟨1,4,rows,nulls,⟨ak,ai,az⟩,⟨bk,bi,bz⟩,ns,bd⟩ w (.returned (.tuple #[.slice a4 m c4,.int .i64 0])) w4):=ValsAns.bare (by show Z.gE bd ((rows:Int) - (nulls:Int)) 1 4=0;rw[HNQ.out];exact HE.out) (L:=L) (by show Z.gL bd ((rows:Int) - (nulls:Int)) 1 4=L;rw[HNQ.out];exact HL.out) hns HS4.out HB4.out
    clear hns
    go_wp2
    go_ret2
    exact HF.out
   ·have hnb:((nn:Int)==0)=false:=by simp;omega
    have hns:ns≠[]:=fun e=>hn0 (by rw[← HNN.out,e];rfl)
    have hmm:m≤140737488355328:=by
     have h1:=HS4.out.1
     have h2:=gL_len (b:=bd) (n:=N) (kind:=1) (codec:=4) HLT.out HE.out
     rw[HL.out] at h2
     omega
    have HJ:=hide (zjoin_any an nn cn ns a4 m c4 L w4 HSB4.out HS4.out (by omega) hmm)
    have HNS:=hide hns
    clear hns hmm
    go_wp2_with fail
    refine HJ.out.mono ?_
    rintro e w5 ⟨v5,rfl,ho5,hb5⟩
    have HF:Hid (ValsAns ⟨1,4,rows,nulls,⟨ak,ai,az⟩,⟨bk,bi,bz⟩,ns,bd⟩ w (.returned (.tuple #[v5,.int .i64 (joinE ns L)])) w5):=ValsAns.join (by show Z.gE bd ((rows:Int) - (nulls:Int)) 1 4=0;rw[HNQ.out];exact HE.out) (L:=L) (by show Z.gL bd ((rows:Int) - (nulls:Int)) 1 4=L;rw[HNQ.out];exact HL.out) HNS.out ho5 (bthen HB4.out hb5)
    obtain⟨J,hJ⟩:∃ J,joinE ns L=J:=⟨_,rfl⟩
    rw[hJ] at HF ⊢
    clear ho5 hb5 hJ HJ
    go_wp2
    go_ret2
    exact HF.out
  ·have hEb:(E != 0)=true:=by simpa using hE0
   have HF:Hid (ValsAns ⟨1,4,rows,nulls,⟨ak,ai,az⟩,⟨bk,bi,bz⟩,ns,bd⟩ w (.returned (.tuple #[.slice none 0 0,.int .i64 E])) w4):=ValsAns.no (by show Z.gE bd ((rows:Int) - (nulls:Int)) 1 4=E;rw[HNQ.out];exact HE.out) hE0 HB4.out
   clear hE0
   go_wp2
   go_ret2
   exact HF.out
 have hq0:q=false:=by
  rw[HQ.out]
  by_cases h5:c=4
  ·have h6:¬ k=1:=fun e=>h4 ⟨h5,e⟩
   simp[h1,h2,h3,h6]
  ·simp[h1,h2,h3,h5]
 subst hq0
 have HF:Hid (ValsAns ⟨k,c,rows,nulls,⟨ak,ai,az⟩,⟨bk,bi,bz⟩,ns,bd⟩ w (.returned (.tuple #[.slice none 0 0,.int .i64 1])) w3):=ValsAns.no (E:=1) (by unfold Z.gE;rw[if_neg h1,if_neg h2,if_neg h3,if_neg h4]) (by decide) HB3.out
 clear h1 h2 h3 h4 hv1 hv2 hv3 hv4
 go_wp2
 go_ret2
 exact HF.out
end Go.Proofs.YtnkpgmibhpmdhaaGreat

/- A segment as the document has it; the document's Same of two that read alike. Conditions: fewer than 2^42 places, 2^47 bytes. -/
import Derived.Test.YtnkpgmibhpmdhaaGreatBeBP
namespace Go.Proofs.YtnkpgmibhpmdhaaGreat
set_option linter.unusedVariables false
set_option maxRecDepth 10000
open Go.RowKit
set_option maxHeartbeats 1000000 in
theorem sreal_any (s:Z.S) (v:Value) (w:World) (h:SegAt w v s) :
  Calls Tryz.prog 12 #[v] w fun e w'=>e=.returned v∧Below w.heap.size w w':=by
 obtain⟨an,cn,ab,cb,rfl,hsb,hsl⟩:=h
 clear hsb hsl
 obtain⟨k,c,rows,nulls,⟨ak,ai,az⟩,⟨bk,bi,bz⟩,ns,bd⟩:=s
 unfold segC
 simp only
 obtain⟨nn,hnn⟩:∃ nn,ns.length=nn:=⟨_,rfl⟩
 obtain⟨nd,hnd⟩:∃ nd,bd.length=nd:=⟨_,rfl⟩
 rw[hnn,hnd]
 clear hnn hnd
 obtain⟨w1,hw1⟩:∃ w1,w.alloc (.cells #[.int .i64 k,.int .i64 c,.int .i64 (rows:Int),.int .i64 (nulls:Int),.int .i64 ak,.int .i64 ai,.string az,.int .i64 bk,.int .i64 bi,.string bz,.slice an nn cn,.slice ab nd cb] 30)=w1:=⟨_,rfl⟩
 have hs1:w1.heap.size=w.heap.size+1:=by rw[← hw1];simp
 have hb1:Below w.heap.size w w1:=by rw[← hw1];exact below_one w _
 have hR:Blk (w1.alloc (.cells #[.int .i64 k,.int .i64 c,.int .i64 (rows:Int),.int .i64 (nulls:Int),.int .i64 ak,.int .i64 ai,.string az,.int .i64 bk,.int .i64 bi,.string bz,.slice an nn cn,.slice ab nd cb] 34)) (w.heap.size+1) #[.int .i64 k,.int .i64 c,.int .i64 (rows:Int),.int .i64 (nulls:Int),.int .i64 ak,.int .i64 ai,.string az,.int .i64 bk,.int .i64 bi,.string bz,.slice an nn cn,.slice ab nd cb] 34:=by rw[← hs1];exact Blk.new w1 _ _
 have hb2:=bthen hb1 (below_one w1 (.cells #[.int .i64 k,.int .i64 c,.int .i64 (rows:Int),.int .i64 (nulls:Int),.int .i64 ak,.int .i64 ai,.string az,.int .i64 bk,.int .i64 bi,.string bz,.slice an nn cn,.slice ab nd cb] 34))
 rw[← hw1] at hR hb2
 have HR:=hide hR
 have HB2:=hide hb2
 clear hw1 hs1 hb1 hR hb2
 go_enter Tryz.func12,Tryz.ntmps12
 go_wp2
 exact bodyPost_ret (results_cell_row Tryz.results12 _ _ (w.heap.size+1) 34 _ (0,0) _ rfl HR.out Tryz.underlying34 rfl (by kernel_rfl)) rfl ⟨rfl,HB2.out⟩
set_option maxHeartbeats 1000000 in
theorem tsame_yes (s:Z.S) (v v':Value) (w:World) (h:SegAt w v s) (h':SegAt w v' s) (ons:s.ns.length≤140737488355328) :
  Calls Tryz.prog 11 #[v,v'] w fun e w'=>e=.returned (.bool true)∧Below w.heap.size w w':=by
 obtain⟨an,cn,ab,cb,rfl,hsb,hsl⟩:=h
 obtain⟨an',cn',ab',cb',rfl,hsb',hsl'⟩:=h'
 obtain⟨k,c,rows,nulls,⟨ak,ai,az⟩,⟨bk,bi,bz⟩,ns,bd⟩:=s
 simp only at hsb hsl hsb' hsl' ons
 unfold segC
 simp only
 obtain⟨nn,hnn⟩:∃ nn,ns.length=nn:=⟨_,rfl⟩
 obtain⟨nd,hnd⟩:∃ nd,bd.length=nd:=⟨_,rfl⟩
 rw[hnn] at hsb hsb' ons ⊢
 rw[hnd] at hsl hsl' ⊢
 clear hnn hnd
 obtain⟨w1,hw1⟩:∃ w1,w.alloc (.cells #[.int .i64 k,.int .i64 c,.int .i64 (rows:Int),.int .i64 (nulls:Int),.int .i64 ak,.int .i64 ai,.string az,.int .i64 bk,.int .i64 bi,.string bz,.slice an nn cn,.slice ab nd cb] 34)=w1:=⟨_,rfl⟩
 have hb1:Below w.heap.size w w1:=by rw[← hw1];exact below_one w _
 have hK1:Blk w1 w.heap.size #[.int .i64 k,.int .i64 c,.int .i64 (rows:Int),.int .i64 (nulls:Int),.int .i64 ak,.int .i64 ai,.string az,.int .i64 bk,.int .i64 bi,.string bz,.slice an nn cn,.slice ab nd cb] 34:=by rw[← hw1];exact Blk.new w _ _
 obtain⟨w2,hw2⟩:∃ w2,w1.alloc (.cells #[.int .i64 k,.int .i64 c,.int .i64 (rows:Int),.int .i64 (nulls:Int),.int .i64 ak,.int .i64 ai,.string az,.int .i64 bk,.int .i64 bi,.string bz,.slice an' nn cn',.slice ab' nd cb'] 34)=w2:=⟨_,rfl⟩
 have hb2:Below w1.heap.size w1 w2:=by rw[← hw2];exact below_one w1 _
 obtain⟨G,hG⟩:∃ G,w1.heap.size=G:=⟨_,rfl⟩
 have hL2:Blk w2 G #[.int .i64 k,.int .i64 c,.int .i64 (rows:Int),.int .i64 (nulls:Int),.int .i64 ak,.int .i64 ai,.string az,.int .i64 bk,.int .i64 bi,.string bz,.slice an' nn cn',.slice ab' nd cb'] 34:=by rw[← hw2,← hG];exact Blk.new w1 _ _
 obtain⟨B,hBB⟩:∃ B,w.heap.size=B:=⟨_,rfl⟩
 have hG2:w.heap.size+1=G:=by rw[← hG,← hw1];simp
 have hK2:=hK1.below hb2
 rw[hBB] at hK2 hG2
 have HSB:=hide ((hsb.below hb1).below hb2)
 have HSL:=hide ((hsl.below hb1).below hb2)
 have HSB':=hide ((hsb'.below hb1).below hb2)
 have HSL':=hide ((hsl'.below hb1).below hb2)
 have HB2:=hide (bthen hb1 hb2)
 have HK2:=hide hK2
 have HL2:=hide hL2
 rw[← hw1] at hw2
 have HW2:=hide hw2
 have HBB:=hide hBB
 have HG2:=hide hG2
 have hz:=zeq_run (rows:Int) (nulls:Int) ak ai az bk bi bz (rows:Int) (nulls:Int) ak ai az bk bi bz
 rw[show Z.zsame (rows:Int) (nulls:Int) (rows:Int) (nulls:Int) ⟨ak,ai,az⟩ ⟨bk,bi,bz⟩ ⟨ak,ai,az⟩ ⟨bk,bi,bz⟩=true from zsame_iff.2 ⟨rfl,rfl,rfl,rfl⟩] at hz
 have a0:=hK2.cell (i:=0) rfl
 have a1:=hK2.cell (i:=1) rfl
 have a2:=hK2.cell (i:=2) rfl
 have a3:=hK2.cell (i:=3) rfl
 have a4:=hK2.cell (i:=4) rfl
 have a5:=hK2.cell (i:=5) rfl
 have a6:=hK2.cell (i:=6) rfl
 have a7:=hK2.cell (i:=7) rfl
 have a8:=hK2.cell (i:=8) rfl
 have a9:=hK2.cell (i:=9) rfl
 have a10:=hK2.cell (i:=10) rfl
 have b0:=hL2.cell (i:=0) rfl
 have b1:=hL2.cell (i:=1) rfl
 have b2:=hL2.cell (i:=2) rfl
 have b3:=hL2.cell (i:=3) rfl
 have b4:=hL2.cell (i:=4) rfl
 have b5:=hL2.cell (i:=5) rfl
 have b6:=hL2.cell (i:=6) rfl
 have b7:=hL2.cell (i:=7) rfl
 have b8:=hL2.cell (i:=8) rfl
 have b9:=hL2.cell (i:=9) rfl
 have b10:=hL2.cell (i:=10) rfl
 clear hw1 hw2 hb1 hb2 hK1 hL2 hK2 hsb hsl hsb' hsl' hG hBB hG2
 go_enter Tryz.func11,Tryz.ntmps11
 go_wp2_with (first
  | (guard_target =~ wpList _ _ _ ((⟨some 5,_,_,_,_,_⟩:Oper) :: _) _ _;rw[HW2.out,HBB.out,HG2.out])
  | fail)
 refine (bsame_yes an an' nn cn cn' ns w2 HSB.out HSB'.out (by omega)).mono ?_
 rintro e w3 ⟨rfl,hb3⟩
 have HB3:=hide (bthen HB2.out hb3)
 have hK3:=HK2.out.below hb3
 have hL3:=HL2.out.below hb3
 have e11:=hK3.cell (i:=11) rfl
 have f11:=hL3.cell (i:=11) rfl
 have t1:=str_of (HSL.out.below hb3)
 have t2:=str_of (HSL'.out.below hb3)
 obtain⟨X,hX⟩:∃ X,strOfNums (ints bd)=X:=⟨_,rfl⟩
 rw[hX] at t1 t2
 have hxx:(X.toList==X.toList)=true:=by simp
 clear a0 a1 a2 a3 a4 a5 a6 a7 a8 a9 a10 b0 b1 b2 b3 b4 b5 b6 b7 b8 b9 b10 hb3 hK3 hL3 HK2 HL2 HB2 HSB HSL HSB' HSL' hX hz HW2
 go_wp2
 go_ret
 exact⟨rfl,HB3.out⟩
end Go.Proofs.YtnkpgmibhpmdhaaGreat

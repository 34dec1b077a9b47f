/- Contracts and plain facts, one behind the other: MH OA OB -/
import Derived.Test.YtnkpgmibhpmdhaaGreatBeBO
namespace Go.Proofs.YtnkpgmibhpmdhaaGreat
set_option maxRecDepth 10000
set_option linter.unusedVariables false
open Go.RowKit Go.Sort
theorem bl_le {x:Z.V} (hi:Z.I64 x.i):(Z.bl x).length≤1034:=by
 cases hm:Z.may x with
 | true=>rw[bl_may hm];exact lb_le hi hm
 | false =>
  have:Z.bl x=[]:=by unfold Z.bl;rw[hm];rfl
  rw[this];simp
theorem own_block {w:World} {base g:Nat} {l:List Nat} (h:w.heap[g]?=some (.cells (B8 l).toArray 5 (0,0))) (hg:base≤g) (hl:l.length≤maxLen):w.ownsRow base 5 1 (.slice (some ⟨g,0,none⟩) l.length l.length) l.length (B8 l) :=
 ⟨by simp[B8],.inr ⟨g,l.length,(B8 l).toArray,rfl,hg,h,Nat.le_refl _,hl,by simp[B8],by rw[Nat.mul_one,List.take_of_length_le (by simp[B8])]⟩⟩
theorem Sl.four64 (w:World) (t:TypeId) (a b c d:Int):Sl (w.alloc (.cells #[.int .i64 a,.int .i64 b,.int .i64 c,.int .i64 d] t)) .i64 (some ⟨w.heap.size,0,none⟩) 4 4 [a,b,c,d]:=by
 refine⟨rfl,Nat.le_refl _,by decide,by simp,.inr ⟨_,_,rfl,by simp,?_⟩⟩
 intro i hi
 match i,hi with
 | 0,_=>simp
 | 1,_=>simp
 | 2,_=>simp
 | 3,_=>simp
theorem RowsAt.five (w:World) (t:TypeId) (a1 a2 a3 a4 a5:Option Addr) (n1 n2 n3 n4 n5 c1 c2 c3 c4 c5:Nat) (l1 l2 l3 l4 l5:List Nat) (h1:Sl w .u8 a1 n1 c1 (ints l1)) (h2:Sl w .u8 a2 n2 c2 (ints l2)) (h3:Sl w .u8 a3 n3 c3 (ints l3)) (h4:Sl w .u8 a4 n4 c4 (ints l4)) (h5:Sl w .u8 a5 n5 c5 (ints l5)) :
  RowsAt (w.alloc (.cells #[.slice a1 n1 c1,.slice a2 n2 c2,.slice a3 n3 c3,.slice a4 n4 c4,.slice a5 n5 c5] t)) w.heap.size [l1,l2,l3,l4,l5]:=by
 have hb:=below_one w (.cells #[.slice a1 n1 c1,.slice a2 n2 c2,.slice a3 n3 c3,.slice a4 n4 c4,.slice a5 n5 c5] t)
 obtain rfl:l1.length=n1:=by rw[← h1.1,ints_length]
 obtain rfl:l2.length=n2:=by rw[← h2.1,ints_length]
 obtain rfl:l3.length=n3:=by rw[← h3.1,ints_length]
 obtain rfl:l4.length=n4:=by rw[← h4.1,ints_length]
 obtain rfl:l5.length=n5:=by rw[← h5.1,ints_length]
 refine⟨by simp,fun j l hj=>?_⟩
 match j,hj with
 | 0,hj=>simp at hj;subst hj;exact⟨a1,c1,by simp,h1.below hb⟩
 | 1,hj=>simp at hj;subst hj;exact⟨a2,c2,by simp,h2.below hb⟩
 | 2,hj=>simp at hj;subst hj;exact⟨a3,c3,by simp,h3.below hb⟩
 | 3,hj=>simp at hj;subst hj;exact⟨a4,c4,by simp,h4.below hb⟩
 | 4,hj=>simp at hj;subst hj;exact⟨a5,c5,by simp,h5.below hb⟩
structure Z.SOk (s:Z.S):Prop where
 k:0≤s.k∧s.k<9223372036854775808
 c:0≤s.c∧s.c<9223372036854775808
 rows:s.rows<9223372036854775808
 nulls:s.nulls<9223372036854775808
 mn:Z.I64 s.mn.i
 mx:Z.I64 s.mx.i
 ns:s.ns.length≤1048576
 bd:s.bd.length≤1000000000
 lt:∀ x∈Z.sB s,x<256
def segTbl (B:Nat) (an:Option Addr) (nn cn:Nat) (m:Nat) (nb:List Nat) (ab:Option Addr) (nd cb:Nat) (qa:Option Addr) (qn qc:Nat) (ra:Option Addr) (rn rc:Nat) (sa:Option Addr) (sn sc:Nat):List (Nat × V.Ent) :=
 [(7,V.Ent.is (.slice qa qn qc)),
  (1,V.Ent.is (.pointer (some ⟨B,0,none⟩))),
  (3,V.Ent.is (.slice ra rn rc)),
  (5,V.Ent.is (.slice sa sn sc)),
  (34,V.Ent.is (.slice qa qn qc)),
  (35,V.Ent.is (.pointer (some ⟨B,10,none⟩))),
  (36,V.Ent.is (.slice an nn cn)),
  (37,V.Ent.sl m nb),
  (38,V.Ent.is (.slice ra rn rc)),
  (39,V.Ent.is (.slice sa sn sc)),
  (40,V.Ent.is (.pointer (some ⟨B,11,none⟩))),
  (41,V.Ent.is (.slice ab nd cb))]
set_option maxHeartbeats 2000000 in
theorem sbytes_row (s:Z.S) (v:Value) (w:World) (h:SegAt w v s) (hs:Z.SOk s) :
  Calls Tryz.prog 15 #[v] w fun e w'=>∃ g,e=.returned (.slice (some ⟨g,0,none⟩) (K.block (Z.sB s)).length (K.block (Z.sB s)).length)∧w'.heap[g]?=some (.cells (B8 (K.block (Z.sB s))).toArray 5 (0,0))∧w.heap.size≤g∧Below w.heap.size w w':=by
 obtain⟨an,cn,ab,cb,rfl,hsb,hsl⟩:=h
 obtain⟨ok,oc,orr,onu,omn,omx,ons,obd,olt⟩:=hs
 obtain⟨k,c,rows,nulls,⟨ak,ai,az⟩,⟨bk,bi,bz⟩,ns,bd⟩:=s
 simp only at hsb hsl ok oc orr onu omn omx ons obd
 unfold segC
 simp only
 obtain⟨nn,hnn⟩:∃ nn,ns.length=nn:=⟨_,rfl⟩
 obtain⟨nd,hnd⟩:∃ nd,bd.length=nd:=⟨_,rfl⟩
 rw[hnn] at hsb ons ⊢
 rw[hnd] at hsl obd ⊢
 have hb1:=below_one w (.cells #[.int .i64 k,.int .i64 c,.int .i64 (rows:Int),.int .i64 (nulls:Int),.int .i64 ak,.int .i64 ai,.string az,.int .i64 bk,.int .i64 bi,.string bz,.slice an nn cn,.slice ab nd cb] 30)
 have hB:=Blk.new w #[.int .i64 k,.int .i64 c,.int .i64 (rows:Int),.int .i64 (nulls:Int),.int .i64 ak,.int .i64 ai,.string az,.int .i64 bk,.int .i64 bi,.string bz,.slice an nn cn,.slice ab nd cb] 30
 obtain⟨w1,hw1⟩:∃ w1,w.alloc (.cells #[.int .i64 k,.int .i64 c,.int .i64 (rows:Int),.int .i64 (nulls:Int),.int .i64 ak,.int .i64 ai,.string az,.int .i64 bk,.int .i64 bi,.string bz,.slice an nn cn,.slice ab nd cb] 30)=w1:=⟨_,rfl⟩
 rw[hw1] at hb1 hB
 have HW1:=hide hw1
 have HSB:=hide (hsb.below hb1)
 have HSL:=hide (hsl.below hb1)
 have HB1:=hide hb1
 have HB:=hide hB
 have HNN:=hide hnn
 have HND:=hide hnd
 have HLT:=hide olt
 have OMN:=hide omn
 have OMX:=hide omx
 clear hw1 hb1 hB hsb hsl hnn hnd olt omn omx
 obtain⟨ok0,ok1⟩:=ok
 obtain⟨oc0,oc1⟩:=oc
 go_enter Tryz.func15,Tryz.ntmps15
 go_wp2_with fail
 rw[HW1.out]
 refine (vbytes_any ak ai az w1 OMN.out).mono ?_
 rintro e w2 ⟨ra,rc,rfl,hs2,hb2⟩
 obtain⟨rn,hrn⟩:∃ rn,(Z.bl ⟨ak,ai,az⟩).length=rn:=⟨_,rfl⟩
 obtain⟨be1,hbe1⟩:∃ b,Z.be ⟨ak,ai,az⟩=b:=⟨_,rfl⟩
 have hrn2:rn≤1034:=by rw[← hrn];exact bl_le OMN.out
 rw[hrn] at hs2 ⊢
 rw[hbe1]
 have HR2:=hide hs2
 have HSB2:=hide (HSB.out.below hb2)
 have HSL2:=hide (HSL.out.below hb2)
 have HB2:=hide (bthen HB1.out hb2)
 have hB2:=HB.out.below hb2
 have HBB2:=hide hB2
 have d7:=hB2.cell (i:=7) rfl
 have d8:=hB2.cell (i:=8) rfl
 have d9:=hB2.cell (i:=9) rfl
 clear hs2 hb2 hrn hbe1 hB2 HSB HSL HB1 HB HW1
 go_wp2_with fail
 refine (vbytes_any bk bi bz w2 OMX.out).mono ?_
 rintro e w3 ⟨sa,sc,rfl,hs3,hb3⟩
 obtain⟨sn,hsn⟩:∃ sn,(Z.bl ⟨bk,bi,bz⟩).length=sn:=⟨_,rfl⟩
 obtain⟨be2,hbe2⟩:∃ b,Z.be ⟨bk,bi,bz⟩=b:=⟨_,rfl⟩
 have hsn2:sn≤1034:=by rw[← hsn];exact bl_le OMX.out
 rw[hsn] at hs3 ⊢
 rw[hbe2]
 have HS3:=hide hs3
 have HR3:=hide (HR2.out.below hb3)
 have HSB3:=hide (HSB2.out.below hb3)
 have HSL3:=hide (HSL2.out.below hb3)
 have HB3:=hide (bthen HB2.out hb3)
 have hB3:=HBB2.out.below hb3
 have HBB3:=hide hB3
 have d0:=hB3.cell (i:=0) rfl
 have d1:=hB3.cell (i:=1) rfl
 have d2:=hB3.cell (i:=2) rfl
 have d3:=hB3.cell (i:=3) rfl
 have b4:=below_one w3 (.cells #[.int .i64 k,.int .i64 c,.int .i64 (rows:Int),.int .i64 (nulls:Int)] 3)
 have HNB:=hide (numbers_any _ 4 4 [k,c,(rows:Int),(nulls:Int)] _ (Sl.four64 w3 3 k c (rows:Int) (nulls:Int)) (by
  intro x hx
  simp at hx
  rcases hx with rfl|rfl|rfl|rfl<;>omega) (by omega))
 have HB4:=hide b4
 clear hs3 hb3 hsn hbe2 hB3 b4 d7 d8 d9 HR2 HSB2 HSL2 HB2 HBB2
 go_wp2_with fail
 refine HNB.out.mono ?_
 rintro e w5 ⟨v5,rfl,ho5,hb5⟩
 have hb5:=bthen HB4.out hb5
 have hnl:=nb_len [k,c,(rows:Int),(nulls:Int)] (by
  intro x hx
  simp at hx
  rcases hx with rfl|rfl|rfl|rfl<;>omega)
 obtain⟨qn,hqn⟩:∃ qn,(Z.nb [k,c,(rows:Int),(nulls:Int)]).length=qn:=⟨_,rfl⟩
 obtain⟨qa,qc,rfl,hs5⟩:=Sl.of_own ho5 hqn
 have hqn2:qn≤40:=by rw[← hqn];exact hnl
 have HQ5:=hide hs5
 have HS5:=hide (HS3.out.below hb5)
 have HR5:=hide (HR3.out.below hb5)
 have HSB5:=hide (HSB3.out.below hb5)
 have HSL5:=hide (HSL3.out.below hb5)
 have HB5:=hide (bthen HB3.out hb5)
 have hB5:=HBB3.out.below hb5
 have hBl:=hB5.lt
 have c10:=hB5.cell (i:=10) rfl
 have c11:=hB5.cell (i:=11) rfl
 obtain⟨B,hBB⟩:∃ B,w.heap.size=B:=⟨_,rfl⟩
 obtain⟨nb,hnb⟩:∃ nb,A.bytesOf ns=nb:=⟨_,rfl⟩
 obtain⟨m,hm⟩:∃ m,nb.length=m:=⟨_,rfl⟩
 have hm2:m≤1048576:=by rw[← hm,← hnb,A.bytesOf_length,HNN.out];omega
 have HZB:Hid (∀ w1,Below w5.heap.size w5 w1→Calls Tryz.prog 34 #[.slice an nn cn] w1 fun e w9=>∃ a9 c9,e=.returned (.slice a9 m c9)∧Sl w9 .u8 a9 m c9 (ints nb)∧Below w1.heap.size w1 w9):=fun w1 hw1=>by
  refine (zbytes_any an nn cn ns w1 (HSB5.out.below hw1) ons).mono ?_
  rintro e w9 ⟨v9,rfl,ho9,hb9⟩
  rw[hnb] at ho9
  obtain⟨a9,c9,rfl,hs9⟩:=Sl.of_own ho9 hm
  exact⟨a9,c9,rfl,hs9,hb9⟩
 have HTXT:Hid ([Z.nb [k,c,(rows:Int),(nulls:Int)],nb,Z.bl ⟨ak,ai,az⟩,Z.bl ⟨bk,bi,bz⟩,bd].flatten=Z.sB ⟨k,c,rows,nulls,⟨ak,ai,az⟩,⟨bk,bi,bz⟩,ns,bd⟩):=by
  show _=_
  unfold Z.sB
  rw[← hnb]
  simp[Z.nb]
 have HLN:Hid ((Z.sB ⟨k,c,rows,nulls,⟨ak,ai,az⟩,⟨bk,bi,bz⟩,ns,bd⟩).length≤1001100000):=by
  show _≤_
  rw[← HTXT.out]
  have:=HS5.out.1
  have h2:=HR5.out.1
  rw[ints_length] at this h2
  simp only[List.flatten_cons,List.flatten_nil,List.length_append,hqn,hm,this,h2,HND.out,List.length_nil]
  omega
 have HBW:=hide hBB
 rw[hBB] at hBl c10 c11
 have HB5':=hide (show Below B w w5 by rw[← hBB];exact HB5.out)
 clear ho5 hs5 hb5 hnl hqn d0 d1 d2 d3 hB5 hnb hm HS3 HR3 HSB3 HSL3 HB3 HBB3 HNB HB4
 go_wp2_with fail
 clear hBB
 refine V.wp_region_tail (w0:=w5) 8 [34,35,36,37,38,39,40,41] [7,1,3,5] (segTbl B an nn cn m nb ab nd cb qa qn qc ra rn rc sa sn sc) (by decide) rfl Tryz.mixed (by kernel_rfl) (by kernel_rfl) (Below.refl _ _) ?hb ?hs ?hd
 case hb =>
  intro d hd
  simp only[List.mem_cons,List.not_mem_nil,or_false] at hd
  rcases hd with rfl|rfl|rfl|rfl<;>rfl
 case hs =>
  refine⟨?_,?_,?_,?_,?_,?_,?_,?_,trivial⟩
  ·exact V.Step.move (.inl rfl) (.inl rfl) (.inl ⟨_,rfl⟩) (fun _ h=>by cases h;rfl)
  ·exact V.Step.fieldG (p:=.pointer (some ⟨B,0,none⟩)) (q:=.pointer (some ⟨B,10,none⟩)) (.inl rfl) rfl rfl (fun w=>by simp[go_sem]) (fun _ h=>by cases h;rfl)
  ·exact V.Step.ldS (.inl rfl) rfl rfl (V.isAgg_of Tryz.underlying28 rfl) ⟨_,_,_,rfl⟩ hBl c10 (fun _ h=>by cases h;rfl)
  ·exact V.Step.call1 (.inl rfl) rfl rfl Tryz.func34 (by decide +kernel) rfl (fun w1 hw1=>(HZB.out w1 hw1).mono (by rintro e w9 ⟨a9,c9,rfl,hs9,hb9⟩;exact⟨_,rfl,hb9,fun d h=>by cases h;exact⟨a9,c9,rfl,hs9⟩⟩))
  ·exact V.Step.move (.inl rfl) (.inl rfl) (.inl ⟨_,rfl⟩) (fun _ h=>by cases h;rfl)
  ·exact V.Step.move (.inl rfl) (.inl rfl) (.inl ⟨_,rfl⟩) (fun _ h=>by cases h;rfl)
  ·exact V.Step.fieldG (p:=.pointer (some ⟨B,0,none⟩)) (q:=.pointer (some ⟨B,11,none⟩)) (.inl rfl) rfl rfl (fun w=>by simp[go_sem]) (fun _ h=>by cases h;rfl)
  ·exact V.Step.ldS (.inl rfl) rfl rfl (V.isAgg_of Tryz.underlying22 rfl) ⟨_,_,_,rfl⟩ hBl c11 (fun _ h=>by cases h;rfl)
 case hd =>
 intro vs wa hwa hkk
 have v34:=hkk 0 _ 34 rfl rfl
 have v34:vs 34=.slice qa qn qc:=v34
 have v35:=hkk 1 _ 35 rfl rfl
 have v35:vs 35=.pointer (some ⟨B,10,none⟩):=v35
 have v36:=hkk 2 _ 36 rfl rfl
 have v36:vs 36=.slice an nn cn:=v36
 have v38:=hkk 4 _ 38 rfl rfl
 have v38:vs 38=.slice ra rn rc:=v38
 have v39:=hkk 5 _ 39 rfl rfl
 have v39:vs 39=.slice sa sn sc:=v39
 have v40:=hkk 6 _ 40 rfl rfl
 have v40:vs 40=.pointer (some ⟨B,11,none⟩):=v40
 have v41:=hkk 7 _ 41 rfl rfl
 have v41:vs 41=.slice ab nd cb:=v41
 obtain⟨ea,ec,v37,s37⟩:=hkk 3 _ 37 rfl rfl
 simp only[V.puts,List.foldl_cons,List.foldl_nil,v34,v35,v36,v38,v39,v40,v41,v37,Act.put,List.setIfInBounds_toArray,List.set_cons_zero,List.set_cons_succ]
 have hcc:=concat_rows wa.heap.size 5 [Z.nb [k,c,(rows:Int),(nulls:Int)],nb,Z.bl ⟨ak,ai,az⟩,Z.bl ⟨bk,bi,bz⟩,bd] rfl (by omega) _ (RowsAt.five wa 22 qa ea ra sa ab qn m rn sn nd qc ec rc sc cb _ _ _ _ _ (HQ5.out.below hwa) s37 (HR5.out.below hwa) (HS5.out.below hwa) (HSL5.out.below hwa)) (by rw[HTXT.out];have:=HLN.out;omega)
 rw[HTXT.out] at hcc
 have HCC:=hide hcc
 have HBA:=hide (HB5'.out.trans (hwa.mono (by have:=HB5'.out.size;omega)))
 have HBW1:=hide (below_one wa (.cells #[.slice qa qn qc,.slice ea m ec,.slice ra rn rc,.slice sa sn sc,.slice ab nd cb] 22))
 clear hkk hwa s37 v37 hcc v34 v35 v36 v38 v39 v40 v41
 simp only[List.drop]
 go_wp2_with fail
 refine HCC.out.mono ?_
 rintro e wc ⟨vc,rfl,hoc,hbc⟩
 obtain⟨tl,htl⟩:∃ tl,(Z.sB ⟨k,c,rows,nulls,⟨ak,ai,az⟩,⟨bk,bi,bz⟩,ns,bd⟩).length=tl:=⟨_,rfl⟩
 obtain⟨ta,tc,rfl,hst⟩:=Sl.of_own hoc htl
 have htl2:tl≤1001100000:=by rw[← htl];exact HLN.out
 have hbc:=bthen HBW1.out hbc
 have HBC:Hid (Below B w wc):=HBA.out.trans (hbc.mono (by have:=HBA.out.size;have:=HBW.out;omega))
 have HBL:=hide (block_any ta tl tc _ wc hst (by omega) HLT.out)
 clear hoc hbc hst htl HCC
 go_wp2_with fail
 refine HBL.out.mono ?_
 rintro e wd ⟨g,rfl,hcd,hgd,hbd⟩
 have hkl:=K.block_length (Z.sB ⟨k,c,rows,nulls,⟨ak,ai,az⟩,⟨bk,bi,bz⟩,ns,bd⟩)
 obtain⟨bl,hbl⟩:∃ bl,(K.block (Z.sB ⟨k,c,rows,nulls,⟨ak,ai,az⟩,⟨bk,bi,bz⟩,ns,bd⟩)).length=bl:=⟨_,rfl⟩
 rw[hbl]
 have HF:Hid (∃ g',Ending.returned (.slice (some ⟨g,0,none⟩) bl bl)=.returned (.slice (some ⟨g',0,none⟩) (K.block (Z.sB ⟨k,c,rows,nulls,⟨ak,ai,az⟩,⟨bk,bi,bz⟩,ns,bd⟩)).length (K.block (Z.sB ⟨k,c,rows,nulls,⟨ak,ai,az⟩,⟨bk,bi,bz⟩,ns,bd⟩)).length)∧wd.heap[g']?=some (.cells (B8 (K.block (Z.sB ⟨k,c,rows,nulls,⟨ak,ai,az⟩,⟨bk,bi,bz⟩,ns,bd⟩))).toArray 5 (0,0))∧w.heap.size≤g'∧Below w.heap.size w wd):=by
  have h1:=HBC.out
  rw[← HBW.out] at h1
  rw[hbl]
  exact⟨g,rfl,hcd,by have:=h1.size;omega,h1.trans (hbd.mono h1.size)⟩
 clear hbd HBL hcd hkl hbl
 go_wp2
 go_ret
 rw[← HBW.out] at *
 exact HF.out
theorem sB_len (s:Z.S) (h:Z.SOk s):(Z.sB s).length≤1001100000:=by
 obtain⟨ok,oc,orr,onu,omn,omx,ons,obd,_⟩:=h
 have a1:=E.leb_ten s.k.toNat (by omega)
 have a2:=E.leb_ten s.c.toNat (by omega)
 have a3:=E.leb_ten s.rows (by omega)
 have a4:=E.leb_ten s.nulls (by omega)
 have a5:(A.bytesOf s.ns).length≤131073:=by rw[A.bytesOf_length];omega
 have a6:=bl_le omn
 have a7:=bl_le omx
 unfold Z.sB
 simp only[List.length_append]
 omega
theorem sbytes_any (s:Z.S) (v:Value) (w:World) (h:SegAt w v s) (hs:Z.SOk s) :
  Calls Tryz.prog 15 #[v] w fun e w'=>∃ v',e=.returned v'∧w'.ownsRow w.heap.size 5 1 v' (K.block (Z.sB s)).length (B8 (K.block (Z.sB s)))∧Below w.heap.size w w':=by
 have hm:(K.block (Z.sB s)).length≤maxLen:=by
  have h1:=K.block_length (Z.sB s)
  have h2:=sB_len s hs
  have:=E.leb_ten (Z.sB s).length (by omega)
  unfold maxLen
  omega
 refine (sbytes_row s v w h hs).mono ?_
 rintro e w' ⟨g,rfl,hc,hg,hb⟩
 exact⟨_,rfl,own_block (base:=w.heap.size) hc hg hm,hb⟩
end Go.Proofs.YtnkpgmibhpmdhaaGreat
namespace Go.Proofs.YtnkpgmibhpmdhaaGreat
set_option maxRecDepth 10000
set_option linter.unusedVariables false
open Go.RowKit
def GFewAns (len:Nat) (w:World) (e:Ending) (w':World):Prop:=∃ q,e=.returned (.bool q)∧(q=true→len≤1000)∧w'=w
theorem GFewAns.mk {len:Nat} {w:World} {v:Value} (q:Bool) (h0:v=.bool q) (h:q=true→len≤1000):GFewAns len w (.returned v) w:=⟨q,by rw[h0],h,rfl⟩
theorem gfew_some (b off len cap:Nat) (l:List Z.V) (w:World) (hl:l.length=len) (hm:len≤140737488355328) (hlt:b<w.heap.size)
  (hc:∀ j x,l[j]?=some x→w.cell? ⟨b,off+j*3,none⟩=some (.int .i64 x.k)∧w.cell? ⟨b,off+j*3+1,none⟩=some (.int .i64 x.i)∧w.cell? ⟨b,off+j*3+2,none⟩=some (.string x.s)) :
  Calls Tryz.prog 13 #[.slice (some ⟨b,off,none⟩) len cap] w (GFewAns len w):=by
 have HC:=hide hc
 have HL:=hide hl
 clear hc hl
 go_enter Tryz.func13,Tryz.ntmps13
 go_wp2_with fail
 go_loopw [3,4] (fun n i wr=>∃ (j:Nat) (x:Int),j≤len∧i=.int .i64 j∧n=.int .i64 x∧wr=w) (fun _ i _=>len - (intOf i).toNat)
 case atStart=>exact⟨0,0,Nat.zero_le _,rfl,rfl,rfl⟩
 case round =>
  obtain⟨j,x,hj,rfl,rfl,rfl⟩:=hrel
  by_cases hx:x≤100000
  ·have hxd:decide (x≤100000)=true:=by simpa using hx
   by_cases hjl:j<len
   ·obtain⟨⟨xk,xi,xs⟩,hx⟩:∃ x,l[j]?=some x:=⟨l[j]'(by rw[HL.out];exact hjl),List.getElem?_eq_getElem _⟩
    obtain⟨c1,c2,c3⟩:=HC.out j _ hx
    clear hx
    go_wp2
    go_roundw
    case rel=>exact⟨j+1,_,hjl,by go_num,rfl,trivial⟩
    case measure=>simp[intOf];omega
   ·obtain rfl:j=len:=by omega
    by_cases h1:j≤1000
    ·go_wp2
     go_ret
     exact GFewAns.mk _ rfl fun _=>h1
    ·go_wp2
     go_ret
     exact GFewAns.mk _ rfl fun h=>by simp at h
  ·have hxd:decide (x≤100000)=false:=by simpa using hx
   by_cases h1:len≤1000
   ·by_cases hjl:j<len
    ·go_wp2
     go_ret
     exact GFewAns.mk _ rfl fun _=>h1
    ·go_wp2
     go_ret
     exact GFewAns.mk _ rfl fun _=>h1
   ·by_cases hjl:j<len
    ·go_wp2
     go_ret
     exact GFewAns.mk _ rfl fun h=>by simp at h
    ·go_wp2
     go_ret
     exact GFewAns.mk _ rfl fun h=>by simp at h
theorem gfew_none (ao:Option Addr) (cap:Nat) (w:World) :
  Calls Tryz.prog 13 #[.slice ao 0 cap] w (GFewAns 0 w):=by
 go_enter Tryz.func13,Tryz.ntmps13
 go_wp2_with fail
 go_rounds 1
 go_ret
 exact GFewAns.mk _ rfl fun _=>by omega
theorem gfew_any (ao:Option Addr) (len cap:Nat) (l:List Z.V) (w:World) (h:SlV w ao len cap l) (hm:len≤140737488355328) :
  Calls Tryz.prog 13 #[.slice ao len cap] w (GFewAns len w):=by
 rcases h.2.2.2.2 with h5|⟨b,off,rfl,hlt,h5⟩
 ·subst h5
  exact gfew_none ao cap w
 ·exact gfew_some b off len cap l w h.1 hm hlt h5
theorem made_sok {l:List Z.V} {kind codec:Int} (hwf:∀ x∈l,Z.Wf x) (h:Z.Made l kind codec):Z.SOk (Z.mS l kind codec):=by
 have hk:=(chk_zero h.chk).1
 have hc:=cc_few h
 have hlm:=h.most
 have hcn:=cntT_oth l
 have ho:∀ x∈oth l,Z.Wf x:=fun x hx=>hwf x (List.mem_filter.1 hx).1
 have he:Z.I64 (Z.lo (oth l)).i∧Z.I64 (Z.hi (oth l)).i:=by
  cases hq:oth l with
  | nil=>exact⟨⟨by decide,by decide⟩,⟨by decide,by decide⟩⟩
  | cons x t =>
   rw[hq] at ho
   exact⟨(ho _ (lo_all t x).1).2.1,(ho _ (hi_all t x).1).2.1⟩
 have hbl:=body_len (l:=oth l) (kind:=kind) (codec:=Z.cc l kind codec) ho
 refine⟨?_,?_,?_,?_,he.1,he.2,?_,?_,seg_lt hwf⟩
 ·show 0≤kind∧kind<9223372036854775808;omega
 ·show 0≤Z.cc l kind codec∧Z.cc l kind codec<9223372036854775808;omega
 ·show l.length<9223372036854775808;omega
 ·show cntT (nus l)<9223372036854775808;omega
 ·show (if cntT (nus l)=0 then [] else nus l).length≤1048576
  split
  ·simp
  ·rw[nus_length];omega
 ·show (Z.bd (oth l) kind (Z.cc l kind codec)).length≤1000000000
  omega
theorem rS_made {l:List Z.V} {kind codec:Int} (hwf:∀ x∈l,Z.Wf x) (h:Z.Made l kind codec):Z.rS (Z.sB (Z.mS l kind codec))=Z.mS l kind codec:=(parts_made hwf h).2.2.2.2.2.2
def exG:List Z.V:=[⟨1,5,⟨#[]⟩⟩,⟨1,5,⟨#[]⟩⟩,⟨1,5,⟨#[]⟩⟩,⟨1,5,⟨#[]⟩⟩]
theorem exG_wf:∀ x∈exG,Z.Wf x:=by
 intro x hx
 simp only[exG,List.mem_cons,List.not_mem_nil,or_false] at hx
 obtain rfl:x=⟨1,5,⟨#[]⟩⟩:=by rcases hx with h|h|h|h<;>exact h
 exact⟨⟨by decide,by decide⟩,⟨by decide,by decide⟩,by decide⟩
theorem exG_oth:oth exG=exG:=rfl
theorem exG_chk:Z.chk exG 1=0:=by decide
theorem exG_1:(Z.bd exG 1 1).length=4:=by decide
theorem exG_runs:Z.runs exG=[⟨((4:Nat):Int),⟨1,5,⟨#[]⟩⟩⟩]:=runs_rep (l:=[]) (x:=⟨1,5,⟨#[]⟩⟩) (n:=4) rfl (by omega)
theorem exG_2:(Z.bd exG 1 2).length=2:=by
 rw[bd_two]
 unfold Z.rcb
 rw[if_pos exG_chk,exG_runs]
 decide
theorem exG_3:2≤(Z.bd exG 1 3).length:=by decide
theorem exG_4:2≤(Z.bd exG 1 4).length:=by
 rw[bd_four]
 unfold Z.decb
 rw[if_pos exG_chk]
 unfold exG Z.deb
 rw[List.length_append,List.length_append]
 have h1:=E.leb_pos (E.zig (⟨1,5,⟨#[]⟩⟩:Z.V).i)
 have h2:=E.leb_pos (wid (ints (Z.dst [⟨1,5,⟨#[]⟩⟩,⟨1,5,⟨#[]⟩⟩,⟨1,5,⟨#[]⟩⟩,⟨1,5,⟨#[]⟩⟩])))
 omega
theorem exG_bst:Z.bst exG 1 4=2:=by
 have e1:Z.bE exG 1 ((1:Nat):Int)=0:=by unfold Z.bE;rw[if_pos (.inl rfl)];exact exG_chk
 have e2:Z.bE exG 1 ((2:Nat):Int)=0:=by unfold Z.bE;rw[if_pos (.inr (.inl rfl))];exact exG_chk
 have b1:Z.bst exG 1 1=1:=by rw[Z.bst,if_pos];exact⟨e1,.inl rfl⟩
 have b2:Z.bst exG 1 2=2:=by
  rw[Z.bst,if_pos]
  refine⟨e2,.inr ?_⟩
  rw[b1]
  have h1:=exG_1
  have h2:=exG_2
  show (Z.bd exG 1 2).length<(Z.bd exG 1 1).length
  omega
 have b3:Z.bst exG 1 3=2:=by
  rw[Z.bst,if_neg,b2]
  rintro⟨_,h|h⟩
  ·rw[b2] at h;omega
  ·rw[b2] at h
   have h2:=exG_2
   have h3:=exG_3
   have h4:(Z.bd exG 1 3).length<(Z.bd exG 1 2).length:=h
   omega
 rw[Z.bst,if_neg,b3]
 rintro⟨_,h|h⟩
 ·rw[b3] at h;omega
 ·rw[b3] at h
  have h2:=exG_2
  have h3:=exG_4
  have h4:(Z.bd exG 1 4).length<(Z.bd exG 1 2).length:=h
  omega
theorem exG_cc:Z.cc exG 1 0=2:=by unfold Z.cc;rw[if_pos rfl,exG_oth,exG_bst];rfl
theorem exG_made:Z.mE exG 1 0=0:=by
 unfold Z.mE
 rw[exG_oth,exG_chk,if_neg (by decide),if_neg (by decide),exG_cc]
 unfold Z.bE
 rw[if_pos (.inr (.inl rfl))]
 exact exG_chk
theorem exG_parts:(Z.mS exG 1 0).c=2∧(Z.mS exG 1 0).rows=4∧(Z.mS exG 1 0).bd.length=2:=by
 unfold Z.mS
 refine⟨exG_cc,rfl,?_⟩
 show (Z.bd (oth exG) 1 (Z.cc exG 1 0)).length=2
 rw[exG_oth,exG_cc]
 exact exG_2
theorem slV_four (w:World) (x y z u:Z.V):SlV (w.alloc (.cells #[.int .i64 x.k,.int .i64 x.i,.string x.s,.int .i64 y.k,.int .i64 y.i,.string y.s,.int .i64 z.k,.int .i64 z.i,.string z.s,.int .i64 u.k,.int .i64 u.i,.string u.s] 25)) (some ⟨w.heap.size,0,none⟩) 4 4 [x,y,z,u]:=by
 refine⟨rfl,Nat.le_refl _,by decide,by simp,.inr ⟨w.heap.size,0,rfl,by simp,fun j u' hu=>?_⟩⟩
 match j,hu with
 | 0,hu=>simp at hu;subst hu;simp
 | 1,hu=>simp at hu;subst hu;simp
 | 2,hu=>simp at hu;subst hu;simp
 | 3,hu=>simp at hu;subst hu;simp
theorem sl_nine (w:World):Sl (w.alloc (.cells #[.int .u8 9] 5)) .u8 (some ⟨w.heap.size,0,none⟩) 1 1 (ints [9]):=by
 refine⟨rfl,Nat.le_refl _,by decide,by simp,.inr ⟨w.heap.size,0,rfl,by simp,fun i hi=>?_⟩⟩
 match i,hi with
 | 0,_=>simp[ints]
set_option maxHeartbeats 4000000 in
theorem gshown_any (w:World):Calls Tryz.prog 7 #[] w fun e w'=>e=.returned (.bool true)∧Below w.heap.size w w':=by
 obtain⟨w1,hw1⟩:∃ w1,w.alloc (.cells #[.int .i64 1,.int .i64 5,.string ⟨#[]⟩] 25)=w1:=⟨_,rfl⟩
 have hb1:Below w.heap.size w w1:=by rw[← hw1];exact below_one w _
 obtain⟨w2,hw2⟩:∃ w2,w1.alloc (.cells #[.int .i64 1,.int .i64 5,.string ⟨#[]⟩,.int .i64 1,.int .i64 5,.string ⟨#[]⟩,.int .i64 1,.int .i64 5,.string ⟨#[]⟩,.int .i64 1,.int .i64 5,.string ⟨#[]⟩] 25)=w2:=⟨_,rfl⟩
 have hb2:Below w1.heap.size w1 w2:=by rw[← hw2];exact below_one w1 _
 have hs1:w1.heap.size=w.heap.size+1:=by rw[← hw1];simp
 have hsl:SlV w2 (some ⟨w.heap.size+1,0,none⟩) 4 4 exG:=by rw[← hw2,← hs1];exact slV_four w1 ⟨1,5,⟨#[]⟩⟩ ⟨1,5,⟨#[]⟩⟩ ⟨1,5,⟨#[]⟩⟩ ⟨1,5,⟨#[]⟩⟩
 have HMK:=hide (smake_any _ 4 4 exG 1 0 w2 hsl (fun x hx=>(exG_wf x hx).2.1) (by omega) ⟨by decide,by decide⟩)
 have HB2:=hide (bthen hb1 hb2)
 rw[← hw1] at hw2
 have HW2:=hide hw2
 clear hw1 hb1 hw2 hb2 hs1 hsl
 go_enter Tryz.func7,Tryz.ntmps7
 go_wp2_with fail
 rw[HW2.out]
 refine HMK.out.mono ?_
 rintro e w3 ⟨hb3,hmk⟩
 have HB3:=hide (bthen HB2.out hb3)
 rcases hmk with ⟨_,v,rfl,hv⟩|⟨hno,_⟩
 ·obtain⟨S,hS⟩:∃ S,Z.mS exG 1 0=S:=⟨_,rfl⟩
  have hp:=exG_parts
  have hsok:=made_sok exG_wf (made_of exG_made)
  have hsz:=seg_size exG_wf (made_of exG_made) (by decide)
  have hof:=of_made_block exG_wf exG_made (by have:=hsz.2;omega) [9]
  have hrs:=rS_made exG_wf (made_of exG_made)
  have hlt:=seg_lt (l:=exG) (kind:=1) (codec:=0) exG_wf
  rw[hS] at hv hp hsok hsz hof hrs hlt
  obtain⟨B,hB⟩:∃ B,Z.sB S=B:=⟨_,rfl⟩
  rw[hB] at hsz hof hrs hlt
  have hkl:(K.block B).length≤1048600:=by
   unfold K.block
   rw[List.length_append,List.length_append,K.le4_length]
   have:=E.leb_ten B.length (by have:=hsz.2;omega)
   have:=hsz.2
   omega
  have hk256:∀ x∈K.block B++[9],x<256:=by
   intro x hx
   rcases List.mem_append.1 hx with hx|hx
   ·exact K.block_lt B hlt x hx
   ·simp at hx;omega
  obtain⟨X,hX⟩:∃ X,K.block B++[9]=X:=⟨_,rfl⟩
  rw[hX] at hof hk256
  have hXl:X.length≤1048601:=by rw[← hX,List.length_append];simp;omega
  have HOF:=hide hof
  have HRS:=hide hrs
  have HX:=hide hX
  have HK256:=hide hk256
  have HXL:=hide hXl
  have HBX:=hide hB
  have HKL:=hide hkl
  have HSOK:=hide hsok
  have HV:=hide hv
  obtain⟨an,cn,ab,cb,rfl,hsb,hsl⟩:=hv
  obtain⟨k,c,r,n,⟨k1,i1,s1⟩,⟨k2,i2,s2⟩,ns,bd⟩:=S
  simp only at hp
  obtain⟨hp1,hp2,hp3⟩:=hp
  obtain⟨nd,hbd⟩:∃ x,bd.length=x:=⟨_,rfl⟩
  rw[hbd] at hp3
  have HP:=hide (And.intro hp1 (And.intro hp2 hp3))
  unfold segC at HV ⊢
  simp only at HV ⊢
  rw[hbd] at HV ⊢
  obtain⟨ln,hln⟩:∃ x,ns.length=x:=⟨_,rfl⟩
  rw[hln] at HV ⊢
  obtain⟨w4,hw4⟩:∃ w4,w3.alloc (.cells #[.int .i64 k,.int .i64 c,.int .i64 (r:Int),.int .i64 (n:Int),.int .i64 k1,.int .i64 i1,.string s1,.int .i64 k2,.int .i64 i2,.string s2,.slice an ln cn,.slice ab nd cb] 30)=w4:=⟨_,rfl⟩
  have hb4:Below w3.heap.size w3 w4:=by rw[← hw4];exact below_one w3 _
  obtain⟨G,hG⟩:∃ G,w3.heap.size=G:=⟨_,rfl⟩
  have hA4:Blk w4 G #[.int .i64 k,.int .i64 c,.int .i64 (r:Int),.int .i64 (n:Int),.int .i64 k1,.int .i64 i1,.string s1,.int .i64 k2,.int .i64 i2,.string s2,.slice an ln cn,.slice ab nd cb] 30:=by rw[← hw4,← hG];exact Blk.new w3 _ _
  have HA4:=hide hA4
  have HB4:=hide (bthen HB3.out hb4)
  have HBY:=hide (sbytes_any _ _ w4 (HV.out.below hb4) HSOK.out)
  have HW4:=hide hw4
  clear hp1 hp2 hp3 hbd hln hsb hsl hsok hsz hof hrs hlt hB hk256 hX hXl hkl hw4 hb4 hA4 hS hb3 HMK HV
  go_wp2_with fail
  rw[HW4.out]
  refine HBY.out.mono ?_
  rintro e w5 ⟨v5,rfl,ho5,hb5⟩
  rw[HBX.out] at ho5
  have HB5:=hide (bthen HB4.out hb5)
  have HA5:=hide (HA4.out.below hb5)
  have HR6:=hide (World.ownsRow.alloc ho5 (.cells #[.int .u8 9] 5))
  have b6:=below_one w5 (.cells #[.int .u8 9] 5)
  have HB6:=hide (bthen hb5 b6)
  have hsz6:=HB6.out.size
  clear ho5 hb5 b6 HBY HW4
  go_wp2_with (at_builtin;refine wpList_app rfl _ _ rfl w4.heap.size _ (K.block B) rfl HR6.out (some ⟨w5.heap.size,0,none⟩) 1 1 [9] rfl (sl_nine w5) (by have:=HKL.out;omega) hsz6 X HX.out ?_)
  intro v7 w7 ho7 has
  have hb7:=HB6.out.trans (has.below hsz6 (fun g hg=>(owns_lt HR6.out hg).1))
  obtain⟨xl,hxl⟩:∃ n,X.length=n:=⟨_,rfl⟩
  obtain⟨xa,xc,rfl,hx7⟩:=Sl.of_own ho7 hxl
  have HOFA:=hide (sof_any xa xl xc X w7 hx7 HK256.out (by have:=HXL.out;omega))
  have HB7:=hide (bthen HB4.out hb7)
  have HA7:=hide (HA4.out.below hb7)
  clear ho7 hb7 hx7 has hxl HR6 HB6 hsz6 HA4 HA5 HB5
  go_wp2_with fail
  refine HOFA.out.mono ?_
  rintro e w8 ⟨hb8,hof⟩
  have HB8:=hide (bthen HB7.out hb8)
  have HA8:=hide (HA7.out.below hb8)
  rcases hof with ⟨_,v8,ra,rc,rfl,hv8,hs8⟩|⟨hno,_⟩
  ·rw[HOF.out.2.1,HRS.out] at hv8
   rw[HOF.out.2.2] at hs8 ⊢
   obtain⟨am,cm,ac,cc,rfl,_,_⟩:=hv8
   unfold segC
   simp only
   obtain⟨ln',hln'⟩:∃ x,ns.length=x:=⟨_,rfl⟩
   obtain⟨nd',hnd'⟩:∃ x,bd.length=x:=⟨_,rfl⟩
   rw[hln',hnd']
   have hcell:(#[.int .i64 k,.int .i64 c,.int .i64 (r:Int),.int .i64 (n:Int),.int .i64 k1,.int .i64 i1,.string s1,.int .i64 k2,.int .i64 i2,.string s2,.slice am ln' cm,.slice ac nd' cc]:Array Value).size=12:=rfl
   have h1:([9]:List Nat).length=1:=rfl
   rw[h1] at hs8 ⊢
   obtain⟨w9,hw9⟩:∃ w9,w8.alloc (.cells #[.int .i64 k,.int .i64 c,.int .i64 (r:Int),.int .i64 (n:Int),.int .i64 k1,.int .i64 i1,.string s1,.int .i64 k2,.int .i64 i2,.string s2,.slice am ln' cm,.slice ac nd' cc] 30)=w9:=⟨_,rfl⟩
   have hb9:Below w8.heap.size w8 w9:=by rw[← hw9];exact below_one w8 _
   obtain⟨G2,hG2⟩:∃ G,w8.heap.size=G:=⟨_,rfl⟩
   have hA9:Blk w9 G2 #[.int .i64 k,.int .i64 c,.int .i64 (r:Int),.int .i64 (n:Int),.int .i64 k1,.int .i64 i1,.string s1,.int .i64 k2,.int .i64 i2,.string s2,.slice am ln' cm,.slice ac nd' cc] 30:=by rw[← hw9,← hG2];exact Blk.new w8 _ _
   have HB9:=hide (bthen HB8.out hb9)
   have hA1:=HA8.out.below hb9
   have d1:w9.cell? ⟨G,1,none⟩=some (.int .i64 c):=hA1.cell (i:=1) rfl
   have d11:w9.cell? ⟨G,11,none⟩=some (.slice ab nd cb):=hA1.cell (i:=11) rfl
   have d2:w9.cell? ⟨G2,2,none⟩=some (.int .i64 (r:Int)):=hA9.cell (i:=2) rfl
   have hst:=str_of (hs8.below hb9)
   rw[show strOfNums (ints [9])=⟨#[9]⟩ from by decide] at hst
   have HW9:=hide hw9
   have t1:(c==2)=true:=by rw[HP.out.1];rfl
   have t2:((nd:Int)==2)=true:=by rw[HP.out.2.2];rfl
   have t3:((r:Int)==4)=true:=by rw[HP.out.2.1];rfl
   clear hln' hnd' hcell h1 hs8 hb8 hb9 hA9 hA1 hw9 HA7 HA8 HB7 HB8 HOFA HSOK
   go_wp2_with (first
    | (guard_target =~ wpList _ _ _ ((⟨some 29,_,_,_,_,_⟩:Oper) :: _) _ _;rw[HW9.out])
    | fail)
   go_ret
   exact⟨rfl,HB9.out⟩
  ·exact absurd HOF.out.1 hno
 ·exact absurd exG_made hno
end Go.Proofs.YtnkpgmibhpmdhaaGreat

/- Contracts and plain facts, one behind the other: H4 H5 H6 H7a -/
import Derived.Laws.CopyOwn
import Derived.ChangeKeysEq
import Derived.Test.YtnkpgmibhpmdhaaGreatBeBM
namespace Go.Proofs.YtnkpgmibhpmdhaaGreat
set_option maxRecDepth 10000
set_option linter.unusedVariables false
open Go.RowKit
def four (a b c d:Int):Array Value:=#[.int .u8 a,.int .u8 b,.int .u8 c,.int .u8 d]
theorem Tryz.infoFour:(Tryz.prog.info? 81).map (fun i=>(i.zero,i.size))=some (some (.agg (four 0 0 0 0)),4):=by kernel_rfl
theorem le4_cells (n:Nat) (hn:n<4294967296):(B8 (K.le4 n)).toArray=four ((n:Int)%256) ((n:Int) / 256%256) ((n:Int) / 65536%256) ((n:Int) / 16777216):=by
 simp[B8,K.le4,four];omega
theorem four_one (a b c d:Int):(four a b c d).all (·.oneCell')=true:=by
 simp[four];exact⟨rfl,rfl,rfl,rfl⟩
theorem four_size (a b c d:Int):(four a b c d).size=4:=rfl
theorem cell_of_four {w:World} {p:Nat} {C:Array Value} {t:TypeId} (h:w.heap[p]?=some (.cells C t (0,0))) (i:Nat) (v:Value) (hv:C[i]?=some v):w.cell? ⟨p,i,none⟩=some v∧w.frozen? ⟨p,i,none⟩=false:=by
 constructor
 ·rw[cell_of_row w p i C t (0,0) h];exact hv
 ·simp[World.frozen?,h]
set_option maxHeartbeats 2000000 in
theorem laid_any (n:Nat) (w:World) (hn:n<4294967296) :
  Calls Tryz.prog 41 #[.int .u32 (n:Int)] w fun e w'=>e=.returned (.agg (B8 (K.le4 n)).toArray)∧Below w.heap.size w w':=by
 rw[le4_cells n hn]
 obtain⟨s,hs⟩:∃ s:Int,(n:Int)=s:=⟨_,rfl⟩
 rw[hs]
 have hs0:0≤s:=by omega
 have hs1:s<4294967296:=by omega
 clear hs hn
 obtain⟨hz,hi⟩:=zero_of_info Tryz.infoFour
 obtain⟨Z,hZ⟩:∃ Z,four 0 0 0 0=Z:=⟨_,rfl⟩
 have HZ:=hide hZ
 rw[hZ] at hz
 clear hZ
 have HI:=hide hi
 clear hi
 go_enter Tryz.func41,Tryz.ntmps41
 go_wp2_with fail
 have b0:=heap_alloc_new w (.cells Z 81)
 have b1:=heap_alloc_new (w.alloc (.cells Z 81)) (.cells Z 81)
 go_loopw [5] (fun i wr=>∃ (x a b c d:Int),0≤x∧x≤4∧i=.int .i64 x∧Hid ((0<x→a=s%256)∧(1<x→b=s / 256%256)∧(2<x→c=s / 65536%256)∧(3<x→d=s / 16777216)∧wr.heap[w.heap.size]?=some (.cells Z 81 (0,0))∧wr.heap[w.heap.size+1]?=some (.cells (four a b c d) 81 (0,0))∧Below w.heap.size w wr)) (fun i _=>4 - (intOf i).toNat)
 case atStart =>
  exact⟨0,0,0,0,0,by omega,by omega,rfl,hide ⟨by omega,by omega,by omega,by omega,heap_alloc_keep _ b0,by rw[HZ.out];simpa using b1,((Below.refl _ _).alloc (Nat.le_refl _) _).alloc (by simp) _⟩⟩
 case round =>
  obtain⟨x,a,b,c,d,hx0,hx1,rfl,HR⟩:=hrel
  clear b0 b1
  by_cases hlt:x<4
  ·obtain rfl|rfl|rfl|rfl:x=0∨x=1∨x=2∨x=3:=by omega
   ·obtain⟨c1,f1⟩:=cell_of_four HR.out.2.2.2.2.2.1 0 _ rfl
    go_wp2
    go_roundw
    case rel =>
     obtain⟨r1,r2,r3,r4,r5,r6,r7⟩:=HR.out
     refine⟨1,s%256,b,c,d,by omega,by omega,rfl,hide ⟨?_,?_,?_,?_,?_,heap_setCell_row r6 _ _,r7.setCell (by simp) _⟩⟩
     ·intro h;first|rfl|exact r1 (by omega)|omega
     ·intro h;first|rfl|exact r2 (by omega)|omega
     ·intro h;first|rfl|exact r3 (by omega)|omega
     ·intro h;first|rfl|exact r4 (by omega)|omega
     ·rw[Below.heap_setCell _ _ _ _ (by show w.heap.size≠w.heap.size+1;omega)];exact r5
    case measure=>simp[intOf]
   ·obtain⟨c1,f1⟩:=cell_of_four HR.out.2.2.2.2.2.1 1 _ rfl
    go_wp2
    go_roundw
    case rel =>
     obtain⟨r1,r2,r3,r4,r5,r6,r7⟩:=HR.out
     refine⟨2,a,s / 256%256,c,d,by omega,by omega,rfl,hide ⟨?_,?_,?_,?_,?_,heap_setCell_row r6 _ _,r7.setCell (by simp) _⟩⟩
     ·intro h;first|rfl|exact r1 (by omega)|omega
     ·intro h;first|rfl|exact r2 (by omega)|omega
     ·intro h;first|rfl|exact r3 (by omega)|omega
     ·intro h;first|rfl|exact r4 (by omega)|omega
     ·rw[Below.heap_setCell _ _ _ _ (by show w.heap.size≠w.heap.size+1;omega)];exact r5
    case measure=>simp[intOf]
   ·obtain⟨c1,f1⟩:=cell_of_four HR.out.2.2.2.2.2.1 2 _ rfl
    go_wp2
    go_roundw
    case rel =>
     obtain⟨r1,r2,r3,r4,r5,r6,r7⟩:=HR.out
     refine⟨3,a,b,s / 65536%256,d,by omega,by omega,rfl,hide ⟨?_,?_,?_,?_,?_,heap_setCell_row r6 _ _,r7.setCell (by simp) _⟩⟩
     ·intro h;first|rfl|exact r1 (by omega)|omega
     ·intro h;first|rfl|exact r2 (by omega)|omega
     ·intro h;first|rfl|exact r3 (by omega)|omega
     ·intro h;first|rfl|exact r4 (by omega)|omega
     ·rw[Below.heap_setCell _ _ _ _ (by show w.heap.size≠w.heap.size+1;omega)];exact r5
    case measure=>simp[intOf]
   ·obtain⟨c1,f1⟩:=cell_of_four HR.out.2.2.2.2.2.1 3 _ rfl
    go_wp2
    go_roundw
    case rel =>
     obtain⟨r1,r2,r3,r4,r5,r6,r7⟩:=HR.out
     refine⟨4,a,b,c,s / 16777216,by omega,by omega,rfl,hide ⟨?_,?_,?_,?_,?_,heap_setCell_row r6 _ _,r7.setCell (by simp) _⟩⟩
     ·intro h;first|rfl|exact r1 (by omega)|omega
     ·intro h;first|rfl|exact r2 (by omega)|omega
     ·intro h;first|rfl|exact r3 (by omega)|omega
     ·intro h;first|rfl|exact r4 (by omega)|omega
     ·rw[Below.heap_setCell _ _ _ _ (by show w.heap.size≠w.heap.size+1;omega)];exact r5
    case measure=>simp[intOf]
  ·obtain rfl:x=4:=by omega
   obtain⟨r1,r2,r3,r4,r5,r6,r7⟩:=HR.out
   obtain rfl:=r1 (by omega)
   obtain rfl:=r2 (by omega)
   obtain rfl:=r3 (by omega)
   obtain rfl:=r4 (by omega)
   obtain⟨C,hC⟩:∃ C,four (s%256) (s / 256%256) (s / 65536%256) (s / 16777216)=C:=⟨_,rfl⟩
   have h4:C.size=4:=by rw[← hC];rfl
   have h1:C.all (·.oneCell')=true:=by rw[← hC];exact four_one _ _ _ _
   have hZ4:Z.size=4:=by rw[← HZ.out];rfl
   rw[hC] at r6
   have HCq:=hide hC
   have HS:=hide h4
   have H1:=hide h1
   have H5:=hide r5
   have H6:=hide r6
   have H7:=hide r7
   have HZ4:=hide hZ4
   clear h4 h1 r5 r6 r7 r1 r2 r3 r4 hZ4 hC HR
   go_wp2_with (first|refine wpList_load_row rfl 81 (.tmp 3) rfl (w.heap.size+1) rfl 81 C (0,0) (.array 4 5) H6.out Tryz.underlying81 rfl (by rw[HS.out];exact HI.out) ?_|refine wpList_store_row rfl 81 (.tmp 2) (.tmp 16) rfl w.heap.size C rfl rfl 81 Z H5.out (by rw[HS.out];exact HI.out) (by rw[HS.out];exact HZ4.out) H1.out ?_)
   refine bodyPost_ret (v:=.agg C) ?h1 rfl ⟨by rw[HCq.out],?h2⟩
   case h1=>exact results_cell_row Tryz.results41 _ _ w.heap.size 81 C (0,0) (.array 4 5) rfl (setRow_heap _ _ _ _ _ _ H5.out) Tryz.underlying81 rfl (by rw[HS.out];exact HI.out)
   case h2=>exact H7.out.trans ⟨rfl,rfl,rfl,by simp[World.setRow],fun k hk=>setRow_other _ _ _ _ (by omega)⟩
structure Pt where
 a:Option Addr
 len:Nat
 cap:Nat
 l:List Nat
def Pt.v (p:Pt):Value:=.slice p.a p.len p.cap
def Parts (w:World) (b:Nat) (ps:List Pt):Prop:=b<w.heap.size∧∀ i p,ps[i]?=some p→w.cell? ⟨b,i,none⟩=some p.v∧Sl w .u8 p.a p.len p.cap (ints p.l)
def cat (ps:List Pt):List Nat:=ps.flatMap (·.l)
theorem cat_take (ps:List Pt) (k:Nat) (p:Pt) (h:ps[k]?=some p):cat (ps.take (k+1))=cat (ps.take k)++p.l:=by
 have hk:=(List.getElem?_eq_some_iff.1 h).1
 rw[List.take_succ_eq_append_getElem hk,(List.getElem?_eq_some_iff.1 h).2]
 simp[cat]
theorem cat_le (ps:List Pt) (k:Nat):(cat (ps.take k)).length≤(cat ps).length:=by
 have:cat ps=cat (ps.take k)++cat (ps.drop k):=by
  unfold cat
  rw[← List.flatMap_append,List.take_append_drop]
 rw[this];simp
theorem Parts.below {w w':World} {b:Nat} {ps:List Pt} (h:Parts w b ps) (hb:Below w.heap.size w w'):Parts w' b ps :=
 ⟨by have:=hb.size;have:=h.1;omega,fun i p hp=>⟨by rw[hb.cell (p:=⟨b,i,none⟩) h.1];exact (h.2 i p hp).1,(h.2 i p hp).2.below hb⟩⟩
def fill (l:List Nat) (n:Nat):List Value:=B8 l++List.replicate (n - l.length) (.int .u8 0)
theorem fill_length (l:List Nat) (n:Nat) (h:l.length≤n):(fill l n).length=n:=by simp[fill,B8_length];omega
theorem fill_splice (l m:List Nat) (n:Nat) (h:l.length+m.length≤n):splice (fill l n) l.length (B8 m)=fill (l++m) n:=by
 unfold splice fill
 rw[B8_append,B8_length,List.take_append_of_le_length (by rw[B8_length];exact Nat.le_refl _),List.take_of_length_le (by rw[B8_length];exact Nat.le_refl _)]
 rw[List.drop_append,B8_length,List.drop_eq_nil_of_le (by rw[B8_length];omega),List.nil_append,List.drop_replicate,List.append_assoc]
 congr 3
 rw[List.length_append];omega
theorem fill_all (l:List Nat):fill l l.length=B8 l:=by simp[fill]
theorem made_u8 (n:Nat):madeCells (Value.int .u8 0).cells (n*1)=(fill [] n).toArray:=by
 apply Array.ext_getElem?
 intro i
 simp only[fill,B8,List.map_nil,List.nil_append,List.length_nil,Nat.sub_zero,Nat.mul_one]
 by_cases hi:i<n
 ·simp[madeCells,hi,Value.cells,Nat.mod_one]
 ·simp[madeCells,hi]
theorem B8_one (l:List Nat):∀ v∈B8 l,v.oneCell'=true:=by
 intro v hv
 obtain⟨x,_,rfl⟩:=List.mem_map.1 hv
 rfl
theorem B8_src {w:World} {p:Pt} (h:Sl w .u8 p.a p.len p.cap (ints p.l)) (h0:0<(B8 p.l).length):∃ ad,p.a=some ad∧∀ j v,(B8 p.l)[j]?=some v→w.cell? (ad.add j)=some v:=by
 have hn:=h.news
 obtain⟨h1,h2,h3,h4,h5⟩:=h
 rw[B8_length] at h0
 rw[ints_length] at h1
 rcases h5 with h5|⟨b,off,hao,hlt,h5⟩
 ·omega
 ·exact⟨_,hao,fun j v hv=>hn _ hao j v (by rw[← B8_ints];exact hv)⟩
theorem Tryz.sizeU8:(Tryz.prog.info? 5).map (·.size)=some 1:=by kernel_rfl
set_option maxHeartbeats 800000 in
theorem tog_any (b:Nat) (ps:List Pt) (cap:Nat) (w:World) (hp:Parts w b ps) (hps:ps.length≤1000000) (hm:(cat ps).length≤140737488355328) :
  Calls Tryz.prog 44 #[.slice (some ⟨b,0,none⟩) ps.length cap] w fun e w'=>e=.returned (.slice (some ⟨w.heap.size,0,none⟩) (cat ps).length (cat ps).length)∧w'.heap[w.heap.size]?=some (.cells (B8 (cat ps)).toArray 5 (0,0))∧Below w.heap.size w w':=by
 obtain⟨i0,hi,hz0,hz1,hz2⟩:=info_parts Tryz.infoU8
 obtain⟨N,hN⟩:∃ N,ps.length=N:=⟨_,rfl⟩
 obtain⟨T,hT⟩:∃ T,(cat ps).length=T:=⟨_,rfl⟩
 rw[hN] at hps ⊢
 rw[hT] at hm ⊢
 have HP:=hide hp
 have HN:=hide hN
 have HT:=hide hT
 clear hp hN hT
 have hmk:∀ (x:Int) (w:World),0≤x→x≤140737488355328→(Instr.makeSlice 22 (.int .i64 x) (.int .i64 x)).run Tryz.prog w=.ok (.slice (some ⟨w.heap.size,0,none⟩) x.toNat x.toNat) (w.alloc (.cells (fill [] x.toNat).toArray 5)):=by
  intro x w h0 h1
  have:=run_make (P:=Tryz.prog) w 22 5 i0 (.int .u8 0) Tryz.underlying22 hi hz0 .i64 .i64 x x h0 (Int.le_refl _) (by rw[hz2];omega) (by omega)
  rw[hz1,made_u8] at this
  exact this
 have HM:=hide hmk
 clear hmk
 go_enter Tryz.func44,Tryz.ntmps44
 go_wp2_with fail
 go_loop [3,12] (fun s i=>∃ (k:Nat) (x:Int),k≤N∧i=.int .i64 (k:Int)∧s=.int .i64 x∧0≤x∧x≤140737488355328∧Hid (x=(((cat (ps.take k)).length:Nat):Int))) (fun _ i=>N - (intOf i).toNat)
 case atStart=>exact⟨0,0,by omega,rfl,rfl,by omega,by omega,hide rfl⟩
 case round =>
  obtain⟨k,x,hk,rfl,rfl,hx0,hx1,HX⟩:=hrel
  by_cases hlt:k<N
  ·obtain⟨p,hpk⟩:∃ p,ps[k]?=some p:=⟨ps[k]'(by rw[HN.out];exact hlt),by simp⟩
   obtain⟨hc,hsl⟩:=HP.out.2 k p hpk
   have hle:=cat_le ps (k+1)
   rw[cat_take ps k p hpk,List.length_append,HT.out] at hle
   have hpl:p.l.length=p.len:=by rw[← hsl.1,ints_length]
   have hc':w.cell? ⟨b,0+k,none⟩=some (.slice p.a p.len p.cap):=by rw[Nat.zero_add];exact hc
   have hc2:w.cell? ⟨b,k,none⟩=some (.slice p.a p.len p.cap):=hc
   have hx2:x+(p.len:Int)≤140737488355328:=by rw[HX.out];omega
   have HK:=hide hpk
   have HPL:=hide hpl
   clear hc hsl hle hpk hpl
   go_wp2
   go_round
   case rel=>exact⟨k+1,x+(p.len:Int),by omega,by go_num,rfl,by omega,by omega,hide (by rw[cat_take ps k p HK.out,List.length_append,HX.out,HPL.out];omega)⟩
   case measure=>simp[intOf];omega
  ·obtain rfl:k=N:=by omega
   obtain rfl:T=x.toNat:=by
    have:=HX.out
    rw[List.take_of_length_le (by have:=HN.out;omega),HT.out] at this
    omega
   have hmx:=fun w=>HM.out x w hx0 hx1
   go_wp2_with fail
   have b0:=heap_alloc_new w (.cells (fill [] x.toNat).toArray 5)
   go_loopw [7,25] (fun t i wr=>∃ (j:Nat) (y:Nat),j≤k∧i=.int .i64 (j:Int)∧t=.int .i64 (y:Int)∧(y:Int)≤x∧Hid (y=(cat (ps.take j)).length∧wr.heap[w.heap.size]?=some (.cells (fill (cat (ps.take j)) x.toNat).toArray 5 (0,0))∧Below w.heap.size w wr)) (fun _ i _=>k - (intOf i).toNat)
   case atStart=>exact⟨0,0,by omega,rfl,rfl,by omega,hide ⟨rfl,b0,(Below.refl _ _).alloc (Nat.le_refl _) _⟩⟩
   case round =>
    obtain⟨j,y,hj,rfl,rfl,hyx,HR⟩:=hrel
    clear b0 hmx
    by_cases hlt2:j<k
    ·obtain⟨p,hpk⟩:∃ p,ps[j]?=some p:=⟨ps[j]'(by rw[HN.out];exact hlt2),by simp⟩
     have hP2:=HP.out.below HR.out.2.2
     obtain⟨hc,hsl⟩:=hP2.2 j p hpk
     have hle:=cat_le ps (j+1)
     rw[cat_take ps j p hpk,List.length_append,HT.out,← HR.out.1] at hle
     have hpl:p.l.length=p.len:=by rw[← hsl.1,ints_length]
     have hc':wr.cell? ⟨b,0+j,none⟩=some (.slice p.a p.len p.cap):=by rw[Nat.zero_add];exact hc
     have hc2:wr.cell? ⟨b,j,none⟩=some (.slice p.a p.len p.cap):=hc
     have HK:=hide hpk
     have HPL:=hide hpl
     have HSL:=hide hsl
     obtain⟨cs,hcs⟩:∃ cs,B8 p.l=cs:=⟨_,rfl⟩
     have HCS:=hide hcs
     have hcl:cs.length=p.len:=by rw[← hcs,B8_length,hpl]
     have HCL:=hide hcl
     have hfit:(y:Int)+(p.len:Int)≤x:=by omega
     have HF:=hide hfit
     have HFL:=hide (fill_length (cat (ps.take j)) x.toNat (by rw[← HR.out.1];omega))
     have HSP:Hid (splice (fill (cat (ps.take j)) x.toNat) y cs=fill (cat (ps.take (j+1))) x.toNat):=hide (by
      rw[cat_take ps j p hpk,HR.out.1,← hcs]
      exact fill_splice _ _ _ (by rw[← HR.out.1,hpl];omega))
     have HY:Hid (y+p.len=(cat (ps.take (j+1))).length):=hide (by rw[cat_take ps j p hpk,List.length_append,← HR.out.1,hpl])
     clear hc hsl hle hpk hpl hcs hcl hP2
     by_cases hyT:(y:Int)=x
     ·have hp0:p.len=0:=by omega
      go_wp2_with (guard_target =~ wpList _ _ _ ((⟨some 34,_,_,_,_,_⟩:Oper) :: _) _ _;refine wpList_copy_splice rfl (.tmp 32) (.tmp 33) 22 22 rfl 5 Tryz.underlying22 Tryz.sizeU8 _ _ _ _ _ _ rfl rfl w.heap.size y (fill (cat (ps.take j)) x.toNat) 5 HR.out.2.1 cs ?hn ?hpos ?hfit ?h1 w.heap.size w HR.out.2.2 (Nat.le_refl _) ?_)
      case hn=>rw[HCL.out,hp0];simp
      case hpos=>intro h;rw[HCL.out] at h;omega
      case hfit=>rw[HFL.out,HCL.out];omega
      case h1=>rw[← HCS.out];exact B8_one _
      intro w2 HG2 hB2
      rw[HCL.out]
      go_wp2
      go_roundw
      case rel=>exact⟨j+1,y+p.len,by omega,by go_num,by go_num,by omega,hide ⟨HY.out,by rw[← HSP.out];exact HG2.out,hB2⟩⟩
      case measure=>simp[intOf];omega
     ·go_wp2_with (guard_target =~ wpList _ _ _ ((⟨some 34,_,_,_,_,_⟩:Oper) :: _) _ _;refine wpList_copy_splice rfl (.tmp 32) (.tmp 33) 22 22 rfl 5 Tryz.underlying22 Tryz.sizeU8 _ _ _ _ _ _ rfl rfl w.heap.size y (fill (cat (ps.take j)) x.toNat) 5 HR.out.2.1 cs ?hn ?hpos ?hfit ?h1 w.heap.size w HR.out.2.2 (Nat.le_refl _) ?_)
      case hn=>rw[HCL.out];show _=min _ _;omega
      case hpos=>intro h;rw[← HCS.out] at h ⊢;first|exact B8_src HSL.out h|exact⟨rfl,B8_src HSL.out h⟩
      case hfit=>rw[HFL.out,HCL.out];omega
      case h1=>rw[← HCS.out];exact B8_one _
      intro w2 HG2 hB2
      rw[HCL.out]
      go_wp2
      go_roundw
      case rel=>exact⟨j+1,y+p.len,by omega,by go_num,by go_num,by omega,hide ⟨HY.out,by rw[← HSP.out];exact HG2.out,hB2⟩⟩
      case measure=>simp[intOf];omega
    ·obtain rfl:j=k:=by omega
     have HE:Hid (wr.heap[w.heap.size]?=some (.cells (B8 (cat ps)).toArray 5 (0,0))):=hide (by
      have:=HR.out.2.1
      rw[List.take_of_length_le (by have:=HN.out;omega),← HT.out,fill_all] at this
      exact this)
     go_wp2
     go_ret
     exact⟨rfl,HE.out,HR.out.2.2⟩
theorem Parts.lit3 {w:World} {b:Nat} {p q r:Pt} {t:TypeId} {fr:Nat × Nat} (h:w.heap[b]?=some (.cells #[p.v,q.v,r.v] t fr)) (h1:Sl w .u8 p.a p.len p.cap (ints p.l)) (h2:Sl w .u8 q.a q.len q.cap (ints q.l)) (h3:Sl w .u8 r.a r.len r.cap (ints r.l)):Parts w b [p,q,r]:=by
 refine⟨lt_of_block h,fun i x hx=>?_⟩
 have hc:∀ j,w.cell? ⟨b,j,none⟩=#[p.v,q.v,r.v][j]?:=fun j=>cell_of_row w b j _ t fr h
 match i,hx with
 | 0,hx=>simp at hx;subst hx;exact⟨by rw[hc];rfl,h1⟩
 | 1,hx=>simp at hx;subst hx;exact⟨by rw[hc];rfl,h2⟩
 | 2,hx=>simp at hx;subst hx;exact⟨by rw[hc];rfl,h3⟩
theorem Parts.lit1 {w:World} {b:Nat} {p:Pt} {t:TypeId} {fr:Nat × Nat} (h:w.heap[b]?=some (.cells #[p.v] t fr)) (h1:Sl w .u8 p.a p.len p.cap (ints p.l)):Parts w b [p]:=by
 refine⟨lt_of_block h,fun i x hx=>?_⟩
 have hc:∀ j,w.cell? ⟨b,j,none⟩=#[p.v][j]?:=fun j=>cell_of_row w b j _ t fr h
 match i,hx with
 | 0,hx=>simp at hx;subst hx;exact⟨by rw[hc];rfl,h1⟩
theorem Sl.of_row {w:World} {g:Nat} {l:List Nat} {t:TypeId} {fr:Nat × Nat} (h:w.heap[g]?=some (.cells (B8 l).toArray t fr)) (hm:l.length≤maxLen):Sl w .u8 (some ⟨g,0,none⟩) l.length l.length (ints l):=by
 refine⟨ints_length l,Nat.le_refl _,hm,by simp,.inr ⟨g,0,rfl,lt_of_block h,fun i hi=>?_⟩⟩
 rw[Nat.zero_add,cell_of_row w g i _ t fr h,ints_getD]
 simp[B8,List.getD,hi]
theorem Sl.four_of {w:World} {B:Nat} {n:Nat} {t:TypeId} (h:w.heap[B]?=some (.cells (B8 (K.le4 n)).toArray t (0,0))):Sl w .u8 (some ⟨B,0,none⟩) 4 4 (ints (K.le4 n)) :=
 Sl.of_row h (by rw[K.le4_length];decide)
def entParts (ps:List (Nat × List Nat)):V.Ent:=⟨fun v w=>∃ g pp,v=.slice (some ⟨g,0,none⟩) ps.length ps.length∧Parts w g pp∧pp.map (fun p=>(p.len,p.l))=ps,fun hb ⟨g,pp,h1,h2,h3⟩=>⟨g,pp,h1,h2.below hb,h3⟩⟩
def entRow (B:Nat) (l:List Nat):V.Ent:=⟨fun v w=>∃ g,v=.slice (some ⟨g,0,none⟩) l.length l.length∧w.heap[g]?=some (.cells (B8 l).toArray 5 (0,0))∧B≤g,fun hb ⟨g,h1,h2,h3⟩=>⟨g,h1,by rw[hb.block g (lt_of_block h2)];exact h2,h3⟩⟩
theorem cat_of {pp:List Pt} {ps:List (Nat × List Nat)} (h:pp.map (fun p=>(p.len,p.l))=ps):cat pp=ps.flatMap (·.2):=by
 subst h;simp[cat,List.flatMap_map]
def blockTbl (B:Nat) (w0:Nat) (l:List Nat) (ao:Option Addr) (len cap:Nat):List (Nat × V.Ent) :=
 [(0,V.Ent.is (.slice ao len cap)),(3,V.Ent.is (.pointer (some ⟨B,0,none⟩))),(8,V.Ent.is (.slice ao len cap)),(9,V.Ent.is (.int .i64 (len:Int))),(10,V.Ent.is (.int .u64 (len:Int))),
  (11,V.Ent.sl (E.leb len).length (E.leb len)),(12,V.Ent.is (.slice ao len cap)),(13,V.Ent.is (.slice (some ⟨B,0,none⟩) 4 4)),
  (14,entParts [((E.leb len).length,E.leb len),(len,l),(4,K.le4 (K.crc l))]),(15,entRow w0 (K.block l)),(2,entRow w0 (K.block l))]
set_option maxHeartbeats 800000 in
theorem block_any (ao:Option Addr) (len cap:Nat) (l:List Nat) (w:World) (h:Sl w .u8 ao len cap (ints l)) (hm:len≤140737488351232) (h256:∀ x∈l,x<256) :
  Calls Tryz.prog 32 #[.slice ao len cap] w fun e w'=>∃ g,e=.returned (.slice (some ⟨g,0,none⟩) (K.block l).length (K.block l).length)∧w'.heap[g]?=some (.cells (B8 (K.block l)).toArray 5 (0,0))∧w.heap.size≤g∧Below w.heap.size w w':=by
 obtain⟨hz,hi⟩:=zero_of_info Tryz.infoFour
 obtain⟨Z,hZ⟩:∃ Z,four 0 0 0 0=Z:=⟨_,rfl⟩
 have HZ:=hide hZ
 rw[hZ] at hz
 clear hZ
 have HI:=hide hi
 clear hi
 have H:=hide h
 have H2:=hide h256
 have hll:l.length=len:=by rw[← h.1,ints_length]
 have HLL:=hide hll
 clear h h256 hll
 go_enter Tryz.func32,Tryz.ntmps32
 go_wp2_with fail
 refine (table_any w).mono ?_
 rintro e w1 ⟨C,rfl,hC,hb1⟩
 have HC:=hide hC
 clear hC
 go_wp2_with fail
 refine (sum_crc C ao len cap l w1 HC.out (H.out.below hb1) (by omega) H2.out).mono ?_
 rintro e w2 ⟨rfl,hb2⟩
 go_wp2_with fail
 refine (laid_any (K.crc l) w2 (K.crc_lt l)).mono ?_
 rintro e w3 ⟨rfl,hb3⟩
 have HB:=hide (hb1.trans ((hb2.mono hb1.size).trans (hb3.mono (Nat.le_trans hb1.size hb2.size))))
 clear hb1 hb2 hb3
 obtain⟨F,hF⟩:∃ F,(B8 (K.le4 (K.crc l))).toArray=F:=⟨_,rfl⟩
 rw[hF]
 have HFF:=hide hF
 clear hF
 have HF4:Hid (F.size=4∧F.all (·.oneCell')=true∧Z.size=4):=hide (by
  rw[← HFF.out,← HZ.out,le4_cells _ (K.crc_lt l)];exact⟨rfl,four_one _ _ _ _,rfl⟩)
 go_wp2_with (guard_target =~ wpList _ _ _ ((⟨none,.store _ _ _,_,_,_,_⟩:Oper) :: _) _ _;refine wpList_store_row rfl 81 (.tmp 3) (.tmp 7) rfl w3.heap.size F rfl rfl 81 Z (heap_alloc_new _ _) (by rw[HF4.out.1];exact HI.out) (by rw[HF4.out.1];exact HF4.out.2.2) HF4.out.2.1 ?_;rw[World.setRow_alloc_new])
 have HB4:=hide (HB.out.alloc HB.out.size (.cells F 81))
 have HR:=hide (heap_alloc_new w3 (.cells F 81))
 obtain⟨w4,hw4⟩:∃ w4,w3.alloc (.cells F 81)=w4:=⟨_,rfl⟩
 rw[hw4] at HB4 HR ⊢
 clear hw4
 obtain⟨B,hB⟩:∃ B,w3.heap.size=B:=⟨_,rfl⟩
 rw[hB] at HR ⊢
 have HBB:=hide (show w.heap.size≤B by rw[← hB];exact HB.out.size)
 clear hB
 have H4:Hid (Sl w4 .u8 (some ⟨B,0,none⟩) 4 4 (ints (K.le4 (K.crc l)))):=hide (Sl.four_of (t:=81) (by rw[HFF.out];exact HR.out))
 have HSL4:=hide (H.out.below (w':=w4) HB4.out)
 refine V.wp_region (w0:=w4) [0,3] (blockTbl B w.heap.size l ao len cap) (by kernel_rfl) (by kernel_rfl) (Below.refl _ _) ?hb ?hs ?hd
 case hb =>
  intro d hd
  simp only[List.mem_cons,List.not_mem_nil,or_false] at hd
  rcases hd with rfl|rfl<;>rfl
 case hs =>
  refine⟨?_,?_,?_,?_,?_,?_,?_,?_,?_,trivial⟩
  ·exact V.Step.move (.inl rfl) (.inl rfl) (.inl ⟨_,rfl⟩) (fun _ h=>by cases h;rfl)
  ·exact V.Step.len (.inl rfl) rfl (fun v w h=>⟨_,_,h⟩) (fun _ h=>by cases h;rfl)
  ·exact V.Step.conv (v:=.int .u64 (len:Int)) (.inl rfl) rfl rfl (fun w=>by simp[go_sem,u64_wrap];omega) (fun _ h=>by cases h;rfl)
  ·refine V.Step.callR (.inl rfl) rfl Tryz.func70 (by decide +kernel) rfl (fun w1 v hw1 hv=>?_)
   obtain rfl:v=.int .u64 (len:Int):=hv
   refine (put_any _ w1 (by omega) (by omega)).mono ?_
   rintro e w9 ⟨v9,rfl,ho9,hb9⟩
   rw[Int.toNat_natCast] at ho9
   obtain⟨a9,c9,rfl,hs9,_⟩:=Sl.of_bytes ho9
   exact⟨_,rfl,hb9,fun d h=>by cases h;exact⟨a9,c9,rfl,hs9⟩⟩
  ·exact V.Step.move (.inl rfl) (.inl rfl) (.inl ⟨_,rfl⟩) (fun _ h=>by cases h;rfl)
  ·exact V.Step.arr4 (.inl rfl) rfl rfl (fun _ h=>by cases h;rfl)
  ·refine V.Step.run (.inl rfl) (fun a w1 hw1 hk=>?_)
   obtain⟨a1,c1,e1,s1⟩:=hk 11 (by decide)
   have e2:a.eval (.tmp 12)=.slice ao len cap:=hk 12 (by decide)
   have e3:a.eval (.tmp 13)=.slice (some ⟨B,0,none⟩) 4 4:=hk 13 (by decide)
   have hb5:=(Below.refl w1.heap.size w1).alloc (Nat.le_refl _) (.cells #[.slice a1 (E.leb len).length c1,.slice ao len cap,.slice (some ⟨B,0,none⟩) 4 4] 22)
   have hbw:=hw1.trans (hb5.mono hw1.size)
   refine⟨_,_,?_,hb5,fun d h=>by
    cases h
    exact⟨w1.heap.size,[⟨a1,_,c1,E.leb len⟩,⟨ao,len,cap,l⟩,⟨some ⟨B,0,none⟩,4,4,K.le4 (K.crc l)⟩],rfl,Parts.lit3 (heap_alloc_new _ _) (s1.below hb5) (HSL4.out.below hbw) (H4.out.below hbw),rfl⟩⟩
   have:=V.run_build3 w1 a1 ao (some ⟨B,0,none⟩) (E.leb len).length len 4 c1 cap 4
   simp[execOp,e1,e2,e3,this]
  ·refine V.Step.callR (.inl rfl) rfl Tryz.func44 (by decide +kernel) rfl (fun w1 v hw1 hv=>?_)
   obtain⟨g,pp,rfl,hpp,hmap⟩:=hv
   have hcat:=cat_of hmap
   have hlen:pp.length=3:=by have:=congrArg List.length hmap;simpa using this
   have hcl:cat pp=K.block l:=by rw[hcat];simp[K.block,HLL.out]
   have:=tog_any g pp 3 w1 hpp (by omega) (by rw[hcl,K.block_length,HLL.out];have:=E.leb_ten len (by omega);omega)
   rw[hlen,hcl] at this
   refine this.mono ?_
   rintro e w9 ⟨rfl,hg9,hb9⟩
   exact⟨_,rfl,hb9,fun d h=>by cases h;exact⟨_,rfl,hg9,Nat.le_trans HB4.out.size hw1.size⟩⟩
  ·exact V.Step.move (.inl rfl) (.inr rfl) (.inl ⟨_,rfl⟩) (fun _ h=>by cases h;rfl)
 case hd =>
  intro a1 w1 hw1 hdf hk
  obtain⟨g,hv,hg,hBg⟩:=hk 8 _ 2 rfl rfl
  have h2:=V.slot_of hv
  go_wp2
  exact bodyPost_ret (v:=.slice (some ⟨g,0,none⟩) (K.block l).length (K.block l).length) (by simp[results,Tryz.results32,h2,go_sem]) hdf ⟨g,rfl,hg,hBg,HB4.out.trans (hw1.mono HB4.out.size)⟩
theorem items_eq {P:Program} {d:Nat} {e:TypeId} {k:IntKind} (he:P.underlying e=some (.int k)) (xs ys:Array Value) (x y:Nat→Int) (w:World):∀ (is:List Nat),(∀ i∈is,xs[i]?=some (.int k (x i))∧ys[i]?=some (.int k (y i))) →
  (Op.eqItems (d+1) e 1 xs ys is).run P w=.ok (is.all fun i=>x i==y i) w
 | [],_=>by simp[Op.eqItems]
 | i :: is,h=>by
  obtain⟨h1,h2⟩:=h i (by simp)
  have hp:P.plainKey e=true:=by simp[Program.plainKey,he]
  have ih:=items_eq (d:=d) he xs ys x y w is fun j hj=>h j (by simp[hj])
  simp only[Op.eqItems,Sem.run_bind,Nat.mul_one,run_part_plain w hp h1,run_part_plain w hp h2,Result.andThen_ok,run_equalIn_int w d e k k _ _ he,List.all_cons]
  by_cases hxy:x i=y i
  ·simp[hxy,ih]
  ·simp[hxy]
theorem arr_eq {P:Program} {t e:TypeId} {n:Nat} {k:IntKind} {i0:TypeInfo} (hu:P.underlying t=some (.array n e)) (hi:P.info? e=some i0) (he:P.underlying e=some (.int k)) (hc:P.cellsOf e=1) (xs ys:Array Value) (x y:Nat→Int) (w:World) (h:∀ i,i<n→xs[i]?=some (.int k (x i))∧ys[i]?=some (.int k (y i))) :
  (Op.equalIn 10000 t (.agg xs) (.agg ys)).run P w=.ok ((List.range n).all fun i=>x i==y i) w:=by
 rw[show (10000:Nat)=9999+1 from rfl,run_equalIn_array w 9999 xs ys hu hi,hc]
 exact items_eq (d:=9998) he xs ys x y w _ fun i hi=>h i (by simpa using hi)
theorem B8_at (l:List Nat) (i:Nat) (h:i<l.length):(B8 l).toArray[i]?=some (.int .u8 ((l.getD i 0:Nat):Int)):=by
 simp[B8,List.getD,h]
theorem all_getD (l m:List Nat) (h:l.length=m.length):((List.range l.length).all fun i=>((l.getD i 0:Nat):Int)==((m.getD i 0:Nat):Int))=decide (l=m):=by
 rw[Bool.eq_iff_iff]
 simp only[List.all_eq_true,List.mem_range,beq_iff_eq,decide_eq_true_eq]
 constructor
 ·intro hh
  apply List.ext_getElem h
  intro i h1 h2
  have:=hh i h1
  simp[List.getD,h1,h2] at this
  omega
 ·rintro rfl i _;rfl
theorem four_neq (l m:List Nat) (hl:l.length=4) (hm:m.length=4) (w:World):(binOp .neq 81 (.agg (B8 l).toArray) (.agg (B8 m).toArray)).run Tryz.prog w=.ok (.bool (!decide (l=m))) w:=by
 obtain⟨i0,hi,hz0,hz1,hz2⟩:=info_parts Tryz.infoU8
 rw[run_neq_struct,arr_eq (n:=4) Tryz.underlying81 hi Tryz.underlying5 (by kernel_rfl) _ _ (fun i=>((l.getD i 0:Nat):Int)) (fun i=>((m.getD i 0:Nat):Int)) w (fun i hi=>⟨B8_at l i (by omega),B8_at m i (by omega)⟩)]
 have:=all_getD l m (by omega)
 rw[hl] at this
 rw[this]
 rfl
theorem four_guard (x y:Operand) (xs ys:Array Value) (w:World):(eqGuard .neq 81 x y (.agg xs) (.agg ys)).run Tryz.prog w=.ok () w :=
 run_eqGuard_agg w .neq 81 x y xs ys (by kernel_rfl)
theorem wpList_rest {w:World} {ops:Array Oper} {rest:List Oper} {o:Oper} {a:Act} {Q:Exit→Act→World→Prop} (hgd:o.guard=none) (s p:Operand) (ho:o.op=.slice 22 s (some p) none none)
  (ao:Option Addr) (len cap:Nat) (hs:a.eval s=.slice ao len cap) (k:Int) (hp:a.eval p=.int .i64 k) (l:List Nat) (hsl:Sl w .u8 ao len cap (ints l)) (hk0:0≤k) (hk:k.toNat≤len)
  (h:∀ ao' cap',Sl w .u8 ao' (len - k.toNat) cap' (ints (l.drop k.toNat))→wpList Tryz.prog ops Q rest (a.put o.dst (.slice ao' (len - k.toNat) cap')) w):wpList Tryz.prog ops Q (o :: rest) a w:=by
 refine wpList_plain hgd fun K hK=>?_
 obtain⟨i,rfl⟩:=Int.eq_ofNat_of_zero_le hk0
 rw[Int.toNat_natCast] at hk h
 have hc:=hsl.2.1
 have hr:=run_slice_l (P:=Tryz.prog) w 22 ao len cap V.under_bytes .i64 (i:Int) (by omega) (by omega)
 rw[V.elem_bytes,V.size_u8] at hr
 simp only[Result.andThen_ok,Int.toNat_natCast,sliced] at hr
 have hr2:=run_sliceAt_slice (P:=Tryz.prog) w 22 (.slice ao len cap) (some (.int .i64 (i:Int))) none none V.under_bytes
 have hsl2:=hsl.part i len hk (Nat.le_refl _)
 rw[List.take_of_length_le (by rw[hsl.1];exact Nat.le_refl _),← ints_drop] at hsl2
 unfold Oper.wp
 simp only[execOp,ho,hs,hp,Option.map_some,Option.map_none]
 simp only[Nat.mul_one] at hsl2
 simp[hr2,hr]
 exact hK _ _ (h _ _ hsl2)
theorem V.Step.load4 {ops:Array Oper} {Q:Exit→Act→World→Prop} {tbl:List (Nat × V.Ent)} {w0:World} {o:Oper} {s B:Nat} {C:Array Value} {t:TypeId} (hw:V.Wants tbl ops o) (ho:o.op=.load 81 (.tmp s)) (hs:V.get tbl s=V.Ent.is (.pointer (some ⟨B,0,none⟩))) (hB:w0.heap[B]?=some (.cells C t (0,0))) (hC:C.size=4) (hd:∀ d,o.dst=some d→V.get tbl d=V.Ent.is (.agg C)):V.Step Tryz.prog ops Q tbl w0 o:=by
 refine V.Step.value hw fun a w hb hk=>⟨.agg C,?_,fun d h=>by rw[hd d h];rfl⟩
 have h1:a.eval (.tmp s)=.pointer (some ⟨B,0,none⟩):=by
  have:=hk s (V.looks_op (by rw[ho];simp[Op.operands]))
  rwa [hs] at this
 have h2:w.heap[B]?=some (.cells C t (0,0)):=by rw[hb.block B (lt_of_block hB)];exact hB
 unfold execOp
 simp only[ho,h1,Instr.loadAt,Instr.sureAddr,Sem.run_bind,Sem.run_pure,Result.andThen_ok,run_loadVar_row w B t 81 C (0,0) (.array 4 5) h2 Tryz.underlying81 rfl (by rw[hC];exact (zero_of_info Tryz.infoFour).2)]
def entTab (f:Nat→Nat):V.Ent:=⟨fun v _=>∃ C,v=.agg C∧Tab f C,fun _ h=>h⟩
theorem splice_whole (Z cs:List Value) (h:Z.length=cs.length):splice Z 0 cs=cs:=by simp[splice,h]
end Go.Proofs.YtnkpgmibhpmdhaaGreat

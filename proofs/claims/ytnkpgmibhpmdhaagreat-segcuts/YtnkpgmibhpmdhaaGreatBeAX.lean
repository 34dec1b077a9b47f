/- Contracts and plain facts, one behind the other: XB XBa YE YF -/
import Derived.Lib.AppendZeros
import Derived.Lib.SliceRun
import Derived.Shelf.SlSortFuncK.RowK2
import Derived.Test.YtnkpgmibhpmdhaaGreatBeAW
namespace Go.Proofs.YtnkpgmibhpmdhaaGreat
set_option linter.unusedVariables false
set_option maxRecDepth 10000
open Go.RowKit
theorem grow_none (w:World):Calls Tryz.prog 75 #[.slice none 0 0,.int .i64 0] w fun e w'=>e=.returned (.slice none 0 0)∧w'=w:=by
 go_enter Tryz.func75,Tryz.ntmps75
 go_wp2
 go_ret
 exact⟨rfl,rfl⟩
theorem cut_made (g:Nat) (n C:Nat) (w:World):(Instr.slice 22 (.slice (some ⟨g,0,none⟩) n C) none (some (.int .i64 0)) none).run Tryz.prog w=.ok (.slice (some ⟨g,0,none⟩) 0 C) w:=by
 have hr:=run_slice_h (P:=Tryz.prog) w 22 (some ⟨g,0,none⟩) n C Tryz.underlying22 .i64 (0:Int) (by omega) (by omega)
 have e1:Tryz.prog.elem 22=5:=by kernel_rfl
 have e2:(sizeOf 5).run Tryz.prog w=.ok 1 w:=by kernel_rfl
 rw[e1,e2] at hr
 simp only[Result.andThen_ok,sliced,Nat.sub_zero] at hr
 rw[show (0:Int)=((0:Nat):Int) from rfl] at *
 simpa [Addr.add] using hr
theorem grow_some (n:Nat) (w:World) (h0:0<n) (hn:n≤70368744177664):Calls Tryz.prog 75 #[.slice none 0 0,.int .i64 (n:Int)] w fun e w'=>∃ v,e=.returned v∧w'.ownsRow w.heap.size 5 1 v 0 []∧Below w.heap.size w w':=by
 obtain⟨i0,hi,hz0,hz1,hz2⟩:=info_parts Tryz.infoU8
 have e1:decide ((n:Int)<0)=false:=by simp
 have e2:decide (0<(n:Int))=true:=by simp;omega
 obtain⟨C,hC⟩:∃ C,grownCap w n 0 5=C:=⟨_,rfl⟩
 have happ:∀ ty,(Builtin.append_ #[22,3] ty #[.slice none 0 0,.int .i64 (n:Int)]).run Tryz.prog w=.ok (.slice (some ⟨w.heap.size,0,none⟩) n C) (w.drew.alloc (.cells (Builtin.zeroCells #[.int .u8 0] n++Builtin.zeroCells #[.int .u8 0] (C - n)) 5)):=fun ty=>by
  rw[← hC];exact Lib.run_append_nil_zeros w 22 3 ty 5 i0 (.int .u8 0) .i64 .i64 Tryz.underlying22 Tryz.underlying3 hi hz0 n h0 (by rw[hz1];decide) (by omega) (by rw[hz2];omega)
 go_enter Tryz.func75,Tryz.ntmps75
 go_wp2_with (at_builtin;refine Lib.wpList_append_run _ rfl _ _ 22 3 rfl _ _ rfl rfl _ _ (happ _) ?_)
 have HC:Hid (n≤C∧C≤maxLen):=by show _∧_;rw[← hC];exact⟨grownCap_ge w n 0 5,grownCap_le_maxLen w n 0 5 (by unfold maxLen;omega)⟩
 have hc:=cut_made w.heap.size n C
 clear hC happ hi hz0 hz1 hz2
 go_wp2
 go_ret
 refine⟨_,rfl,⟨by simp,.inr ⟨w.heap.size,C,Builtin.zeroCells #[.int .u8 0] n++Builtin.zeroCells #[.int .u8 0] (C - n),rfl,Nat.le_refl _,heap_alloc_new w _,Nat.zero_le _,HC.out.2,?_,by simp⟩⟩,((below_one w _)).drew⟩
 have:=HC.out.1
 simp[Builtin.zeroCells]
 omega
theorem grow_any (n:Nat) (w:World) (hn:n≤70368744177664):Calls Tryz.prog 75 #[.slice none 0 0,.int .i64 (n:Int)] w fun e w'=>∃ v,e=.returned v∧w'.ownsRow w.heap.size 5 1 v ([]:List Nat).length (B8 [])∧Below w.heap.size w w':=by
 rcases Nat.eq_zero_or_pos n with rfl|h0
 ·refine (grow_none w).mono ?_
  rintro e w' ⟨rfl,rfl⟩
  exact⟨_,rfl,World.ownsRow_nil _ _ _ _,Below.refl _ _⟩
 ·exact grow_some n w h0 hn
structure Three (w:World) (g:Nat) (l1 l2 l3:List Nat):Prop where
 lt:g<w.heap.size
 fst:∃ a c,w.cell? ⟨g,0,none⟩=some (.slice a l1.length c)∧Sl w .u8 a l1.length c (ints l1)
 snd:∃ a c,w.cell? ⟨g,1,none⟩=some (.slice a l2.length c)∧Sl w .u8 a l2.length c (ints l2)
 thd:∃ a c,w.cell? ⟨g,2,none⟩=some (.slice a l3.length c)∧Sl w .u8 a l3.length c (ints l3)
def upTo (l1 l2 l3:List Nat):Nat→List Nat
 | 0=>[]
 | 1=>l1
 | 2=>l1++l2
 | _=>l1++l2++l3
theorem Three.at {w:World} {g:Nat} {l1 l2 l3:List Nat} (h:Three w g l1 l2 l3) {j:Nat} (hj:j<3):∃ a n c l,w.cell? ⟨g,j,none⟩=some (.slice a n c)∧Sl w .u8 a n c (ints l)∧upTo l1 l2 l3 j++l=upTo l1 l2 l3 (j+1):=by
 match j,hj with
 | 0,_=>obtain⟨a,c,h1,h2⟩:=h.fst;exact⟨a,_,c,l1,h1,h2,rfl⟩
 | 1,_=>obtain⟨a,c,h1,h2⟩:=h.snd;exact⟨a,_,c,l2,h1,h2,rfl⟩
 | 2,_=>obtain⟨a,c,h1,h2⟩:=h.thd;exact⟨a,_,c,l3,h1,h2,rfl⟩
theorem upTo_le (l1 l2 l3:List Nat) (j:Nat):(upTo l1 l2 l3 j).length≤(l1++l2++l3).length:=by
 match j with
 | 0=>simp[upTo]
 | 1=>simp[upTo]
 | 2=>simp[upTo]
 | j+3=>simp[upTo]
set_option maxHeartbeats 1000000 in
theorem concat_any (g:Nat) (l1 l2 l3:List Nat) (w:World) (h:Three w g l1 l2 l3) (hn:(l1++l2++l3).length≤70368744177664) :
  Calls Tryz.prog 33 #[.slice (some ⟨g,0,none⟩) 3 3] w fun e w'=>∃ v,e=.returned v∧w'.ownsRow w.heap.size 5 1 v (l1++l2++l3).length (B8 (l1++l2++l3))∧Below w.heap.size w w':=by
 have HT:=hide h
 have HU:Hid (∀ j,(upTo l1 l2 l3 j).length≤70368744177664):=fun j=>Nat.le_trans (upTo_le l1 l2 l3 j) hn
 have HG:=h.lt
 clear h hn
 go_enter Tryz.func33,Tryz.ntmps33
 go_wp2_with fail
 go_loopw [3,11] (fun s i wr=>∃ j m:Nat,j≤3∧i=.int .i64 j∧s=.int .i64 m∧Hid (m=(upTo l1 l2 l3 j).length)∧m≤70368744177664∧wr=w) (fun _ i _=>3 - (intOf i).toNat)
 case atStart=>exact⟨0,0,by omega,rfl,rfl,hide rfl,by omega,rfl⟩
 case round =>
  obtain⟨j,m,hj,rfl,rfl,HM,hm,hww⟩:=hrel
  obtain rfl:w=wr:=hww.symm
  by_cases hjl:j<3
  ·obtain⟨a,n,c,l,d1,hs,hup⟩:=HT.out.at hjl
   have hnl:l.length=n:=by rw[← hs.1,ints_length]
   have hmn:m+n=(upTo l1 l2 l3 (j+1)).length:=by rw[← hup,List.length_append,HM.out,hnl]
   have hmb:m+n≤70368744177664:=by rw[hmn];exact HU.out _
   have HMN:=hide hmn
   have e1:decide ((m:Int)+(n:Int)<0)=false:=by simp;omega
   clear hs hup hnl hmn
   go_wp2
   go_round
   ·exact⟨j+1,m+n,by omega,by go_num,by go_num,HMN,hmb,trivial⟩
   ·simp[intOf];omega
  ·obtain rfl:j=3:=by omega
   have HM3:m=(upTo l1 l2 l3 3).length:=HM.out
   have HGR:=hide (grow_any m w hm)
   clear HM HM3
   go_wp2_with fail
   refine HGR.out.mono ?_
   rintro e w1 ⟨v1,rfl,ho1,hb1⟩
   have HB1:=hide hb1
   have HO1:=hide ho1
   clear hb1 ho1 HGR
   go_wp2_with fail
   go_loopw [6,27] (fun s i w2=>∃ j:Nat,j≤3∧i=.int .i64 j∧Hid (w2.ownsRow w.heap.size 5 1 s (upTo l1 l2 l3 j).length (B8 (upTo l1 l2 l3 j)))∧Hid (Below w.heap.size w w2)) (fun _ i _=>3 - (intOf i).toNat)
   case atStart=>exact⟨0,by omega,rfl,HO1,HB1⟩
   case round =>
    obtain⟨j,hj,rfl,HO,HB⟩:=hrel
    by_cases hjl:j<3
    ·obtain⟨a,n,c,l,d1,hs,hup⟩:=HT.out.at hjl
     have d2:wr.cell? ⟨g,j,none⟩=some (.slice a n c):=by rw[HB.out.cell (p:=⟨g,j,none⟩) HG];exact d1
     have hnl:l.length=n:=by rw[← hs.1,ints_length]
     have hlim:(upTo l1 l2 l3 j).length+n≤140737488355328:=by
      have:=HU.out (j+1)
      rw[← hup,List.length_append,hnl] at this
      omega
     have HS:=hide (hs.below HB.out)
     have hsz:=HB.out.size
     have HUP:=hide hup
     clear d1 hs hup hnl
     go_wp2_with (at_builtin;refine wpList_app rfl _ _ rfl w.heap.size _ (upTo l1 l2 l3 j) rfl HO.out a n c l rfl HS.out hlim hsz (upTo l1 l2 l3 (j+1)) HUP.out ?_)
     intro v3 w3 hown has
     have hb3:Below w.heap.size w w3:=HB.out.trans (has.below hsz (fun k hk=>(owns_lt HO.out hk).1))
     have HB3:=hide hb3
     have HO3:=hide hown
     clear hb3 hown has
     go_wp2
     go_roundw
     case rel=>exact⟨j+1,by omega,by go_num,HO3,HB3⟩
     case measure=>simp[intOf];omega
    ·obtain rfl:j=3:=by omega
     go_wp2
     go_ret
     exact⟨_,rfl,HO.out,HB.out⟩
theorem owns_low {w:World} {B C:Nat} {e:TypeId} {s n:Nat} {v:Value} {xs:List Value} (h:w.ownsRow B e s v n xs) (hC:C≤B):w.ownsRow C e s v n xs:=owns_base h fun g hg=>Nat.le_trans hC (owns_lt h hg).1
theorem concat_new (w:World) (a1 a2 a3:Option Addr) (n1 n2 n3 c1 c2 c3:Nat) (l1 l2 l3:List Nat) (h1:Sl w .u8 a1 n1 c1 (ints l1)) (h2:Sl w .u8 a2 n2 c2 (ints l2)) (h3:Sl w .u8 a3 n3 c3 (ints l3)) (hn:n1+n2+n3≤70368744177664) :
  Calls Tryz.prog 33 #[.slice (some ⟨w.heap.size,0,none⟩) 3 3] (w.alloc (.cells #[.slice a1 n1 c1,.slice a2 n2 c2,.slice a3 n3 c3] 22)) fun e w'=>∃ v,e=.returned v∧w'.ownsRow w.heap.size 5 1 v (l1++l2++l3).length (B8 (l1++l2++l3))∧Below w.heap.size w w':=by
 obtain rfl:n1=l1.length:=by rw[← h1.1,ints_length]
 obtain rfl:n2=l2.length:=by rw[← h2.1,ints_length]
 obtain rfl:n3=l3.length:=by rw[← h3.1,ints_length]
 have hb:=below_one w (.cells #[.slice a1 l1.length c1,.slice a2 l2.length c2,.slice a3 l3.length c3] 22)
 refine (concat_any w.heap.size l1 l2 l3 _ ⟨by simp,⟨a1,c1,by simp,h1.below hb⟩,⟨a2,c2,by simp,h2.below hb⟩,⟨a3,c3,by simp,h3.below hb⟩⟩ (by simp;omega)).mono ?_
 rintro e w' ⟨v,rfl,ho,hb2⟩
 exact⟨v,rfl,owns_low ho (by simp),bthen hb hb2⟩
end Go.Proofs.YtnkpgmibhpmdhaaGreat
namespace Go.Proofs.YtnkpgmibhpmdhaaGreat
open Go.Shelf Go.RowKit Go.Lib Go.Sort
set_option maxRecDepth 1000000
set_option linter.unusedVariables false
namespace Y
variable {α : Type} [Inhabited α] (ef : α → α → Bool)
def kp (d:Array α) (j:Nat):Bool:=decide (j=0)||!ef d[j]! d[j - 1]!
def cpt (d:Array α) (m:Nat):List α:=((List.range m).filter (kp ef d)).map (d[·]!)
theorem cpt_succ (d:Array α) (m:Nat):cpt ef d (m+1)=cpt ef d m++(if kp ef d m then [d[m]!] else []):=by
 unfold cpt
 rw[List.range_succ,List.filter_append,List.map_append]
 congr 1
 by_cases h:kp ef d m<;>simp[h]
theorem cpt_all (d:Array α) (m:Nat) (h:∀ j,j<m→kp ef d j=true):cpt ef d m=(List.range m).map (d[·]!):=by
 unfold cpt
 rw[List.filter_eq_self.2 (fun j hj=>h j (List.mem_range.1 hj))]
theorem kp_first (d:Array α):∀ j,j<1→kp ef d j=true:=fun j hj=>by simp[kp,show j=0 by omega]
theorem kp_pos {d:Array α} {m:Nat} (h:ef d[m]! d[m - 1]! = false):kp ef d m=true:=by simp[kp,h]
theorem kp_neg {d:Array α} {m:Nat} (hm:0<m) (h:ef d[m]! d[m - 1]! = true):kp ef d m=false:=by simp[kp,h,show m≠0 by omega]
variable {ef}
structure CI (ef:α→α→Bool) (d:Array α) (m k:Nat) (dk:Array α):Prop where
 size:dk.size=d.size
 len:(cpt ef d m).length=k
 lt:k<m
 low:∀ j,j<k→(cpt ef d m)[j]?=some dk[j]!
 high:∀ j,k≤j→dk[j]! = d[j]!
theorem CI.start {d:Array α} {k0:Nat} (hall:∀ j,j<k0→kp ef d j=true) (hdup:kp ef d k0=false):CI ef d (k0+1) k0 d where
 size:=rfl
 len:=by rw[cpt_succ,hdup,cpt_all ef d k0 hall];simp
 lt:=Nat.lt_succ_self _
 low:=fun j hj=>by rw[cpt_succ,hdup,cpt_all ef d k0 hall];simp[hj]
 high:=fun _ _=>rfl
theorem CI.keep {d dk:Array α} {m k:Nat} (h:CI ef d m k dk) (hm:m<d.size) (hk:kp ef d m=true):CI ef d (m+1) (k+1) (dk.setIfInBounds k d[m]!) where
 size:=by simp[h.size]
 len:=by rw[cpt_succ,hk];simp[h.len]
 lt:=by have:=h.lt;omega
 low:=fun j hj=>by
  have hl:=h.lt
  have hs:=h.size
  rw[cpt_succ,hk]
  by_cases e:j=k
  ·subst e
   rw[getElem!_set_same dk j _ (by omega),if_pos rfl,List.getElem?_append_right (by rw[h.len];omega),h.len];simp
  ·rw[getElem!_set_other dk k j _ e,List.getElem?_append_left (by rw[h.len];omega)];exact h.low j (by omega)
 high:=fun j hj=>by rw[getElem!_set_other dk k j _ (by omega)];exact h.high j (by omega)
theorem CI.skip {d dk:Array α} {m k:Nat} (h:CI ef d m k dk) (hk:kp ef d m=false):CI ef d (m+1) k dk where
 size:=h.size
 len:=by rw[cpt_succ,hk];simp[h.len]
 lt:=by have:=h.lt;omega
 low:=fun j hj=>by rw[cpt_succ,hk];simpa using h.low j hj
 high:=h.high
end Y
section
variable {P : Program} {α : Type} [Inhabited α]
theorem flat_set (enc:α→List Value) (k:Nat) (hk:∀ x,(enc x).length=k) (d:Array α) (i:Nat) (y:α) (hi:i<d.size):setMany (flatK enc k d) (i*k) (enc y)=flatK enc k (d.setIfInBounds i y):=by
 refine ext_get! (by simp) fun t ht=>?_
 have ht':t<d.size*k:=by simpa using ht
 have k0:0<k:=by
  rcases Nat.eq_zero_or_pos k with h|h
  ·subst h;simp at ht'
  ·exact h
 rw[get_setMany _ _ _ t (by simpa using ht'),get_flatK _ _ _ t ht',get_flatK _ _ _ t (by simpa using ht'),hk]
 by_cases a:t / k=i
 ·rw[if_pos ((blk_iff k i t k0).2 a)]
  have:t - i*k=t%k:=by subst a;rw[Nat.mod_eq_sub_div_mul]
  rw[this,a,getElem!_set_same d i y hi]
 ·rw[if_neg (fun h=>a ((blk_iff k i t k0).1 h)),getElem!_set_other d i _ y a]
theorem swk_set {enc:α→List Value} {k:Nat} {w0 W:World} {blk off:Nat} {dk:Array α} (h:SWK enc k w0 blk off dk W) (hk:∀ x,(enc x).length=k) (hblk:blk<w0.heap.size) (i:Nat) (hi:i<dk.size) (y:α) :
  SWK enc k w0 blk off (dk.setIfInBounds i y) (W.setCells blk (off+i*k) (enc y)):=by
 obtain⟨n,os,rfl⟩:=h
 refine⟨n,os,?_⟩
 unfold sortWorldK
 rw[setCells_grow os blk _ _ _ (by rw[size_putRowK];exact hblk)]
 congr 1
 unfold putRowK
 rw[setCells_putRow _ _ _ _ _ _ (by rw[hk,size_flatK];exact rowK_bnd dk k i hi),flat_set enc k hk dk i y hi]
theorem setCells_app (b:Nat):∀ (x y:List Value) (o:Nat) (w:World),w.setCells b o (x++y)=(w.setCells b o x).setCells b (o+x.length) y
 | [],y,o,w=>by simp[World.setCells]
 | v :: x,y,o,w=>by
  simp only[List.cons_append,World.setCells,List.length_cons]
  rw[setCells_app b x y,show o+1+x.length=o+(x.length+1) by omega]
theorem zeros_succ (z:Array Value) (n:Nat):(Builtin.zeroCells z (n+1)).toList=z.toList++(Builtin.zeroCells z n).toList:=by
 apply List.ext_getElem
 ·simp[Builtin.zeroCells,Nat.add_mul];omega
 ·intro i h1 h2
  simp only[Builtin.zeroCells,Array.toList_map,List.getElem_map,Array.getElem_toList,Array.getElem_range]
  by_cases h:i<z.size
  ·rw[List.getElem_append_left (by simpa using h)]
   simp[Nat.mod_eq_of_lt h,h]
  ·rw[List.getElem_append_right (by simpa using h)]
   simp only[List.getElem_map,Array.getElem_toList,Array.getElem_range,Array.length_toList]
   rw[Nat.mod_eq_sub_mod (by omega)]
theorem swk_cleared {enc:α→List Value} {k:Nat} {w0:World} {blk off:Nat} (hk:∀ x,(enc x).length=k) (hblk:blk<w0.heap.size) (zr:α):∀ (c i:Nat) (dk:Array α) (W:World),SWK enc k w0 blk off dk W→i+c≤dk.size →
  ∃ d',d'.size=dk.size∧SWK enc k w0 blk off d' (W.setCells blk (off+i*k) (Builtin.zeroCells (enc zr).toArray c).toList)∧∀ x,x<i→d'[x]! = dk[x]!
 | 0,i,dk,W,h,hi=>⟨dk,rfl,by simpa [Builtin.zeroCells,World.setCells] using h,fun _ _=>rfl⟩
 | c+1,i,dk,W,h,hi=>by
  obtain⟨d',h1,h2,h3⟩:=swk_cleared hk hblk zr c (i+1) _ _ (swk_set h hk hblk i (by omega) zr) (by simp;omega)
  refine⟨d',by rw[h1];simp,?_,fun x hx=>by rw[h3 x (by omega),getElem!_set_other dk i x _ (by omega)]⟩
  rw[zeros_succ,setCells_app]
  simpa [hk,Nat.add_mul,Nat.add_assoc] using h2
theorem zeros_one {β:Type} (enc:β→List Value) (h1:∀ x,∀ v∈enc x,v.oneCell'=true) (zr:β):∀ (c:Nat),∀ v∈(Builtin.zeroCells (enc zr).toArray c).toList,v.oneCell'=true
 | 0,v,hv=>by simp[Builtin.zeroCells] at hv
 | c+1,v,hv=>by
  rw[zeros_succ] at hv
  rcases List.mem_append.1 hv with hv|hv
  ·exact h1 zr v (by simpa using hv)
  ·exact zeros_one enc h1 zr c v hv
theorem zeros_len {β:Type} (enc:β→List Value) (k:Nat) (hk:∀ x,(enc x).length=k) (zr:β) (c:Nat):(Builtin.zeroCells (enc zr).toArray c).toList.length=c*k:=by simp[Builtin.zeroCells,hk]
theorem run_clear_k (w:World) (t e ty:TypeId) (z:Value) (ht:P.underlying t=some (.slice e)) (hv:∀ w,(zeroValue e).run P w=.ok z w) (b o n c:Nat) (hn:0<n) (w':World)
  (hst:(storeCells ⟨b,o,none⟩ (Builtin.zeroCells z.cells n).toList 0).run P w=.ok () w'):(Builtin.clear_ #[t] ty #[.slice (some ⟨b,o,none⟩) n c]).run P w=.ok (.tuple #[]) w':=by
 obtain⟨m,rfl⟩:∃ m,n=m+1:=⟨n - 1,by omega⟩
 simp[Builtin.clear_,run_underlying ht,hv,hst]
def EqLays (P:Program) (g:Nat) (cb:Array Value) (enc:α→List Value) (k:Nat) (ef:α→α→Bool) (blk off size:Nat) (w:World):Prop :=
 ∀ (m:Nat) (os:Array Obj) (dk:Array α),dk.size=size→∀ x y:α,
  Calls P g (#[.agg (enc x).toArray,.agg (enc y).toArray]++cb) (sortWorldK enc k w blk off m dk os) fun e w'=>e=.returned (.bool (ef x y))∧∃ q os',w'=grow ((sortWorldK enc k w blk off m dk os).drewN q) os'
theorem swk_eql {enc:α→List Value} {k:Nat} {w0 W:World} {blk off:Nat} {dk:Array α} {g:Nat} {cb:Array Value} {ef:α→α→Bool} {size:Nat} (h:SWK enc k w0 blk off dk W) (hC:EqLays P g cb enc k ef blk off size w0) (hs:dk.size=size) (x y:α) (n:Nat) (os:Array Obj) :
  Calls P g (#[.agg (enc x).toArray,.agg (enc y).toArray]++cb) (grow (W.drewN n) os) fun e w'=>e=.returned (.bool (ef x y))∧∃ q os',w'=grow ((grow (W.drewN n) os).drewN q) os':=by
 obtain⟨m,os0,hw⟩:=h.grown n os
 rw[hw]
 exact hC m os0 dk hs x y
set_option maxHeartbeats 16000000 in
theorem compactV (LY:LayV P) (tAl:P.underlying 240=some (TypeDesc.func #[25,25] #[4] false)) (aAl:∀ w,(isAgg 240).run P w=.ok false w) (zAl:∀ w,(Go.sizeOf 240).run P w=.ok 1 w) (Fc:P.funcs[204]?=some Tryz.f204) (k:Nat) (aE:∀ w,(isAgg 25).run P w=.ok true w) (zE:∀ w,(Go.sizeOf 25).run P w=.ok k w) (enc:α→List Value) (ef:α→α→Bool) (zr:α) (z0:∀ w,(zeroValue 25).run P w=.ok (.agg (enc zr).toArray) w) (zc:(Value.agg (enc zr).toArray).cells=(enc zr).toArray) (g:Nat) (cb:Array Value) (blk off cap:Nat) (d:Array α) (w:World)
  (R:RowK enc k w blk off d) (eg:∀ args w,(callFunc g args).run P w=.ok (.enter g args) w) (heq:EqLays P g cb enc k ef blk off d.size w) (h2:2≤d.size) (hcap:d.size≤cap) (hsz:d.size<1152921504606846976) :
  Calls P 204 #[.slice (some ⟨blk,off,none⟩) d.size cap,.func (.func g) #[] cb] w fun e w'=>e=.returned (.slice (some ⟨blk,off,none⟩) (Y.cpt ef d d.size).length cap)∧∃ d',d'.size=d.size∧SWK enc k w blk off d' w'∧∀ x,x<(Y.cpt ef d d.size).length→(Y.cpt ef d d.size)[x]?=some d'[x]! := by
 have mixed:=LY.mixed;have tUnit:=LY.tUnit;have aUnit:=LY.aUnit;have zUnit:=LY.zUnit;have vUnit:=LY.vUnit;have tInt:=LY.tInt;have aInt:=LY.aInt;have zInt:=LY.zInt;have vInt:=LY.vInt;have tBool:=LY.tBool;have aBool:=LY.aBool;have zBool:=LY.zBool;have vBool:=LY.vBool;have tUint:=LY.tUint;have aUint:=LY.aUint;have zUint:=LY.zUint;have vUint:=LY.vUint;have tSl:=LY.tSl;have aSl:=LY.aSl;have zSl:=LY.zSl;have vSl:=LY.vSl;have tFn:=LY.tFn;have aFn:=LY.aFn;have zFn:=LY.zFn;have vFn:=LY.vFn
 have uSl:=run_underlying LY.tSl
 have HC:Aside _:=heq
 have HZ:Aside _:=z0
 have S0:Aside (SWK enc k w blk off d w):=SWK.start R.hH
 have A0:Aside (∀ j,j<1→Y.kp ef d j=true):=Y.kp_first ef d
 clear heq z0
 go_enter Fc,Tryz.ntmps204
 go_wp2
 go_loopg [5] d.size (fun kx s5 wr=>∃ c:Nat,s5=.int .i64 c∧1≤c∧c≤d.size∧d.size - c≤kx∧Aside (SWK enc k w blk off d wr)∧Aside (∀ j,j<c→Y.kp ef d j=true))
 case atStart=>exact⟨1,rfl,Nat.le_refl _,by omega,by omega,S0,A0⟩
 case round =>
  clear S0 A0
  obtain⟨c,rfl,hc1,hcn,hkx,S1,A1⟩:=hrel
  by_cases hlt:(c:Int)<(d.size:Int)
  ·obtain⟨r,hr⟩:∃ r,r+1=c:=⟨c - 1,by omega⟩
   have zr1:(c:Int) - 1=(r:Int):=by omega
   cases hlv:ef d[c]! d[r]! with
   | false =>
    have ea1:((c:Int)).toNat=c:=by omega
    have pa1:(0:Int)≤(c:Int):=by omega
    have ba1:(c:Int)<(d.size:Int):=by omega
    have ra1:IntKind.i64.wrap ((c:Int))=(c:Int):=by rw[IntKind.wrap_i64];omega
    have ec1:((r:Int)).toNat=r:=by omega
    have pc1:(0:Int)≤(r:Int):=by omega
    have bc1:(r:Int)<(d.size:Int):=by omega
    have rc1:IntKind.i64.wrap ((r:Int))=(r:Int):=by rw[IntKind.wrap_i64];omega
    obtain⟨x1,hx1⟩:∃ x,x=d[c]! := ⟨_,rfl⟩
    obtain⟨y1,hy1⟩:∃ x,x=d[r]! := ⟨_,rfl⟩
    have l1a:=S1.out.ld R (by omega) P (c) (by omega)
    have l1b:=S1.out.ld R (by omega) P (r) (by omega)
    rw[← hx1] at l1a
    rw[← hy1] at l1b
    have hc1:=swk_eql S1.out HC.out (by omega) x1 y1
    have hd1:ef x1 y1=false:=by rw[hx1,hy1];exact hlv
    rw[hd1] at hc1
    clear hx1 hy1 hd1
    go_wp2_with fail
    go_quiet_grown (first|(go_at_fn g;refine Calls.grown_of (hc1 _ _)))
    have S2:Aside (SWK enc k w blk off d (grow (wr.drewN nq) osq)):=S1.out.grown nq osq
    clear l1a l1b hc1 S1
    generalize grow (wr.drewN nq) osq=w2 at S2 ⊢
    clear nq osq
    clear ea1 ec1
    have A2:Aside (∀ j,j<c+1→Y.kp ef d j=true):=fun j hj=>(by
     by_cases e:j=c
     ·subst e;exact Y.kp_pos ef (by rw[show j - 1=r by omega];exact hlv)
     ·exact A1.out j (by omega))
    clear A1
    go_wp2
    go_roundg (d.size - (c+1))
    case measure=>omega
    case rel=>exact⟨c+1,by first|rfl|go_num,by omega,by omega,Nat.le_refl _,S2,A2⟩
   | true =>
    have ea2:((c:Int)).toNat=c:=by omega
    have pa2:(0:Int)≤(c:Int):=by omega
    have ba2:(c:Int)<(d.size:Int):=by omega
    have ra2:IntKind.i64.wrap ((c:Int))=(c:Int):=by rw[IntKind.wrap_i64];omega
    have ec2:((r:Int)).toNat=r:=by omega
    have pc2:(0:Int)≤(r:Int):=by omega
    have bc2:(r:Int)<(d.size:Int):=by omega
    have rc2:IntKind.i64.wrap ((r:Int))=(r:Int):=by rw[IntKind.wrap_i64];omega
    obtain⟨x2,hx2⟩:∃ x,x=d[c]! := ⟨_,rfl⟩
    obtain⟨y2,hy2⟩:∃ x,x=d[r]! := ⟨_,rfl⟩
    have l2a:=S1.out.ld R (by omega) P (c) (by omega)
    have l2b:=S1.out.ld R (by omega) P (r) (by omega)
    rw[← hx2] at l2a
    rw[← hy2] at l2b
    have hc2:=swk_eql S1.out HC.out (by omega) x2 y2
    have hd2:ef x2 y2=true:=by rw[hx2,hy2];exact hlv
    rw[hd2] at hc2
    clear hx2 hy2 hd2
    go_wp2_with fail
    go_quiet_grown (first|(go_at_fn g;refine Calls.grown_of (hc2 _ _)))
    have S2:Aside (SWK enc k w blk off d (grow (wr.drewN nq) osq)):=S1.out.grown nq osq
    clear l2a l2b hc2 S1
    generalize grow (wr.drewN nq) osq=w2 at S2 ⊢
    clear nq osq
    clear ea2 ec2
    have I0:Aside (Y.CI ef d (c+1) c d):=Y.CI.start A1.out (Y.kp_neg ef (by omega) (by rw[show c - 1=r by omega];exact hlv))
    clear A1 zr1
    go_wp2
    go_loopg [5,7] d.size (fun kx s5 s7 wr=>∃ (q j:Nat) (dk:Array α),s5=.int .i64 q∧s7=.int .i64 j∧1≤j∧c+j≤d.size∧d.size - (c+j)≤kx∧q<c+j∧dk.size=d.size∧Aside (SWK enc k w blk off dk wr)∧Aside (Y.CI ef d (c+j) q dk))
    case atStart=>exact⟨c,1,d,rfl,rfl,Nat.le_refl _,by omega,by omega,by omega,rfl,S2,I0⟩
    case round =>
     clear S2 I0
     obtain⟨q,j,dk,rfl,rfl,hj1,hjn,hkj,hqj,hdk,S3,I3⟩:=hrel
     by_cases hlt2:c+j<d.size
     ·obtain⟨r2,hr2⟩:∃ r,r+1=j:=⟨j - 1,by omega⟩
      have zr2:(j:Int) - 1=(r2:Int):=by omega
      have zl:(j:Int)<((d.size - c:Nat):Int):=by omega
      have zl2:(j:Int)<(d.size:Int) - (c:Int):=by omega
      have zl3:(r2:Int)<((d.size - c:Nat):Int):=by omega
      have hu:Hid (dk[c+j]! = d[c+j]!):=I3.out.high _ (by omega)
      have hv:Hid (dk[c+r2]! = d[c+r2]!):=I3.out.high _ (by omega)
      cases hlv:ef dk[c+j]! dk[c+r2]! with
      | true =>
       have ea3:((j:Int)).toNat=j:=by omega
       have pa3:(0:Int)≤(j:Int):=by omega
       have ba3:(j:Int)<(d.size:Int):=by omega
       have ra3:IntKind.i64.wrap ((j:Int))=(j:Int):=by rw[IntKind.wrap_i64];omega
       have ec3:((r2:Int)).toNat=r2:=by omega
       have pc3:(0:Int)≤(r2:Int):=by omega
       have bc3:(r2:Int)<(d.size:Int):=by omega
       have rc3:IntKind.i64.wrap ((r2:Int))=(r2:Int):=by rw[IntKind.wrap_i64];omega
       obtain⟨x3,hx3⟩:∃ x,x=dk[c+j]! := ⟨_,rfl⟩
       obtain⟨y3,hy3⟩:∃ x,x=dk[c+r2]! := ⟨_,rfl⟩
       have l3a:=S3.out.ld R (by omega) P (c+j) (by omega)
       have l3b:=S3.out.ld R (by omega) P (c+r2) (by omega)
       rw[show off+(c+j)*k=off+c*k+j*k by rw[Nat.add_mul,Nat.add_assoc]] at l3a
       rw[show off+(c+r2)*k=off+c*k+r2*k by rw[Nat.add_mul,Nat.add_assoc]] at l3b
       rw[← hx3] at l3a
       rw[← hy3] at l3b
       have hc3:=swk_eql S3.out HC.out (by omega) x3 y3
       have hd3:ef x3 y3=true:=by rw[hx3,hy3];exact hlv
       rw[hd3] at hc3
       clear hx3 hy3 hd3
       go_wp2_with fail
       go_quiet_grown (first|(go_at_fn g;refine Calls.grown_of (hc3 _ _)))
       have S4:Aside (SWK enc k w blk off dk (grow (wr.drewN nq) osq)):=S3.out.grown nq osq
       clear l3a l3b hc3 S3
       generalize grow (wr.drewN nq) osq=w4 at S4 ⊢
       clear nq osq
       clear ea3 ec3
       have I4:Aside (Y.CI ef d (c+(j+1)) q dk):=I3.out.skip (Y.kp_neg ef (by omega) (by rw[show c+j - 1=c+r2 by omega,← hu.out,← hv.out];exact hlv))
       clear I3 hu hv
       go_wp2
       go_roundg (d.size - (c+(j+1)))
       case measure=>omega
       case rel=>exact⟨q,j+1,dk,rfl,by first|rfl|go_num,by omega,by omega,Nat.le_refl _,by omega,hdk,S4,I4⟩
      | false =>
       have ea4:((j:Int)).toNat=j:=by omega
       have pa4:(0:Int)≤(j:Int):=by omega
       have ba4:(j:Int)<(d.size:Int):=by omega
       have ra4:IntKind.i64.wrap ((j:Int))=(j:Int):=by rw[IntKind.wrap_i64];omega
       have ec4:((r2:Int)).toNat=r2:=by omega
       have pc4:(0:Int)≤(r2:Int):=by omega
       have bc4:(r2:Int)<(d.size:Int):=by omega
       have rc4:IntKind.i64.wrap ((r2:Int))=(r2:Int):=by rw[IntKind.wrap_i64];omega
       obtain⟨x4,hx4⟩:∃ x,x=dk[c+j]! := ⟨_,rfl⟩
       obtain⟨y4,hy4⟩:∃ x,x=dk[c+r2]! := ⟨_,rfl⟩
       have l4a:=S3.out.ld R (by omega) P (c+j) (by omega)
       have l4b:=S3.out.ld R (by omega) P (c+r2) (by omega)
       rw[show off+(c+j)*k=off+c*k+j*k by rw[Nat.add_mul,Nat.add_assoc]] at l4a
       rw[show off+(c+r2)*k=off+c*k+r2*k by rw[Nat.add_mul,Nat.add_assoc]] at l4b
       rw[← hx4] at l4a
       rw[← hy4] at l4b
       have hc4:=swk_eql S3.out HC.out (by omega) x4 y4
       have hd4:ef x4 y4=false:=by rw[hx4,hy4];exact hlv
       rw[hd4] at hc4
       clear hx4 hy4 hd4
       go_wp2_with fail
       go_quiet_grown (first|(go_at_fn g;refine Calls.grown_of (hc4 _ _)))
       have S4:Aside (SWK enc k w blk off dk (grow (wr.drewN nq) osq)):=S3.out.grown nq osq
       clear l4a l4b hc4 S3
       generalize grow (wr.drewN nq) osq=w4 at S4 ⊢
       clear nq osq
       clear ea4 ec4
       have I4:Aside (Y.CI ef d (c+(j+1)) (q+1) (dk.setIfInBounds q d[c+j]!)):=I3.out.keep (by omega) (Y.kp_pos ef (by rw[show c+j - 1=c+r2 by omega,← hu.out,← hv.out];exact hlv))
       have L4:=S4.out.load R (by omega) P (c+j) (by omega)
       rw[show off+(c+j)*k=off+c*k+j*k by rw[Nat.add_mul,Nat.add_assoc],hu.out] at L4
       have n4:(enc d[c+j]!).length=k:=R.hk _
       have T4:Sem.run P (storeCells ⟨blk,off+q*k,none⟩ (enc d[c+j]!) 0) w4=.ok () (w4.setCells blk (off+q*k) (enc d[c+j]!)):=stores_of_holds P (S4.out.holds R.hblk R.hH (by omega)) (q*k) _ (by rw[R.hk,size_flatK];exact rowK_bnd dk k q (by omega)) (R.h1 _)
       have S5:Aside (SWK enc k w blk off (dk.setIfInBounds q d[c+j]!) (w4.setCells blk (off+q*k) (enc d[c+j]!))):=swk_set S4.out R.hk R.hblk q (by omega) _
       generalize enc d[c+j]! = ec at L4 n4 T4 S5
       clear I3 hu hv S4
       have pq:(q:Int)<(d.size:Int):=by omega
       have eq:((q:Int)).toNat=q:=by omega
       have ej:((j:Int)).toNat=j:=by omega
       go_wp2
       go_roundg (d.size - (c+(j+1)))
       case measure=>omega
       case rel=>exact⟨q+1,j+1,dk.setIfInBounds q d[c+j]!,by first|rfl|go_num,by first|rfl|go_num,by omega,by omega,Nat.le_refl _,by omega,by simp[hdk],S5,I4⟩
     ·have hend:Hid (c+j=d.size):=(by omega:c+j=d.size)
      have zl:¬ (j:Int)<((d.size - c:Nat):Int):=by omega
      have zl2:¬ (j:Int)<(d.size:Int) - (c:Int):=by omega
      have hT:Sem.run P (storeCells ⟨blk,off+q*k,none⟩ (Builtin.zeroCells (enc zr).toArray (d.size - q)).toList 0) wr=.ok () (wr.setCells blk (off+q*k) (Builtin.zeroCells (enc zr).toArray (d.size - q)).toList):=stores_of_holds P (S3.out.holds R.hblk R.hH (by omega)) (q*k) _ (by rw[zeros_len enc k R.hk,size_flatK,hdk,← Nat.add_mul,show q+(d.size - q)=d.size by omega];exact Nat.le_refl _) (zeros_one enc R.h1 zr _)
      have hcl:∀ ty,(Builtin.clear_ #[42] ty #[.slice (some ⟨blk,off+q*k,none⟩) (d.size - q) (cap - q)]).run P wr=.ok (.tuple #[]) (wr.setCells blk (off+q*k) (Builtin.zeroCells (enc zr).toArray (d.size - q)).toList):=fun ty=>run_clear_k wr _ _ ty _ tSl HZ.out blk _ _ _ (by omega) _ (by rw[zc];exact hT)
      obtain⟨d5,hd5,s5,hx5⟩:=swk_cleared R.hk R.hblk zr (d.size - q) q dk wr S3.out (by omega)
      have S5:Aside _:=s5
      have X5:Aside _:=hx5
      clear hT s5 hx5 S3
      generalize wr.setCells blk (off+q*k) (Builtin.zeroCells (enc zr).toArray (d.size - q)).toList=w5 at S5 hcl
      have hq2:q≤d.size:=by omega
      go_wp2
      go_ret
      have hI:=I3.out
      rw[hend.out] at hI
      exact⟨by rw[hI.len];rfl,d5,by omega,S5.out,fun x hx=>by rw[hI.len] at hx;rw[hI.low x hx,X5.out x hx]⟩
  ·obtain rfl:c=d.size:=by omega
   have hall:=Y.cpt_all ef d d.size A1.out
   have E:Hid ((Y.cpt ef d d.size).length=d.size∧∀ x,x<d.size→(Y.cpt ef d d.size)[x]?=some d[x]!):=⟨by rw[hall];simp,fun x hx=>by rw[hall];simp[hx]⟩
   clear hall A1
   go_wp2
   go_ret
   exact⟨by rw[E.out.1];rfl,d,rfl,S1.out,fun x hx=>E.out.2 x (by rw[E.out.1] at hx;exact hx)⟩
end
end Go.Proofs.YtnkpgmibhpmdhaaGreat
namespace Go.Proofs.YtnkpgmibhpmdhaaGreat
open Go.RowKit Go.Sort
def efL (l : List Z.V) (i j : Nat) : Bool := decide (cfL l i j = 0)
structure Srt (l : List Z.V) (dk : Array Nat) : Prop where
  size : dk.size = l.length
  ord : ∀ i j, i < j → j < l.length → Z.cv (l.getD dk[i]! Z.o) (l.getD dk[j]! Z.o) ≤ 0 ∧ (Z.cv (l.getD dk[i]! Z.o) (l.getD dk[j]! Z.o) = 0 → dk[i]! ≤ dk[j]!)
  lt : ∀ p, p < l.length → dk[p]! < l.length
  onto : ∀ i, i < l.length → ∃ p, p < l.length ∧ dk[p]! = i
theorem lx_false {α : Type} {lt : α → α → Bool} {lab : α → Nat} {x y : α} (h : Y.lx lt lab x y = false) : lt x y = false ∧ (lt y x = true ∨ ¬ lab x < lab y) := by
  simp only [Y.lx, Bool.or_eq_false_iff, Bool.and_eq_false_iff, Bool.not_eq_false', decide_eq_false_iff_not] at h
  exact h
theorem srt_of {l : List Z.V} {dk : Array Nat} (h1 : PermIn 0 l.length (Array.range l.length) dk) (h2 : SortedIn (Y.lx (ltOf (cfL l)) id) 0 l.length dk) : Srt l dk := by
  have hs : dk.size = l.length := by rw [h1.1]; simp
  have hp := h1.2.2
  rw [extract_toList dk 0 l.length (by omega), extract_toList _ 0 l.length (by simp)] at hp
  simp only [Nat.sub_zero] at hp
  have hr : (List.range' 0 l.length).map (fun i => (Array.range l.length)[i]!) = List.range' 0 l.length := by
    apply List.ext_getElem
    · simp
    · intro i a b
      have : i < l.length := by simpa using a
      simp [this]
  rw [hr] at hp
  refine ⟨hs, fun i j hij hj => ?_, fun p hlt => ?_, fun i hi => ?_⟩
  · have h := h2 i j (Nat.zero_le _) hij hj
    obtain ⟨h3, h4⟩ := lx_false h
    have h3 : ¬ Z.cv (l.getD dk[j]! Z.o) (l.getD dk[i]! Z.o) < 0 := of_decide_eq_false h3
    have e := cv_anti (l.getD dk[i]! Z.o) (l.getD dk[j]! Z.o)
    refine ⟨by omega, fun h0 => ?_⟩
    rcases h4 with h4 | h4
    · have h4 : Z.cv (l.getD dk[i]! Z.o) (l.getD dk[j]! Z.o) < 0 := of_decide_eq_true h4
      omega
    · have h4 : ¬ dk[j]! < dk[i]! := h4
      omega
  · have : dk[p]! ∈ List.range' 0 l.length := hp.mem_iff.1 (List.mem_map.2 ⟨p, List.mem_range'_1.2 ⟨Nat.zero_le _, by omega⟩, rfl⟩)
    have := (List.mem_range'_1.1 this).2
    omega
  · have : i ∈ (List.range' 0 l.length).map (fun i => dk[i]!) := hp.mem_iff.2 (List.mem_range'_1.2 ⟨Nat.zero_le _, by omega⟩)
    obtain ⟨p, hp1, hp2⟩ := List.mem_map.1 this
    exact ⟨p, by have := (List.mem_range'_1.1 hp1).2; omega, hp2⟩
def cw (l : List Z.V) (dk : Array Nat) : List Z.V := (Y.cpt (efL l) dk l.length).map fun i => l.getD i Z.o
theorem cw_eq (l : List Z.V) (dk : Array Nat) : cw l dk = ((List.range l.length).filter (Y.kp (efL l) dk)).map fun p => l.getD dk[p]! Z.o := by
  unfold cw Y.cpt; rw [List.map_map]; rfl
theorem kp_iff (l : List Z.V) (dk : Array Nat) (p : Nat) : Y.kp (efL l) dk p = true ↔ p = 0 ∨ Z.cv (l.getD dk[p]! Z.o) (l.getD dk[p - 1]! Z.o) ≠ 0 := by
  unfold Y.kp efL cfL
  simp
theorem cw_words {l : List Z.V} {dk : Array Nat} (h : Srt l dk) : Z.Words l (cw l dk) := by
  have le : ∀ i j, i ≤ j → j < l.length → Z.cv (l.getD dk[i]! Z.o) (l.getD dk[j]! Z.o) ≤ 0 := fun i j hij hj => by
    by_cases e : i = j
    · subst e; have := cv_anti (l.getD dk[i]! Z.o) (l.getD dk[i]! Z.o); omega
    · exact (h.ord i j (by omega) hj).1
  refine ⟨?_, fun v hv => ?_, fun y hy => ?_⟩
  · unfold Z.Rise
    rw [cw_eq, List.pairwise_map]
    refine List.Pairwise.imp_of_mem ?_ (List.Pairwise.filter _ List.pairwise_lt_range)
    intro a b ha hb hab
    obtain ⟨hb1, hb2⟩ := List.mem_filter.1 hb
    have hbn := List.mem_range.1 hb1
    rcases (kp_iff l dk b).1 hb2 with e | e
    · omega
    · have g1 := le a (b - 1) (by omega) (by omega)
      have g2 := le (b - 1) b (by omega) hbn
      have g3 := cv_anti (l.getD dk[b]! Z.o) (l.getD dk[b - 1]! Z.o)
      exact cv_le_lt g1 (by omega)
  · obtain ⟨i, hi, rfl⟩ := List.getElem_of_mem hv
    obtain ⟨p, hp, hpi⟩ := h.onto i hi
    have key : ∀ p, p < l.length → ∃ y ∈ cw l dk, Z.cv y (l.getD dk[p]! Z.o) = 0 := by
      intro p
      induction p with
      | zero => intro h0; refine ⟨l.getD dk[0]! Z.o, ?_, ?_⟩
                · rw [cw_eq]; exact List.mem_map.2 ⟨0, List.mem_filter.2 ⟨List.mem_range.2 h0, (kp_iff l dk 0).2 (Or.inl rfl)⟩, rfl⟩
                · have := cv_anti (l.getD dk[0]! Z.o) (l.getD dk[0]! Z.o); omega
      | succ p ih =>
        intro h0
        by_cases hk : Y.kp (efL l) dk (p + 1) = true
        · refine ⟨l.getD dk[p + 1]! Z.o, ?_, ?_⟩
          · rw [cw_eq]; exact List.mem_map.2 ⟨p + 1, List.mem_filter.2 ⟨List.mem_range.2 h0, hk⟩, rfl⟩
          · have := cv_anti (l.getD dk[p + 1]! Z.o) (l.getD dk[p + 1]! Z.o); omega
        · have e : Z.cv (l.getD dk[p + 1]! Z.o) (l.getD dk[p]! Z.o) = 0 := by
            rw [kp_iff] at hk
            by_cases e : Z.cv (l.getD dk[p + 1]! Z.o) (l.getD dk[p]! Z.o) = 0
            · exact e
            · exact absurd (Or.inr e) hk
          obtain ⟨y, hy, hv⟩ := ih (by omega)
          exact ⟨y, hy, cv_eq_trans hv (cv_eq_sym e)⟩
    have := key p hp
    rw [hpi, List.getD_eq_getElem?_getD, List.getElem?_eq_getElem hi] at this
    exact this
  · rw [cw_eq] at hy
    obtain ⟨p, hp, rfl⟩ := List.mem_map.1 hy
    obtain ⟨hp1, hp2⟩ := List.mem_filter.1 hp
    have hpn := List.mem_range.1 hp1
    have hlt := h.lt p hpn
    have hself := cv_anti (l.getD dk[p]! Z.o) (l.getD dk[p]! Z.o)
    rw [List.find?_eq_some_iff_getElem]
    refine ⟨decide_eq_true (by omega), dk[p]!, hlt, by rw [List.getD_eq_getElem?_getD, List.getElem?_eq_getElem hlt]; rfl, fun j hj => ?_⟩
    have hjl : j < l.length := by omega
    have ej : l[j] = l.getD j Z.o := by rw [List.getD_eq_getElem?_getD, List.getElem?_eq_getElem hjl]; rfl
    rw [ej]
    by_cases e : Z.cv (l.getD j Z.o) (l.getD dk[p]! Z.o) = 0
    · exfalso
      obtain ⟨q, hq, rfl⟩ := h.onto j hjl
      have hqp : q < p := by
        rcases Nat.lt_trichotomy q p with h1 | h1 | h1
        · exact h1
        · subst h1; omega
        · have := (h.ord p q h1 hq).2 (cv_eq_sym e); omega
      rcases (kp_iff l dk p).1 hp2 with e2 | e2
      · omega
      · have g1 := le q (p - 1) (by omega) (by omega)
        have g2 := le (p - 1) p (by omega) hpn
        have g3 := cv_anti (l.getD dk[p]! Z.o) (l.getD dk[p - 1]! Z.o)
        have g4 := cv_le_lt g1 (show Z.cv (l.getD dk[p - 1]! Z.o) (l.getD dk[p]! Z.o) < 0 by omega)
        omega
    · rw [decide_eq_false e]; rfl
theorem cw_wds {l : List Z.V} {dk : Array Nat} (h : Srt l dk) : cw l dk = Z.wds l := words_uniq (cw_words h) (words_of l)
end Go.Proofs.YtnkpgmibhpmdhaaGreat

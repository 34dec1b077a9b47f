/- Contracts and plain facts, one behind the other: WH WI WJ WK WL -/
import Derived.Test.YtnkpgmibhpmdhaaGreatBeBA
namespace Go.Proofs.YtnkpgmibhpmdhaaGreat
set_option linter.unusedVariables false
set_option maxRecDepth 10000
open Go.RowKit Go.Sort
theorem Tryz.infoInt:(Tryz.prog.info? 3).map (fun i=>(i.zero,i.size,i.bytes))=some (some (.int .i64 0),1,8):=by kernel_rfl
def encF {n:Nat} (x:Fin (n+1)):Value:=.int .i64 (x.val:Int)
def cfF (ws:List Z.V) {n:Nat} (x y:Fin (n+1)):Int:=cfL ws x.val y.val
theorem cfF_swo (ws:List Z.V) (n:Nat):SWO (ltOf (cfF ws (n:=n))):=⟨fun x=>(cfL_swo ws).irrefl x.val,fun x y z=>(cfL_swo ws).trans x.val y.val z.val,fun x y z=>(cfL_swo ws).ntrans x.val y.val z.val⟩
def fr (n:Nat):Array (Fin (n+1)):=Array.ofFn fun i=>i
theorem fr_size (n:Nat):(fr n).size=n+1:=by simp[fr]
theorem fr_get (n i:Nat) (h:i<n+1):(fr n)[i]! = ⟨i,h⟩:=by
 rw[getElem!_pos _ i (by rw[fr_size];exact h)];simp[fr]
theorem map_get {n:Nat} (dk:Array (Fin (n+1))) (i:Nat) (h:i<dk.size):(dk.map (fun x=>x.val))[i]! = (dk[i]!).val:=by
 rw[getElem!_pos _ i (by simpa using h),getElem!_pos _ i h];simp
theorem srt_fin {ws:List Z.V} {n:Nat} (hn:ws.length=n+1) {dk:Array (Fin (n+1))} (h1:PermIn 0 (n+1) (fr n) dk) (h2:SortedIn (Y.lx (ltOf (cfF ws)) (fun x:Fin (n+1)=>x.val)) 0 (n+1) dk):Srt ws (dk.map fun x=>x.val):=by
 have hs:dk.size=n+1:=by rw[h1.1,fr_size]
 have hp:=h1.2.2
 rw[extract_toList dk 0 (n+1) (by omega),extract_toList _ 0 (n+1) (by rw[fr_size];exact Nat.le_refl _)] at hp
 simp only[Nat.sub_zero] at hp
 have hp:=hp.map (fun x:Fin (n+1)=>x.val)
 rw[List.map_map,List.map_map] at hp
 have e1:(List.range' 0 (n+1)).map ((fun x:Fin (n+1)=>x.val) ∘ fun i=>dk[i]!)=(List.range' 0 (n+1)).map fun i=>(dk.map (fun x=>x.val))[i]! := by
  apply List.map_congr_left
  intro i hi
  have:=(List.mem_range'_1.1 hi).2
  rw[map_get dk i (by omega)];rfl
 have e2:(List.range' 0 (n+1)).map ((fun x:Fin (n+1)=>x.val) ∘ fun i=>(fr n)[i]!)=List.range' 0 (n+1):=by
  apply List.ext_getElem
  ·simp
  ·intro i a b
   have:i<n+1:=by simpa using a
   simp[fr_get n i this]
 rw[e1,e2] at hp
 refine srt_of ?_ ?_
 ·rw[hn]
  refine⟨by simp[hs],fun i hi=>?_,?_⟩
  ·rcases hi with hi|hi
   ·omega
   ·rw[getElem!_neg _ i (by simp;omega),getElem!_neg _ i (by simp;omega)]
  ·rw[extract_toList _ 0 (n+1) (by simp;omega),extract_toList _ 0 (n+1) (by simp)]
   simp only[Nat.sub_zero]
   have e3:(List.range' 0 (n+1)).map (fun i=>(Array.range (n+1))[i]!)=List.range' 0 (n+1):=by
    apply List.ext_getElem
    ·simp
    ·intro i a b
     have:i<n+1:=by simpa using a
     simp[this]
   rw[e3]
   exact hp
 ·rw[hn]
  intro i j k1 k2 k3
  have:=h2 i j k1 k2 k3
  rw[map_get dk i (by omega),map_get dk j (by omega)]
  exact this
theorem row1_of_own {w:World} {B g cap n:Nat} (h:w.ownsRow B 3 1 (.slice (some ⟨g,0,none⟩) (n+1) cap) (n+1) ((ints (List.range (n+1))).map (Value.int .i64))):Row1 (encF (n:=n)) w g 0 (fr n):=by
 rcases h.2 with ⟨h1,h2⟩|⟨g',cap',cur,hv,hg,hh,hc,hm,hsz,ht⟩
 ·cases h1
 ·injection hv with e1 e2 e3
  injection Option.some.inj e1 with e4 e5 e6
  subst e4
  refine⟨fun _=>rfl,fun j hj=>?_,lt_of_block hh⟩
  rw[fr_size] at hj
  refine⟨?_,by simp[World.frozen?,hh]⟩
  have e:cur.toList[j]?=some (.int .i64 (j:Int)):=by
   rw[show cur.toList[j]?=(cur.toList.take ((n+1)*1))[j]? by rw[List.getElem?_take_of_lt (by omega)],ht]
   simp[ints,hj]
  rw[fr_get n j hj]
  simp only[World.cell?,hh,Nat.zero_add,Option.isSome_none,Bool.false_eq_true,if_false,encF]
  rw[← Array.getElem?_toList,e]
theorem own1_sorted {w w2:World} {B g cap n:Nat} {dk:Array (Fin (n+1))} {xs:List Value} (h:w.ownsRow B 3 1 (.slice (some ⟨g,0,none⟩) (n+1) cap) (n+1) xs) (hs:dk.size=n+1) (hw:SW encF w g 0 dk w2) :
  w2.ownsRow B 3 1 (.slice (some ⟨g,0,none⟩) (n+1) cap) (n+1) ((ints (dk.map fun x=>x.val).toList).map (Value.int .i64))∧Kept (fun b=>b=g) w w2:=by
 obtain⟨m,os,rfl⟩:=hw
 rcases h.2 with ⟨h1,h2⟩|⟨g',cap',cur,hv,hg,hh,hc,hm,hsz,ht⟩
 ·cases h1
 ·injection hv with e1 e2 e3
  injection Option.some.inj e1 with e4 e5 e6
  subst e4;subst e3
  have hlt:g<w.heap.size:=lt_of_block hh
  have hblk:(sortWorld encF w g 0 m dk os).heap[g]?=some (.cells (putCells encF 0 dk cur) 3 (0,0)):=by
   unfold sortWorld
   have:(grow (putRow encF (Sort.ahead w m) g 0 dk) os).heap[g]?=(putRow encF (Sort.ahead w m) g 0 dk).heap[g]?:=by
    simp only[grow];rw[Array.getElem?_append_left (by simpa using hlt)]
   rw[this]
   simp[putRow,mapBlock,Sort.ahead,Array.getElem?_modify,hh,onCells]
  refine⟨⟨by simp[ints,hs],.inr ⟨g,cap,_,rfl,hg,hblk,hc,hm,by simp[putCells,hsz],?_⟩⟩,rfl,rfl,rfl,?_,fun b hb hne=>?_⟩
  ·apply List.ext_getElem?
   intro j
   by_cases hj:j<n+1
   ·rw[List.getElem?_take_of_lt (by omega),Array.getElem?_toList]
    simp only[putCells,Array.getElem?_mapIdx]
    rw[Array.getElem?_eq_getElem (show j<cur.size by omega),Option.map_some,if_pos ⟨by omega,by omega⟩,Nat.sub_zero,getElem!_pos dk j (by omega)]
    simp[ints,show j<dk.size by omega,encF]
   ·rw[List.getElem?_take_eq_none (by omega),List.getElem?_eq_none (by simp[ints];omega)]
  ·unfold sortWorld;rw[size_grow,size_putRow];show w.heap.size≤w.heap.size+_;omega
  ·unfold sortWorld
   have:(grow (putRow encF (Sort.ahead w m) g 0 dk) os).heap[b]?=(putRow encF (Sort.ahead w m) g 0 dk).heap[b]?:=by
    simp only[grow];rw[Array.getElem?_append_left (by simpa using hb)]
   rw[this]
   simp[putRow,mapBlock,Sort.ahead,Array.getElem?_modify,Ne.symm hne]
theorem sw_kept {n:Nat} (w:World) (g m:Nat) (dk:Array (Fin (n+1))) (os:Array Obj):Kept (fun b=>b=g) w (sortWorld encF w g 0 m dk os):=by
 refine⟨rfl,rfl,rfl,?_,fun b hb hne=>?_⟩
 ·unfold sortWorld;rw[size_grow,size_putRow];show w.heap.size≤w.heap.size+_;omega
 ·unfold sortWorld
  have:(grow (putRow encF (Sort.ahead w m) g 0 dk) os).heap[b]?=(putRow encF (Sort.ahead w m) g 0 dk).heap[b]?:=by
   simp only[grow];rw[Array.getElem?_append_left (by simpa using hb)]
  rw[this]
  simp[putRow,mapBlock,Sort.ahead,Array.getElem?_modify,Ne.symm hne]
theorem sortI_own (g cap B n bw:Nat) (ao:Option Addr) (wc:Nat) (ws:List Z.V) (w:World) (hn:ws.length=n+1) (ho:w.ownsRow B 3 1 (.slice (some ⟨g,0,none⟩) (n+1) cap) (n+1) ((ints (List.range (n+1))).map (Value.int .i64)))
  (hsl:SlV w ao (n+1) wc ws) (hb:w.cell? ⟨bw,0,none⟩=some (.slice ao (n+1) wc)) (hbl:bw<w.heap.size) (hbg:bw≠g) (hag:∀ x,ao=some x→x.block≠g) (hl:n+1≤140737488355328) :
  Calls Tryz.prog 229 #[.slice (some ⟨g,0,none⟩) (n+1) cap,.func (.func 230) #[] #[.pointer (some ⟨bw,0,none⟩)]] w fun e w'=>e=.returned (.tuple #[])∧∃ dk:Array Nat,Srt ws dk∧w'.ownsRow B 3 1 (.slice (some ⟨g,0,none⟩) (n+1) cap) (n+1) ((ints dk.toList).map (Value.int .i64))∧Kept (fun b=>b=g) w w':=by
 have R:=row1_of_own ho
 refine (sortStableI layI Tryz.func244 Tryz.func243 Tryz.func240 Tryz.func241 Tryz.func238 Tryz.func229 (encF (n:=n)) (cfF ws) (fun x:Fin (n+1)=>x.val) (Y.lx_swo (cfF_swo ws n) _) 230 #[.pointer (some ⟨bw,0,none⟩)] g 0 cap (fr n) w R (enters_of Tryz.func230 (by kernel_rfl) rfl) ?_ (n+1) (by rw[fr_size]) (by omega) (fun i hi=>by rw[fr_get n i hi])).mono ?_
 ·intro m os dk hs x y
  have hk:=sw_kept w g m dk os
  have hx:ws[x.val]?=some (ws.getD x.val Z.o):=by rw[List.getD_eq_getElem?_getD,List.getElem?_eq_getElem (by rw[hn];exact x.isLt)];rfl
  have hy:ws[y.val]?=some (ws.getD y.val Z.o):=by rw[List.getD_eq_getElem?_getD,List.getElem?_eq_getElem (by rw[hn];exact y.isLt)];rfl
  refine (placesC_any ao (n+1) wc bw ws x.val y.val _ _ _ (hsl.kept hk (fun a ha=>hag a ha)) ?_ (Nat.lt_of_lt_of_le hbl hk.size) hx hy hl)
  have e:=hk.block bw hbl hbg
  simp only[World.cell?] at hb ⊢
  rw[e];exact hb
 ·rintro e w' ⟨rfl,dk,h1,h2,h3⟩
  have hs:dk.size=n+1:=by rw[h2.1,fr_size]
  have:=own1_sorted ho hs h1
  exact⟨rfl,_,srt_fin hn h2 h3,this.1,this.2⟩
theorem sortI_none (ao:Option Addr) (cap:Nat) (cb:Array Value) (w:World):Calls Tryz.prog 229 #[.slice ao 0 cap,.func (.func 230) #[] cb] w fun e w'=>e=.returned (.tuple #[])∧w'=w:=by
 have hin:∀ w,Calls Tryz.prog 240 #[.slice ao 0 cap,.int .i64 0,.int .i64 0,.func (.func 230) #[] cb] w fun e w'=>e=.returned (.tuple #[])∧w'=w:=by
  intro w
  go_enter Tryz.func240,Tryz.ntmps240
  go_wp2
  refine wp_loop_rounds 1 ?_
  rw[rounds_succ]
  go_wp2
  go_end0
  exact⟨rfl,rfl⟩
 have hst:∀ w,Calls Tryz.prog 238 #[.slice ao 0 cap,.int .i64 0,.func (.func 230) #[] cb] w fun e w'=>e=.returned (.tuple #[])∧w'=w:=by
  intro w
  go_enter Tryz.func238,Tryz.ntmps238
  go_wp2
  refine wp_loop_rounds 1 ?_
  rw[rounds_succ]
  go_wp2_with fail
  refine (hin _).mono ?_
  rintro e w1 ⟨rfl,rfl⟩
  go_wp2
  refine wp_loop_rounds 1 ?_
  rw[rounds_succ]
  go_wp2
  go_end0
  exact⟨rfl,rfl⟩
 go_enter Tryz.func229,Tryz.ntmps229
 go_wp2_with fail
 refine (hst _).mono ?_
 rintro e w1 ⟨rfl,rfl⟩
 go_wp2
 go_end0
 exact⟨rfl,rfl⟩
def idTo (n j:Nat):List Value:=(ints (List.range j)).map (Value.int .i64)++List.replicate (n - j) (.int .i64 0)
theorem idTo_zero (n:Nat):idTo n 0=List.replicate n (.int .i64 0):=by simp[idTo,ints]
theorem idTo_all (n:Nat):idTo n n=(ints (List.range n)).map (Value.int .i64):=by simp[idTo]
theorem idTo_at {n j:Nat} (h:j<n):(idTo n j)[j]?=some (.int .i64 0):=by
 unfold idTo
 rw[List.getElem?_append_right (by simp[ints]),List.getElem?_replicate,if_pos (by simp[ints];omega)]
theorem idTo_set {n j:Nat} (h:j<n):(idTo n j).set j (.int .i64 (j:Int))=idTo n (j+1):=by
 unfold idTo
 rw[List.set_append_right _ _ (by simp[ints]),List.range_succ]
 obtain⟨m,hm⟩:∃ m,n - j=m+1:=⟨n - j - 1,by omega⟩
 rw[hm,show n - (j+1)=m by omega,List.replicate_succ]
 simp[ints]
def PlacesAns (w:World) (ws:List Z.V) (e:Ending) (w':World):Prop:=∃ a c,∃ dk:Array Nat,e=.returned (.slice a ws.length c)∧Srt ws dk∧Sl w' .i64 a ws.length c (ints dk.toList)∧Below w.heap.size w w'
theorem srt_nil:Srt [] #[]:=⟨rfl,fun i j _ h=>by simp at h,fun p h=>by simp at h,fun i h=>by simp at h⟩
set_option maxHeartbeats 1000000 in
theorem places_any (ao:Option Addr) (len cap:Nat) (ws:List Z.V) (w:World) (h:SlV w ao len cap ws) (hl:len≤1099511627776):Calls Tryz.prog 206 #[.slice ao len cap] w (PlacesAns w ws):=by
 have HL:=hide h.1
 have HS:=hide h
 clear h
 obtain⟨i0,hi0,hz0,hz1,hz2⟩:=info_parts Tryz.infoInt
 go_enter Tryz.func206,Tryz.ntmps206
 go_wp2_with (at_make;refine wpList_make_full _ rfl _ _ 93 rfl (w.alloc (.cells #[.slice ao len cap] 42)).heap.size 3 i0 (.int .i64 0) 1 Tryz.underlying93 hi0 hz0 hz1 _ _ _ _ len rfl rfl rfl rfl (by rw[hz2];omega) (by unfold maxLen;omega) (Nat.le_refl _) ?_)
 obtain⟨w1,hw1⟩:∃ w1,w.alloc (.cells #[.slice ao len cap] 42)=w1:=⟨_,rfl⟩
 have hsz1:w1.heap.size=w.heap.size+1:=by rw[← hw1];simp
 have hbx:w1.cell? ⟨w.heap.size,0,none⟩=some (.slice ao len cap):=by rw[← hw1];simp
 have hb1:Below w.heap.size w w1:=by rw[← hw1];exact below_one w _
 rw[hw1]
 intro w2 ho hg
 have hb2:Below (w.heap.size+1) w1 w2:=by rw[← hsz1];exact (Below.refl _ w1).grown hg (Nat.le_refl _) (by simp)
 rw[toList_madeCells_one,← idTo_zero] at ho
 have HO:=hide ho
 have HB2:=hide hb2
 have HB1:=hide hb1
 have HX:=hide hbx
 have HZ:=hide hsz1
 clear ho hg hb2 hb1 hbx hsz1 hw1
 go_wp2_with fail
 go_loopw [10] (fun i wr=>∃ j:Nat,j≤len∧i=.int .i64 j∧Hid (wr.ownsRow (w.heap.size+1) 3 1 (.slice (some ⟨(w.heap.size+1),0,none⟩) len len) len (idTo len j))∧Hid (Below (w.heap.size+1) w1 wr)) (fun i _=>len - (intOf i).toNat)
 case atStart=>exact⟨0,Nat.zero_le _,rfl,HO,HB2⟩
 case round =>
  obtain⟨j,hj,rfl,hor,hwr⟩:=hrel
  clear HO HB2
  by_cases hjl:j<len
  ·have hc4:=hor.out.cellAt j (by omega)
   rw[idTo_at hjl] at hc4
   have hf4:=hor.out.frozenAt j
   have HO:=hide (hor.out.stored j (.int .i64 (j:Int))).1
   go_wp2
   go_roundw
   case rel=>exact⟨j+1,hjl,by go_num,hide (by rw[← idTo_set hjl];exact HO.out),hide (hwr.out.setCell (p:=⟨(w.heap.size+1),j,none⟩) (Nat.le_refl _) _)⟩
   case measure=>simp[intOf];omega
  ·obtain rfl:j=len:=by omega
   have hb3:Below w.heap.size w wr:=HB1.out.trans (hwr.out.mono (by omega))
   cases j with
   | zero =>
    have HB3:=hide hb3
    clear hb3
    go_wp2_with fail
    refine (sortI_none _ _ _ _).mono ?_
    rintro e w4 ⟨rfl,rfl⟩
    go_wp2
    go_ret
    obtain rfl:ws=[]:=List.eq_nil_of_length_eq_zero HL.out
    exact⟨_,_,#[],rfl,srt_nil,⟨rfl,by simp,by simp[maxLen],by simp,by simp⟩,HB3.out⟩
   | succ n =>
    have hor2:=hor.out
    rw[idTo_all] at hor2
    have hcell:wr.cell? ⟨w.heap.size,0,none⟩=some (.slice ao (n+1) cap):=by rw[hwr.out.cell (p:=⟨w.heap.size,0,none⟩) (by show w.heap.size<w.heap.size+1;omega)];exact HX.out
    have hs1:SlV w1 ao (n+1) cap ws:=HS.out.below HB1.out
    have hblk:∀ x,ao=some x→x.block≠(w.heap.size+1):=fun x hx=>by
     obtain⟨b,off,k,i,s,e,hlt,_⟩:=HS.out.at (j:=0) (by omega)
     rw[hx] at e
     have:=congrArg Addr.block (Option.some.inj e)
     simp at this
     omega
    have HSO:=hide (sortI_own (w.heap.size+1) (n+1) (w.heap.size+1) n w.heap.size ao cap ws wr HL.out hor2 (HS.out.below hb3) hcell (by have:=hwr.out.size;have:=HZ.out;omega) (by omega) hblk (by omega))
    have HB3:=hide hb3
    clear hor hor2 hcell hs1 hblk hb3
    go_wp2_with fail
    refine Calls.mono HSO.out ?_
    rintro e w4 ⟨rfl,dk,hs,ho4,hk4⟩
    have hb4:Below w.heap.size w w4:=HB3.out.trans (hk4.below HB3.out.size (fun k e=>by subst e;omega))
    have ho5:w4.ownsRow (w.heap.size+1) 3 1 (.slice (some ⟨(w.heap.size+1),0,none⟩) (n+1) (n+1)) (ints dk.toList).length ((ints dk.toList).map (Value.int .i64)):=by
     have:(ints dk.toList).length=n+1:=by have:=hs.size;have:=HL.out;simp[ints];omega
     rw[this];exact ho4
    obtain⟨ax,cx,hv,hsx,_⟩:=Sl.of_owns ho5
    have hlen:(ints dk.toList).length=n+1:=by have:=hs.size;have:=HL.out;simp[ints];omega
    rw[hlen] at hv hsx
    injection hv with hv1 hv2 hv3
    subst hv1;subst hv3
    have FIN:Hid (PlacesAns w ws (.returned (.slice (some ⟨(w.heap.size+1),0,none⟩) (n+1) (n+1))) w4):=⟨_,_,dk,by rw[HL.out],hs,by rw[HL.out];exact hsx,hb4⟩
    clear hs ho4 hk4 hb4 ho5 hsx hlen HSO HB3
    go_wp2
    go_ret
    exact FIN.out
theorem one_more {w w1:World} {o:Obj} (h:w.alloc o=w1) (q:Nat) (os:Array Obj):grow (w1.drewN q) os=grow (w.drewN q) (#[o]++os):=by
 rw[← h,alloc_eq_grow,← grow_grow];rfl
set_option maxHeartbeats 1000000 in
theorem codesC_any (ao:Option Addr) (len cap bw:Nat) (ws:List Z.V) (i:Nat) (x:Z.V) (vk vi:Int) (vs:ByteArray) (w:World) (h:SlV w ao len cap ws) (hb:w.cell? ⟨bw,0,none⟩=some (.slice ao len cap)) (hbl:bw<w.heap.size) (hi:ws[i]?=some x) (hl:len≤140737488355328) :
  Calls Tryz.prog 208 #[.int .i64 i,.agg #[.int .i64 vk,.int .i64 vi,.string vs],.pointer (some ⟨bw,0,none⟩)] w fun e w'=>e=.returned (.int .i64 (Z.cv x ⟨vk,vi,vs⟩))∧∃ q os,w'=grow (w.drewN q) os:=by
 have mixed:=Tryz.mixed
 have hil:i<len:=by rw[← h.1];exact (List.getElem?_eq_some_iff.1 hi).1
 obtain⟨b,off,xk,xi,xs,rfl,hlt,hx,c1,c2,c3⟩:=h.at hil
 rw[hx] at hi
 obtain rfl:=Option.some.inj hi
 obtain⟨w1,hw1⟩:∃ w1,w.alloc (.cells #[.int .i64 vk,.int .i64 vi,.string vs] 25)=w1:=⟨_,rfl⟩
 have hb1:Below w.heap.size w w1:=by rw[← hw1];exact below_one w _
 have hat:At w1 w.heap.size vk vi vs:=by rw[← hw1];exact At.new w vk vi vs
 have hsz:w.heap.size<w1.heap.size:=by rw[← hw1];simp
 have hlt1:b<w1.heap.size:=by omega
 obtain⟨g1,g2,g3⟩:=hat.cells
 have d1:=cell_grown (w:=w1) (a:=⟨b,off+i*3,none⟩) hlt1 (by rw[hb1.cell (p:=⟨b,off+i*3,none⟩) hlt];exact c1)
 have d2:=cell_grown (w:=w1) (a:=⟨b,off+i*3+1,none⟩) hlt1 (by rw[hb1.cell (p:=⟨b,off+i*3+1,none⟩) hlt];exact c2)
 have d3:=cell_grown (w:=w1) (a:=⟨b,off+i*3+2,none⟩) hlt1 (by rw[hb1.cell (p:=⟨b,off+i*3+2,none⟩) hlt];exact c3)
 have f1:=cell_grown (a:=⟨w.heap.size,0,none⟩) hsz g1
 have f2:=cell_grown (a:=⟨w.heap.size,1,none⟩) hsz g2
 have f3:=cell_grown (a:=⟨w.heap.size,2,none⟩) hsz g3
 have hbx:=cell_grown (w:=w1) (a:=⟨bw,0,none⟩) (by show bw<w1.heap.size;omega) (by rw[hb1.cell (p:=⟨bw,0,none⟩) hbl];exact hb)
 obtain⟨c,hc⟩:∃ c,Z.cv ⟨xk,xi,xs⟩ ⟨vk,vi,vs⟩=c:=⟨_,rfl⟩
 have HC:Hid (∀ m os,Calls Tryz.prog 68 #[.agg #[.int .i64 xk,.int .i64 xi,.string xs],.agg #[.int .i64 vk,.int .i64 vi,.string vs]] (grow (w1.drewN m) os) fun e w'=>e=.returned (.int .i64 c)∧∃ q os',w'=grow ((grow (w1.drewN m) os).drewN q) os'):=by
  intro m os;rw[← hc]
  refine (vcompare_two xk xi xs vk vi vs _).mono ?_
  rintro e w' ⟨rfl,a,b,rfl⟩
  exact⟨rfl,0,_,two_grow _ _ _⟩
 rw[hc]
 have HW:=hide hw1
 clear hc h hx c1 c2 c3 g1 g2 g3 hb hi hb1 hat hw1
 go_enter Tryz.func208,Tryz.ntmps208
 go_wp2_with fail
 rw[HW.out]
 go_quiet_grown (first|(go_at_call 68;refine Calls.grown_of (HC.out _ _)))
 go_wp2
 go_ret
 exact⟨rfl,nq,_,one_more HW.out nq osq⟩
structure Fnd (ws:List Z.V) (dk:Array Nat) (v:Z.V) (i:Nat) (f:Bool):Prop where
 le:i≤ws.length
 lower:∀ t,t<i→Z.cv (ws.getD dk[t]! Z.o) v<0
 upper:∀ t,i≤t→t<ws.length→0≤Z.cv (ws.getD dk[t]! Z.o) v
 found:f=decide (i<ws.length∧Z.cv (ws.getD dk[i]! Z.o) v=0)
theorem fnd_yes {ws:List Z.V} {dk:Array Nat} {v:Z.V} {i:Nat} (hs:Srt ws dk) (h:Fnd ws dk v i true):i<ws.length∧Z.has ws v=true∧Z.cdN ws v=dk[i]! := by
 obtain⟨hi,hv⟩:=of_decide_eq_true h.found.symm
 have hd:=hs.lt i hi
 have hx:ws[dk[i]!]?=some (ws.getD dk[i]! Z.o):=by rw[List.getD_eq_getElem?_getD,List.getElem?_eq_getElem hd];rfl
 have hno:∀ y∈ws.take dk[i]!,Z.cv y v≠0:=by
  intro y hy e
  obtain⟨t,ht,rfl⟩:=List.mem_take_iff_getElem.1 hy
  have htl:t<ws.length:=by omega
  obtain⟨q,hq,hqt⟩:=hs.onto t htl
  have ey:ws[t]=ws.getD dk[q]! Z.o:=by rw[hqt,List.getD_eq_getElem?_getD,List.getElem?_eq_getElem htl];rfl
  rw[ey] at e
  rcases Nat.lt_trichotomy q i with h1|h1|h1
  ·have:=h.lower q h1;omega
  ·subst h1;omega
  ·have h2:=(hs.ord i q h1 hq).2 (cv_eq_trans hv (cv_eq_sym e))
   omega
 refine⟨hi,has_iff.2 ⟨_,List.mem_of_getElem? hx,hv⟩,?_⟩
 have:=plI_at hx hv hno
 unfold Z.plI at this
 unfold Z.cdN
 cases hp:Z.pl ws v with
 | none=>rw[hp] at this;simp at this
 | some j=>rw[hp] at this;simp at this ⊢;omega
theorem fnd_no {ws:List Z.V} {dk:Array Nat} {v:Z.V} {i:Nat} (hs:Srt ws dk) (h:Fnd ws dk v i false):Z.has ws v=false:=by
 cases hh:Z.has ws v with
 | false=>rfl
 | true =>
  exfalso
  obtain⟨y,hy,e⟩:=has_iff.1 hh
  obtain⟨t,ht,rfl⟩:=List.getElem_of_mem hy
  obtain⟨q,hq,hqt⟩:=hs.onto t ht
  have ey:ws[t]=ws.getD dk[q]! Z.o:=by rw[hqt,List.getD_eq_getElem?_getD,List.getElem?_eq_getElem ht];rfl
  rw[ey] at e
  have hiq:i≤q:=by
   rcases Nat.lt_or_ge q i with h1|h1
   ·have:=h.lower q h1;omega
   ·exact h1
  have hi:i<ws.length:=by omega
  have h0:Z.cv (ws.getD dk[i]! Z.o) v=0:=by
   by_cases e2:i=q
   ·subst e2;exact e
   ·have h1:=(hs.ord i q (by omega) hq).1
    have h2:=h.upper i (Nat.le_refl _) hi
    have h3:=cv_right e (ws.getD dk[i]! Z.o)
    have h4:=cv_le_le (c:=v) h1 (by omega)
    omega
  have:=of_decide_eq_false h.found.symm
  exact this ⟨hi,h0⟩
theorem Sl.at {w:World} {k:IntKind} {ao:Option Addr} {len cap:Nat} {l:List Int} (h:Sl w k ao len cap l) {j:Nat} (hj:j<len):∃ b off,ao=some ⟨b,off,none⟩∧b<w.heap.size∧w.cell? ⟨b,off+j,none⟩=some (.int k (l.getD j 0)):=by
 obtain⟨h1,h2,h3,h4,h5⟩:=h
 rcases h5 with h5|⟨b,off,rfl,hlt,h5⟩
 ·omega
 ·exact⟨b,off,rfl,hlt,h5 j hj⟩
theorem ints_at (dk:Array Nat) (j:Nat) (h:j<dk.size):(ints dk.toList).getD j 0=(dk[j]! : Int):=by
 simp[ints,h]
set_option maxHeartbeats 2000000 in
theorem bin_any (ap:Option Addr) (pc:Nat) (dk:Array Nat) (ao:Option Addr) (cap bw:Nat) (ws:List Z.V) (vk vi:Int) (vs:ByteArray) (w:World) (hs:Srt ws dk) (hp:Sl w .i64 ap ws.length pc (ints dk.toList)) (h:SlV w ao ws.length cap ws) (hb:w.cell? ⟨bw,0,none⟩=some (.slice ao ws.length cap)) (hbl:bw<w.heap.size) (hl:ws.length≤1099511627776) :
  Calls Tryz.prog 207 #[.slice ap ws.length pc,.agg #[.int .i64 vk,.int .i64 vi,.string vs],.func (.func 208) #[] #[.pointer (some ⟨bw,0,none⟩)]] w fun e w'=>∃ (i:Nat) (f:Bool),e=.returned (.tuple #[.int .i64 i,.bool f])∧Fnd ws dk ⟨vk,vi,vs⟩ i f∧Below w.heap.size w w':=by
 have mixed:=Tryz.mixed
 obtain⟨n,hn⟩:∃ n,ws.length=n:=⟨_,rfl⟩
 rw[hn] at hp h hb hl ⊢
 have HN:=hide hn
 obtain⟨w1,hw1⟩:∃ w1,w.alloc (.cells #[.int .i64 vk,.int .i64 vi,.string vs] 25)=w1:=⟨_,rfl⟩
 have hb1:Below w.heap.size w w1:=by rw[← hw1];exact below_one w _
 have hat:At w1 w.heap.size vk vi vs:=by rw[← hw1];exact At.new w vk vi vs
 have hsz:w.heap.size<w1.heap.size:=by rw[← hw1];simp
 have HW:=hide hw1
 have HB1:=hide hb1
 -- a test at a place,wherever the search has come to
 have TEST:Hid (∀ wr,Below w1.heap.size w1 wr→∀ t,t<n→∃ b off,ap=some ⟨b,off,none⟩∧(∀ m os,(grow (wr.drewN m) os).cell? ⟨b,off+t,none⟩=some (.int .i64 (dk[t]! : Int)))∧(∀ m os,(grow (wr.drewN m) os).cell? ⟨w.heap.size,0,none⟩=some (.int .i64 vk))∧(∀ m os,(grow (wr.drewN m) os).cell? ⟨w.heap.size,1,none⟩=some (.int .i64 vi))∧(∀ m os,(grow (wr.drewN m) os).cell? ⟨w.heap.size,2,none⟩=some (.string vs)) ∧
   (∀ m os,Calls Tryz.prog 208 #[.int .i64 (dk[t]! : Int),.agg #[.int .i64 vk,.int .i64 vi,.string vs],.pointer (some ⟨bw,0,none⟩)] (grow (wr.drewN m) os) fun e w'=>e=.returned (.int .i64 (Z.cv (ws.getD dk[t]! Z.o) ⟨vk,vi,vs⟩))∧∃ q os',w'=grow ((grow (wr.drewN m) os).drewN q) os')):=by
  intro wr hbr t ht
  have hbw:Below w.heap.size w wr:=hb1.trans (hbr.mono (by omega))
  obtain⟨b,off,rfl,hlt,hc⟩:=hp.at ht
  rw[ints_at dk t (by rw[hs.size];omega)] at hc
  obtain⟨g1,g2,g3⟩:=(hat.below hbr).cells
  have hlw:w.heap.size<wr.heap.size:=Nat.lt_of_lt_of_le hsz hbr.size
  refine⟨b,off,rfl,cell_grown (a:=⟨b,off+t,none⟩) (Nat.lt_of_lt_of_le hlt hbw.size) (by rw[hbw.cell (p:=⟨b,off+t,none⟩) hlt];exact hc),cell_grown (a:=⟨w.heap.size,0,none⟩) hlw g1,cell_grown (a:=⟨w.heap.size,1,none⟩) hlw g2,cell_grown (a:=⟨w.heap.size,2,none⟩) hlw g3,fun m os=>?_⟩
  have hbg:Below w.heap.size w (grow (wr.drewN m) os):=hbw.trans ((grow_below wr m os).mono hbw.size)
  have hdt:=hs.lt t (by omega)
  exact codesC_any ao n cap bw ws dk[t]! _ vk vi vs _ (h.below hbg) (by rw[hbg.cell (p:=⟨bw,0,none⟩) hbl];exact hb) (Nat.lt_of_lt_of_le hbl hbg.size) (by rw[List.getD_eq_getElem?_getD,List.getElem?_eq_getElem hdt];rfl) (by omega)
 have MONO:Hid (∀ a b,a≤b→b<n→Z.cv (ws.getD dk[a]! Z.o) (ws.getD dk[b]! Z.o)≤0):=fun a b hab hb=>by
  by_cases e:a=b
  ·subst e;rw[Z.cv_refl];omega
  ·exact (hs.ord a b (by omega) (by omega)).1
 clear hs hp h hb hat hw1 hb1 hn
 go_enter Tryz.func207,Tryz.ntmps207
 go_wp2_with fail
 rw[HW.out]
 go_loopw [9,10] (fun a b wr=>∃ i j:Nat,i≤j∧j≤n∧a=.int .i64 i∧b=.int .i64 j∧Hid (∀ t,t<i→Z.cv (ws.getD dk[t]! Z.o) ⟨vk,vi,vs⟩<0)∧Hid (∀ t,j≤t→t<n→0≤Z.cv (ws.getD dk[t]! Z.o) ⟨vk,vi,vs⟩)∧Hid (Below w1.heap.size w1 wr)) (fun a b _=>(intOf b).toNat - (intOf a).toNat)
 case atStart=>exact⟨0,n,Nat.zero_le _,Nat.le_refl _,rfl,rfl,hide (fun t ht=>by omega),hide (fun t h1 h2=>by omega),hide (Below.refl _ _)⟩
 case round =>
  obtain⟨i,j,hij,hjn,rfl,rfl,A1,A2,HB⟩:=hrel
  by_cases hlt:i<j
  ·obtain⟨h,hh1,hh2⟩:∃ h,2*h≤i+j∧i+j≤2*h+1:=⟨(i+j) / 2,by omega,by omega⟩
   have zh:((i:Int)+(j:Int)) / 2=(h:Int):=by omega
   have rij:IntKind.i64.wrap ((i:Int)+(j:Int))=(i:Int)+(j:Int):=by rw[IntKind.wrap_i64];omega
   have hih:i≤h:=by omega
   have hhj:h<j:=by omega
   have hhn:(h:Int)<(n:Int):=by omega
   have hhp:(0:Int)≤(h:Int):=by omega
   have hht:((h:Int)).toNat=h:=by omega
   have rh:IntKind.i64.wrap (h:Int)=(h:Int):=by rw[IntKind.wrap_i64];omega
   obtain⟨b,off,rfl,d1,f1,f2,f3,hc⟩:=TEST.out wr HB.out h (by omega)
   obtain⟨c,hcc⟩:∃ c,Z.cv (ws.getD dk[h]! Z.o) ⟨vk,vi,vs⟩=c:=⟨_,rfl⟩
   obtain⟨dh,hdh⟩:∃ x,dk[h]! = x:=⟨_,rfl⟩
   rw[hcc] at hc
   rw[hdh] at d1 hc
   have HC:=hide hc
   have HV:=hide hcc
   clear hc hcc hdh
   by_cases hcn:c<0
   ·go_wp2_with fail
    go_quiet_grown (first|(go_at_call 208;refine Calls.grown_of (HC.out _ _))|(go_at_fn 208;refine Calls.grown_of (HC.out _ _)))
    have HB2:=hide (HB.out.trans ((grow_below wr nq osq).mono HB.out.size))
    have B1:Hid (∀ t,t<h+1→Z.cv (ws.getD dk[t]! Z.o) ⟨vk,vi,vs⟩<0):=fun t ht=>cv_le_lt (MONO.out t h (by omega) (by omega)) (by rw[HV.out];exact hcn)
    clear d1 f1 f2 f3 HC HB HV A1
    generalize grow (wr.drewN nq) osq=w2 at HB2 ⊢
    clear nq osq
    go_wp2
    go_round
    ·exact⟨h+1,j,by omega,hjn,by go_num,rfl,B1,A2,HB2⟩
    ·simp[intOf];omega
   ·have hcd:decide (c<0)=false:=decide_eq_false hcn
    go_wp2_with fail
    go_quiet_grown (first|(go_at_call 208;refine Calls.grown_of (HC.out _ _))|(go_at_fn 208;refine Calls.grown_of (HC.out _ _)))
    have HB2:=hide (HB.out.trans ((grow_below wr nq osq).mono HB.out.size))
    have B2:Hid (∀ t,h≤t→t<n→0≤Z.cv (ws.getD dk[t]! Z.o) ⟨vk,vi,vs⟩):=fun t h1 h2=>by
     have e1:=MONO.out h t h1 h2
     have e2:=HV.out
     rcases Int.lt_or_le (Z.cv (ws.getD dk[t]! Z.o) ⟨vk,vi,vs⟩) 0 with e3|e3
     ·have:=cv_le_lt e1 e3;omega
     ·exact e3
    clear d1 f1 f2 f3 HC HB HV A2
    generalize grow (wr.drewN nq) osq=w2 at HB2 ⊢
    clear nq osq
    go_wp2
    go_round
    ·exact⟨i,h,hih,by omega,rfl,rfl,A1,B2,HB2⟩
    ·simp[intOf];omega
  ·obtain rfl:i=j:=by omega
   have HBW:=hide (HB1.out.trans (HB.out.mono (by omega)))
   by_cases hin:i<n
   ·obtain⟨b,off,rfl,d1,f1,f2,f3,hc⟩:=TEST.out wr HB.out i hin
    obtain⟨c,hcc⟩:∃ c,Z.cv (ws.getD dk[i]! Z.o) ⟨vk,vi,vs⟩=c:=⟨_,rfl⟩
    have FD:Hid (Fnd ws dk ⟨vk,vi,vs⟩ i (c==0)):=⟨by rw[HN.out];exact hjn,A1.out,fun t h1 h2=>A2.out t h1 (by rw[← HN.out];exact h2),by rw[hcc,HN.out];by_cases e:c=0<;>simp[e,hin]⟩
    obtain⟨dh,hdh⟩:∃ x,dk[i]! = x:=⟨_,rfl⟩
    rw[hcc] at hc
    rw[hdh] at d1 hc
    have HC:=hide hc
    clear hc hcc hdh A1 A2
    have hid:decide ((i:Int)<(n:Int))=true:=decide_eq_true (by omega)
    go_wp2_with fail
    go_quiet_grown (first|(go_at_call 208;refine Calls.grown_of (HC.out _ _))|(go_at_fn 208;refine Calls.grown_of (HC.out _ _)))
    have HB2:=hide (HBW.out.trans ((grow_below wr nq osq).mono HBW.out.size))
    clear d1 f1 f2 f3 HC HB
    generalize grow (wr.drewN nq) osq=w2 at HB2 ⊢
    clear nq osq
    go_wp2
    go_ret2
    exact⟨i,_,rfl,FD.out,HB2.out⟩
   ·have FD:Hid (Fnd ws dk ⟨vk,vi,vs⟩ i false):=⟨by rw[HN.out];exact hjn,A1.out,fun t h1 h2=>A2.out t h1 (by rw[← HN.out];exact h2),by rw[HN.out];simp[hin]⟩
    clear A1 A2
    have hid:decide ((i:Int)<(n:Int))=false:=decide_eq_false (by omega)
    go_wp2_with fail
    go_quiet (fail)
    have HB2:=hide (HBW.out.trans (Below.mono (show Below wr.heap.size wr (wr.drewN nq) from ⟨rfl,rfl,rfl,Nat.le_refl _,fun _ _=>rfl⟩) HBW.out.size))
    clear HB
    generalize wr.drewN nq=w2 at HB2 ⊢
    clear nq
    go_wp2
    go_ret2
    exact⟨i,_,rfl,FD.out,HB2.out⟩
def cdTo (ws l:List Z.V) (n j:Nat):List Value:=(ints ((l.take j).map (Z.cdN ws))).map (Value.int .u64)++List.replicate (n - j) (.int .u64 0)
theorem cdTo_zero (ws l:List Z.V) (n:Nat):cdTo ws l n 0=List.replicate n (.int .u64 0):=by simp[cdTo,ints]
theorem cdTo_len {ws l:List Z.V} {j:Nat} (h:j≤l.length):((ints ((l.take j).map (Z.cdN ws))).map (Value.int .u64)).length=j:=by simp[ints];omega
theorem cdTo_at {ws l:List Z.V} {j:Nat} (h:j<l.length):(cdTo ws l l.length j)[j]?=some (.int .u64 0):=by
 unfold cdTo
 have h1:=cdTo_len (ws:=ws) (Nat.le_of_lt h)
 rw[List.getElem?_append_right (by omega),h1,Nat.sub_self,List.getElem?_replicate,if_pos (by omega)]
theorem cdTo_set {ws l:List Z.V} {j:Nat} {x:Z.V} (h:l[j]?=some x):(cdTo ws l l.length j).set j (.int .u64 (Z.cdN ws x:Nat))=cdTo ws l l.length (j+1):=by
 have hj:=(List.getElem?_eq_some_iff.1 h).1
 have h1:=cdTo_len (ws:=ws) (Nat.le_of_lt hj)
 unfold cdTo
 rw[List.set_append_right _ _ (by omega),h1,Nat.sub_self,take_snocV h]
 obtain⟨m,hm⟩:∃ m,l.length - j=m+1:=⟨l.length - j - 1,by omega⟩
 rw[hm,show l.length - (j+1)=m by omega,List.replicate_succ]
 simp[ints]
theorem SlV.kept0 {F:Nat→Prop} {w w':World} {ao:Option Addr} {len cap:Nat} {l:List Z.V} (h:SlV w ao len cap l) (hb:Kept F w w') (hf:∀ b,b<w.heap.size→¬ F b):SlV w' ao len cap l:=by
 obtain⟨h1,h2,h3,h4,h5⟩:=h
 refine⟨h1,h2,h3,h4,?_⟩
 rcases h5 with h5|⟨b,off,rfl,hlt,h5⟩
 ·exact .inl h5
 ·refine .inr ⟨b,off,rfl,Nat.lt_of_lt_of_le hlt hb.size,fun j x hx=>?_⟩
  have e:=hb.block b hlt (hf _ hlt)
  obtain⟨c1,c2,c3⟩:=h5 j x hx
  simp only[World.cell?] at c1 c2 c3 ⊢
  rw[e]
  exact⟨c1,c2,c3⟩
theorem Sl.keptO {F:Nat→Prop} {w w':World} {k:IntKind} {ao:Option Addr} {len cap:Nat} {l:List Int} (h:Sl w k ao len cap l) (hb:Kept F w w') (hf:∀ b,b<w.heap.size→¬ F b):Sl w' k ao len cap l:=by
 obtain⟨h1,h2,h3,h4,h5⟩:=h
 refine⟨h1,h2,h3,h4,?_⟩
 rcases h5 with h5|⟨b,off,rfl,hlt,h5⟩
 ·exact .inl h5
 ·refine .inr ⟨b,off,rfl,Nat.lt_of_lt_of_le hlt hb.size,fun j hj=>?_⟩
  rw[hb.cell (p:=⟨b,off+j,none⟩) hlt (hf _ hlt)]
  exact h5 j hj
theorem Sl.nil0 (w:World) (k:IntKind):Sl w k none 0 0 []:=⟨rfl,Nat.le_refl _,by simp[maxLen],fun _=>rfl,.inl rfl⟩
def CodesAns (w:World) (ws l:List Z.V) (e:Ending) (w':World):Prop:=∃ a n c,e=.returned (.tuple #[.slice a n c,.int .i64 (Z.cdE ws l)])∧Sl w' .u64 a n c (ints (Z.cdL ws l))∧Below w.heap.size w w'
set_option maxHeartbeats 2000000 in
theorem codes_any (ao:Option Addr) (cap:Nat) (ws:List Z.V) (al:Option Addr) (lcap:Nat) (l:List Z.V) (w:World) (h:SlV w ao ws.length cap ws) (hL:SlV w al l.length lcap l) (hw:ws.length≤1099511627776) (hl:l.length≤1099511627776) :
  Calls Tryz.prog 155 #[.slice ao ws.length cap,.slice al l.length lcap] w (CodesAns w ws l):=by
 obtain⟨i0,hi0,hz0,hz1,hz2⟩:=info_parts Tryz.infoU64
 obtain⟨w1,hw1⟩:∃ w1,w.alloc (.cells #[.slice ao ws.length cap] 42)=w1:=⟨_,rfl⟩
 have hb1:Below w.heap.size w w1:=by rw[← hw1];exact below_one w _
 have hbx:w1.cell? ⟨w.heap.size,0,none⟩=some (.slice ao ws.length cap):=by rw[← hw1];simp
 have hsz:w.heap.size<w1.heap.size:=by rw[← hw1];simp
 have HW:=hide hw1
 have HB1:=hide hb1
 have HX:=hide hbx
 have HS:=hide (h.below hb1)
 have HL:=hide (hL.below hb1)
 clear h hL hb1 hbx hw1
 go_enter Tryz.func155,Tryz.ntmps155
 go_wp2_with fail
 rw[HW.out]
 refine (places_any ao ws.length cap ws w1 HS.out hw).mono ?_
 rintro e w2 ⟨ap,pc,dk,rfl,hs,hp,hb2⟩
 have HB2:=hide hb2
 have HP:=hide hp
 have HR:=hide hs
 clear hb2 hp hs
 go_wp2_with (at_make;refine wpList_make_full _ rfl _ _ 123 rfl w2.heap.size 49 i0 (.int .u64 0) 1 Tryz.underlying123 hi0 hz0 hz1 _ _ _ _ l.length rfl rfl rfl rfl (by rw[hz2];omega) (by unfold maxLen;omega) (Nat.le_refl _) ?_)
 intro w3 ho hg
 have hb3:Below w2.heap.size w2 w3:=(Below.refl _ w2).grown hg (Nat.le_refl _) (by simp)
 rw[toList_madeCells_one,← cdTo_zero ws l] at ho
 have HO:=hide ho
 have HK:=hide (Kept.of_below hb3 (fun b=>b=w2.heap.size))
 clear ho hg hb3
 go_wp2_with fail
 go_loopw [19] (fun i wr=>∃ j:Nat,j≤l.length∧i=.int .i64 j∧Hid (wr.ownsRow w2.heap.size 49 1 (.slice (some ⟨w2.heap.size,0,none⟩) l.length l.length) l.length (cdTo ws l l.length j))∧Hid (Kept (fun b=>b=w2.heap.size) w2 wr)∧Hid (∀ v∈l.take j,Z.has ws v=true)) (fun i _=>l.length - (intOf i).toNat)
 case atStart=>exact⟨0,Nat.zero_le _,rfl,HO,HK,hide (by simp)⟩
 case round =>
  obtain⟨j,hj,rfl,hor,hkr,HH⟩:=hrel
  clear HO HK
  have hbw:Below w.heap.size w wr:=HB1.out.trans ((HB2.out.mono (Nat.le_of_lt hsz)).trans (hkr.out.below (by have:=HB2.out.size;omega) (fun k e=>by subst e;have:=HB2.out.size;omega)))
  by_cases hjl:j<l.length
  ·have hC:∀ b,b<w2.heap.size→¬ b=w2.heap.size:=fun b hb=>by omega
   obtain⟨b,off,xk,xi,xs,rfl,hlt,hx,c1,c2,c3⟩:=(HL.out.below HB2.out).at hjl
   have d1:wr.cell? ⟨b,off+j*3,none⟩=some (.int .i64 xk):=by rw[hkr.out.cell (p:=⟨b,off+j*3,none⟩) hlt (hC b hlt)];exact c1
   have d2:wr.cell? ⟨b,off+j*3+1,none⟩=some (.int .i64 xi):=by rw[hkr.out.cell (p:=⟨b,off+j*3+1,none⟩) hlt (hC b hlt)];exact c2
   have d3:wr.cell? ⟨b,off+j*3+2,none⟩=some (.string xs):=by rw[hkr.out.cell (p:=⟨b,off+j*3+2,none⟩) hlt (hC b hlt)];exact c3
   obtain⟨w4,hw4⟩:∃ w4,wr.alloc (.cells #[.int .i64 xk,.int .i64 xi,.string xs] 25)=w4:=⟨_,rfl⟩
   have hb4:Below wr.heap.size wr w4:=by rw[← hw4];exact below_one wr _
   have hk4:Kept (fun b=>b=w2.heap.size) w2 w4:=by rw[← hw4];exact hkr.out.alloc _
   have hor4:w4.ownsRow w2.heap.size 49 1 (.slice (some ⟨w2.heap.size,0,none⟩) l.length l.length) l.length (cdTo ws l l.length j):=owns_below hor.out hb4
   have hbig:w.heap.size<w2.heap.size:=Nat.lt_of_lt_of_le hsz HB2.out.size
   have hbox:w4.cell? ⟨w.heap.size,0,none⟩=some (.slice ao ws.length cap):=by rw[hk4.cell (p:=⟨w.heap.size,0,none⟩) hbig (hC _ hbig),HB2.out.cell (p:=⟨w.heap.size,0,none⟩) hsz];exact HX.out
   have hp4:=HP.out.keptO hk4 hC
   have HBIN:=hide (bin_any ap pc dk ao cap w.heap.size ws xk xi xs w4 HR.out hp4 ((HS.out.below HB2.out).kept0 hk4 hC) hbox (Nat.lt_of_lt_of_le hbig hk4.size) hw)
   have HW4:=hide hw4
   have HK4:=hide hk4
   have HO4:=hide hor4
   have HP4:=hide hp4
   have HBW:=hide (hbw.trans (hb4.mono hbw.size))
   have HX2:=hide hx
   clear c1 c2 c3 hb4 hk4 hor4 hbox hp4 hw4 hx hbw hor hkr
   go_wp2_with fail
   rw[HW4.out]
   refine Calls.mono HBIN.out ?_
   rintro e w5 ⟨i,f,rfl,hF,hb5⟩
   have HB5:=hide (HBW.out.trans (hb5.mono HBW.out.size))
   cases f with
   | false =>
    have hno:=fnd_no HR.out hF
    have hE:Z.cdE ws l=6:=cdE_bad (List.mem_of_getElem? HX2.out) hno
    have FIN:Hid (CodesAns w ws l (.returned (.tuple #[.slice none 0 0,.int .i64 6])) w5):=⟨none,0,0,by rw[hE],by rw[cdL_bad (by rw[hE];decide)];exact Sl.nil0 _ _,HB5.out⟩
    clear hF hno hE hb5 d1 d2 d3 HBIN
    go_wp2
    go_ret2
    exact FIN.out
   | true =>
    obtain⟨hi,hhas,hcd⟩:=fnd_yes HR.out hF
    have hdp:=HR.out.lt i hi
    obtain⟨bp,offp,rfl,hltp,hcp⟩:=(HP4.out.below hb5).at hi
    rw[ints_at dk i (by rw[HR.out.size];exact hi)] at hcp
    obtain⟨p,hp⟩:∃ p,dk[i]! = p:=⟨_,rfl⟩
    rw[hp] at hcp hdp hcd
    have hor5:=owns_below HO4.out hb5
    have hc6:=hor5.cellAt j (by omega)
    rw[cdTo_at hjl] at hc6
    have hf6:=hor5.frozenAt j
    have HO6:=hide (hor5.stored j (.int .u64 (p:Int))).1
    have HCD:=hide hcd
    have HK5:=hide (HK4.out.trans' (G:=fun _=>False) (Kept.of_below hb5 _) (by simp))
    have HH2:Hid (∀ v∈l.take (j+1),Z.has ws v=true):=by
     intro v hv
     rw[take_snocV HX2.out] at hv
     rcases List.mem_append.1 hv with hv|hv
     ·exact HH.out v hv
     ·simp at hv;subst hv;exact hhas
    have zp:IntKind.u64.wrap (p:Int)=(p:Int):=by rw[u64_wrap];omega
    have hiz:(i:Int)<(ws.length:Int):=by omega
    clear hF hhas hb5 d1 d2 d3 HBIN hp hcd hor5 HH hltp
    go_wp2
    go_roundw
    case rel=>exact⟨j+1,hjl,by go_num,hide (by rw[← cdTo_set HX2.out,HCD.out];exact HO6.out),hide (HK5.out.setCell (p:=⟨w2.heap.size,j,none⟩) (.inl rfl) _),HH2⟩
    case measure=>simp[intOf];omega
  ·obtain rfl:j=l.length:=by omega
   have hall:∀ v∈l,Z.has ws v=true:=by have:=HH.out;rwa [List.take_length] at this
   have hE:=cdE_ok hall
   have hrow:wr.ownsRow w2.heap.size 49 1 (.slice (some ⟨w2.heap.size,0,none⟩) l.length l.length) (ints (Z.cdL ws l)).length ((ints (Z.cdL ws l)).map (Value.int .u64)):=by
    have e1:cdTo ws l l.length l.length=(ints (Z.cdL ws l)).map (Value.int .u64):=by rw[cdL_ok hE];simp[cdTo]
    have e2:(ints (Z.cdL ws l)).length=l.length:=by rw[cdL_ok hE];simp[ints]
    rw[e2,← e1];exact hor.out
   obtain⟨ax,cx,hv,hsx,_⟩:=Sl.of_owns hrow
   have e2:(ints (Z.cdL ws l)).length=l.length:=by rw[cdL_ok hE];simp[ints]
   rw[e2] at hv hsx
   injection hv with hv1 hv2 hv3
   subst hv1;subst hv3
   have FIN:Hid (CodesAns w ws l (.returned (.tuple #[.slice (some ⟨w2.heap.size,0,none⟩) l.length l.length,.int .i64 0])) wr):=⟨_,_,_,by rw[hE],hsx,hbw⟩
   clear hall hE hrow hsx e2 hbw hor hkr HH
   go_wp2
   go_ret2
   exact FIN.out
end Go.Proofs.YtnkpgmibhpmdhaaGreat

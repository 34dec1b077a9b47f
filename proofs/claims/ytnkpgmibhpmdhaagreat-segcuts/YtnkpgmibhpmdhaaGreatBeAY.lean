/- Contracts and plain facts, one behind the other: YG YI1 YI2 YI3 -/
import Derived.Test.YtnkpgmibhpmdhaaGreatProg
import Derived.Shelf.SlSortCmp.Kit1
import Derived.Sort.WalkA
import Derived.Sort.WalkB2
import Derived.Sort.WalkB12
import Derived.Deep.LoopGhost
import Derived.Test.YtnkpgmibhpmdhaaGreatBeAX
namespace Go.Proofs.YtnkpgmibhpmdhaaGreat
set_option linter.unusedVariables false
set_option maxRecDepth 10000
open Go.RowKit Go.Sort
theorem four_grow (w:World) (a b c d:Obj):(((w.alloc a).alloc b).alloc c).alloc d=grow (w.drewN 0) #[a,b,c,d]:=by
 rw[alloc_eq_grow,alloc_eq_grow,alloc_eq_grow,alloc_eq_grow,grow_grow,grow_grow,grow_grow];rfl
theorem alike_any (x y:Z.V) (w:World):Calls Tryz.prog 205 #[.agg (encV x).toArray,.agg (encV y).toArray] w fun e w'=>e=.returned (.bool (decide (Z.cv x y=0)))∧∃ q os',w'=grow (w.drewN q) os':=by
 obtain⟨ak,ai,az⟩:=x
 obtain⟨bk,bi,bz⟩:=y
 show Calls Tryz.prog 205 #[.agg #[.int .i64 ak,.int .i64 ai,.string az],.agg #[.int .i64 bk,.int .i64 bi,.string bz]] w _
 obtain⟨c,hc⟩:∃ c,Z.cv ⟨ak,ai,az⟩ ⟨bk,bi,bz⟩=c:=⟨_,rfl⟩
 have HC:Hid (∀ w,Calls Tryz.prog 68 #[.agg #[.int .i64 ak,.int .i64 ai,.string az],.agg #[.int .i64 bk,.int .i64 bi,.string bz]] w fun e w'=>e=.returned (.int .i64 c)∧∃ a b,w'=(w.alloc a).alloc b):=by
  intro w;rw[← hc];exact vcompare_two ak ai az bk bi bz w
 rw[hc]
 clear hc
 go_enter Tryz.func205,Tryz.ntmps205
 go_wp2_with fail
 refine (HC.out _).mono ?_
 rintro e w1 ⟨rfl,a,b,rfl⟩
 go_wp2
 go_ret
 exact⟨rfl,0,_,four_grow _ _ _ _ _⟩
theorem eq_lays (l:List Z.V) (blk off size:Nat) (w:World):EqLays Tryz.prog 205 #[] (encL l) 3 (efL l) blk off size w:=fun m os dk hs x y=>alike_any _ _ _
set_option maxHeartbeats 400000 in
theorem cloneV_nil (w:World):Calls Tryz.prog 202 #[.slice none 0 0] w fun e w'=>e=.returned (.slice none 0 0)∧w'=w:=by
 have hq:=fun (w:World) (a:Option Addr) (n c:Nat)=>Lib.run_eql_slice_nil (P:=Tryz.prog) w 42 25 a n c 0 0 Tryz.underlying42
 go_enter Tryz.func202,Tryz.ntmps202
 go_wp2
 go_ret
 exact⟨rfl,rfl⟩
set_option maxHeartbeats 400000 in
theorem cloneV_some (x:Addr) (len cap:Nat) (l:List Z.V) (w:World) (h:SlV w (some x) len cap l) (hb:len*32≤140737488355328) :
  Calls Tryz.prog 202 #[.slice (some x) len cap] w fun e w'=>∃ v,e=.returned v∧OwnV w' w.heap.size v l∧Below w.heap.size w w':=by
 have hl:=h.1
 have HS:Hid (SlV w (some x) len cap l):=h
 clear h
 have hq:=fun (w:World) (a:Option Addr) (n c:Nat)=>Lib.run_eql_slice_nil (P:=Tryz.prog) w 42 25 a n c 0 0 Tryz.underlying42
 go_enter Tryz.func202,Tryz.ntmps202
 go_wp2_with (at_builtin;refine wpList_appV rfl _ _ rfl w.heap.size _ [] rfl (World.ownsRow_lit w #[] 0 (Nat.le_refl _) (by decide) rfl) (some x) len cap l rfl (HS.out.below (below_one w _)) (by simp;omega) (by simp) ?_)
 intro v1 w1 ho hk _
 have hbel:Below w.heap.size w w1:=(below_one w _).trans (hk.below (by simp) (fun k e=>by simp[Value.ownBlock] at e;omega))
 have ho':OwnV w1 w.heap.size v1 l:=by simpa using ho
 have HO:Hid (OwnV w1 w.heap.size v1 l):=ho'
 have HB:Hid (Below w.heap.size w w1):=hbel
 clear ho ho' hk hbel
 go_wp2
 go_ret
 exact⟨v1,rfl,HO.out,HB.out⟩
theorem cloneV_any (ao:Option Addr) (len cap:Nat) (l:List Z.V) (w:World) (h:SlV w ao len cap l) (hb:len*32≤140737488355328) :
  Calls Tryz.prog 202 #[.slice ao len cap] w fun e w'=>∃ v,e=.returned v∧OwnV w' w.heap.size v l∧Below w.heap.size w w':=by
 cases ao with
 | some x=>exact cloneV_some x len cap l w h hb
 | none =>
  have h4:=h.2.2.2.1 rfl
  have h2:=h.2.1
  have h1:=h.1
  subst h4
  obtain rfl:len=0:=by omega
  obtain rfl:l=[]:=List.eq_nil_of_length_eq_zero h1
  refine (cloneV_nil w).mono ?_
  rintro e w1 ⟨rfl,rfl⟩
  exact⟨_,rfl,⟨rfl,.inl ⟨rfl,rfl⟩⟩,Below.refl _ _⟩
theorem sortV_own (g cap:Nat) (B:Nat) (l:List Z.V) (w:World) (ho:OwnV w B (.slice (some ⟨g,0,none⟩) l.length cap) l) (hl:l.length<1152921504606846976) :
  Calls Tryz.prog 203 #[.slice (some ⟨g,0,none⟩) l.length cap,.func (.func 68) #[] #[]] w fun e w'=>e=.returned (.tuple #[])∧∃ dk,Srt l dk∧RowK (encL l) 3 w' g 0 dk∧OwnV w' B (.slice (some ⟨g,0,none⟩) l.length cap) (rd l dk)∧Kept (fun b=>b=g) w w':=by
 have R:=row_of_own ho
 refine (sortStableV layV Tryz.func242 Tryz.func239 Tryz.func236 Tryz.func237 Tryz.func228 Tryz.func203 3 Tryz.isAgg25 Tryz.sizeOf25 (encL l) (cfL l) id (Y.lx_swo (cfL_swo l) id) 68 #[] g 0 cap (Array.range l.length) w (row_of_own ho) (enters_of Tryz.func68 (by kernel_rfl) rfl) (cmp_lays l g 0 _ w) l.length (by simp) hl (fun i hi=>by simp[hi])).mono ?_
 rintro e w' ⟨rfl,dk,h1,h2,h3⟩
 have hs:=srt_of h2 h3
 have:=own_sorted ho hs.size h1
 exact⟨rfl,dk,hs,⟨R.hk,R.h1,h1.holds R.hblk R.hH (by simp[hs.size]),h1.lt R.hblk⟩,this.1,this.2⟩
theorem Kept.of_own {w w':World} {g:Nat} (h:Kept (fun b=>b=g) w w') {B:Nat} (hB:B≤w.heap.size) (hg:B≤g):Below B w w':=h.below hB (fun k e=>by subst e;exact hg)
theorem sortV_none (ao:Option Addr) (cap:Nat) (w:World):Calls Tryz.prog 203 #[.slice ao 0 cap,.func (.func 68) #[] #[]] w fun e w'=>e=.returned (.tuple #[])∧w'=w:=by
 have eg:=enters_of Tryz.func228 (by kernel_rfl) rfl
 have hin:∀ w,Calls Tryz.prog 236 #[.slice ao 0 cap,.int .i64 0,.int .i64 0,.func (.func 68) #[] #[]] w fun e w'=>e=.returned (.tuple #[])∧w'=w:=by
  intro w
  go_enter Tryz.func236,Tryz.ntmps236
  go_wp2
  refine wp_loop_rounds 1 ?_
  rw[rounds_succ]
  go_wp2
  go_end0
  exact⟨rfl,rfl⟩
 have hst:∀ w,Calls Tryz.prog 228 #[.slice ao 0 cap,.int .i64 0,.func (.func 68) #[] #[]] w fun e w'=>e=.returned (.tuple #[])∧w'=w:=by
  intro w
  go_enter Tryz.func228,Tryz.ntmps228
  go_wp2
  refine wp_loop_rounds 1 ?_
  rw[rounds_succ]
  go_wp2_with fail
  refine (hin _).mono ?_
  rintro e w1 ⟨rfl,rfl⟩
  go_wp2
  refine wp_loop_rounds 1 ?_
  rw[rounds_succ]
  go_wp2
  go_end0
  exact⟨rfl,rfl⟩
 go_enter Tryz.func203,Tryz.ntmps203
 go_wp2_with fail
 refine (hst _).mono ?_
 rintro e w1 ⟨rfl,rfl⟩
 go_wp2
 go_end0
 exact⟨rfl,rfl⟩
theorem compact_few (ao:Option Addr) (len cap:Nat) (w:World) (h:len<2):Calls Tryz.prog 204 #[.slice ao len cap,.func (.func 205) #[] #[]] w fun e w'=>e=.returned (.slice ao len cap)∧w'=w:=by
 have hz:(len:Int)<2:=by omega
 go_enter Tryz.func204,Tryz.ntmps204
 go_wp2
 go_ret
 exact⟨rfl,rfl⟩
theorem SlV.take {w:World} {ao:Option Addr} {len cap:Nat} {l:List Z.V} (h:SlV w ao len cap l) {m:Nat} (hm:m≤len):SlV w ao m cap (l.take m):=by
 obtain⟨h1,h2,h3,h4,h5⟩:=h
 refine⟨by simp;omega,by omega,h3,h4,?_⟩
 rcases h5 with h5|⟨b,off,hao,hlt,h5⟩
 ·exact .inl (by omega)
 ·refine .inr ⟨b,off,hao,hlt,fun j x hx=>h5 j x ?_⟩
  by_cases hj:j<m
  ·rwa [List.getElem?_take_of_lt hj] at hx
  ·rw[List.getElem?_take_eq_none (by omega)] at hx;cases hx
def WordsAns (w:World) (l:List Z.V) (e:Ending) (w':World):Prop:=∃ a n c,e=.returned (.slice a n c)∧SlV w' a n c (Z.wds l)∧(∀ b,a.map (·.block)=some b→w.heap.size≤b)∧Below w.heap.size w w'
theorem words_one {l:List Z.V} {dk:Array Nat} (h:Srt l dk) (hl:l.length<2):rd l dk=Z.wds l:=by
 rw[← cw_wds h]
 unfold cw
 rw[Y.cpt_all (efL l) dk l.length (fun j hj=>Y.kp_first _ _ j (by omega)),List.map_map]
 apply List.ext_getElem?
 intro i
 by_cases hi:i<l.length
 ·rw[rd_get l dk i (by rw[h.size];exact hi)];simp[hi]
 ·rw[List.getElem?_eq_none (by rw[rd_length,h.size];omega),List.getElem?_eq_none (by simp;omega)]
theorem cpt_le {α:Type} [Inhabited α] (ef:α→α→Bool) (d:Array α) (m:Nat):(Y.cpt ef d m).length≤m:=by
 unfold Y.cpt;rw[List.length_map];exact Nat.le_trans (List.length_filter_le _ _) (by simp)
theorem words_some (ao:Option Addr) (len cap:Nat) (l:List Z.V) (w:World) (h:SlV w ao len cap l) (hb:len*32≤140737488355328):Calls Tryz.prog 154 #[.slice ao len cap] w (WordsAns w l):=by
 obtain rfl:len=l.length:=h.1.symm
 have HS:Hid (SlV w ao l.length cap l):=h
 clear h
 go_enter Tryz.func154,Tryz.ntmps154
 go_wp2_with fail
 refine (cloneV_any ao l.length cap l w HS.out hb).mono ?_
 rintro e w1 ⟨v,rfl,ho,hb1⟩
 have B1:Hid (Below w.heap.size w w1):=hb1
 clear hb1 HS
 rcases ho.2 with ⟨rfl,h0⟩|⟨g,cap1,cur,rfl,hg,hh,hc,hm,hsz,ht⟩
 ·obtain rfl:l=[]:=List.eq_nil_of_length_eq_zero h0
  clear ho h0
  go_wp2_with fail
  refine (sortV_none none 0 w1).mono ?_
  rintro e w2 ⟨rfl,rfl⟩
  go_wp2_with fail
  refine (compact_few none 0 0 _ (by omega)).mono ?_
  rintro e w2 ⟨rfl,rfl⟩
  go_wp2
  go_ret
  exact⟨none,0,0,rfl,⟨rfl,Nat.le_refl _,by simp[maxLen],fun _=>rfl,.inl rfl⟩,by simp,B1.out⟩
 ·have hcl:l.length≤cap1:=hc
  have HO:Hid (OwnV w1 w.heap.size (.slice (some ⟨g,0,none⟩) l.length cap1) l):=ho
  have HG:Hid (w.heap.size≤g):=hg
  clear ho hh hc hm hsz ht hg
  have hlt:l.length<1152921504606846976:=by omega
  go_wp2_with fail
  refine (sortV_own g cap1 _ l w1 HO.out hlt).mono ?_
  rintro e w2 ⟨rfl,dk,hs,hR,ho2,hk2⟩
  have B2:Hid (Below w.heap.size w w2):=B1.out.trans (hk2.of_own B1.out.size HG.out)
  have HR:Hid _:=hR
  have HW:Hid (Srt l dk):=hs
  have O2:Hid (OwnV w2 w.heap.size (.slice (some ⟨g,0,none⟩) l.length cap1) (rd l dk)):=ho2
  have hdk:dk.size=l.length:=hs.size
  clear hs hR ho2 hk2 B1 HO
  by_cases h2:l.length<2
  ·go_wp2_with fail
   refine (compact_few _ _ _ _ h2).mono ?_
   rintro e w3 ⟨rfl,rfl⟩
   go_wp2
   go_ret
   obtain⟨a,c,e1,hsl,_⟩:=SlV.of_own O2.out
   injection e1 with e1 e2 e3
   subst e1;subst e3
   rw[words_one HW.out h2] at hsl
   have hn:(Z.wds l).length=l.length:=by rw[← words_one HW.out h2,rd_length,hdk]
   rw[hn] at hsl
   exact⟨_,_,_,rfl,hsl,fun b hb=>by simp at hb;rw[← hb];exact HG.out,B2.out⟩
  ·have hz0:∀ w,(zeroValue 25).run Tryz.prog w=.ok (.agg (encL l l.length).toArray) w:=by
    have:encL l l.length=[.int .i64 0,.int .i64 0,.string ⟨#[]⟩]:=by unfold encL;rw[List.getD_eq_getElem?_getD,List.getElem?_eq_none (Nat.le_refl _)];rfl
    intro w;rw[this];exact Tryz.zeroValue25 w
   have hC:=compactV layV Tryz.underlying240 Tryz.isAgg240 Tryz.sizeOf240 Tryz.func204 3 Tryz.isAgg25 Tryz.sizeOf25 (encL l) (efL l) l.length hz0 rfl 205 #[] g 0 cap1 dk w2 HR.out (enters_of Tryz.func205 (by kernel_rfl) rfl) (eq_lays l g 0 _ w2) (by omega) (by omega) (by omega)
   rw[hdk] at hC
   have HC:Hid _:=hC
   clear hC hz0
   go_wp2_with fail
   refine Calls.mono HC.out ?_
   rintro e w3 ⟨rfl,d3,hd3,hw3,hx3⟩
   have h3:=own_sorted (l:=l) (l0:=rd l dk) (dk:=d3) (w2:=w3) (by rw[rd_length,hdk];exact O2.out) (by rw[rd_length,hdk];exact hd3) hw3
   rw[rd_length,hdk] at h3
   obtain⟨m,hm⟩:∃ m,(Y.cpt (efL l) dk l.length).length=m:=⟨_,rfl⟩
   have hml:m≤l.length:=by rw[← hm];exact cpt_le _ _ _
   have ht:(rd l d3).take m=Z.wds l:=by
    rw[← cw_wds HW.out]
    unfold cw
    apply List.ext_getElem?
    intro x
    by_cases hx:x<m
    ·rw[List.getElem?_take_of_lt hx,rd_get l d3 x (by omega),List.getElem?_map,hx3 x (by omega)];rfl
    ·rw[List.getElem?_take_eq_none (by omega),List.getElem?_eq_none (by simp;omega)]
   obtain⟨a,c,e1,hsl,_⟩:=SlV.of_own h3.1
   rw[rd_length,hd3] at e1 hsl
   injection e1 with e1 e2 e3
   subst e1;subst e3
   have hsl2:=hsl.take hml
   rw[ht] at hsl2
   have FIN:Hid (WordsAns w l (.returned (.slice (some ⟨g,0,none⟩) m cap1)) w3):=⟨_,_,_,rfl,hsl2,fun b hb=>by simp at hb;rw[← hb];exact HG.out,B2.out.trans (h3.2.of_own B2.out.size HG.out)⟩
   rw[hm]
   clear hsl hsl2 h3 hx3 hw3 ht hm HC O2 HW HR
   go_wp2
   go_ret
   exact FIN.out
end Go.Proofs.YtnkpgmibhpmdhaaGreat
namespace Go.Proofs.YtnkpgmibhpmdhaaGreat
open Go.Shelf Go.RowKit Go.Lib Go.Sort
set_option maxRecDepth 1000000
set_option linter.unusedVariables false
variable {P : Program} {α : Type} [Inhabited α]
structure LayI (P:Program):Prop where
 mixed:P.follows .mixedOrders=true
 tUnit:P.underlying 0=some (TypeDesc.tuple #[])
 aUnit:∀ w,(isAgg 0).run P w=.ok false w
 zUnit:∀ w,(Go.sizeOf 0).run P w=.ok 1 w
 vUnit:∀ w,(zeroValue 0).run P w=.ok (Value.tuple #[]) w
 tInt:P.underlying 3=some (TypeDesc.int IntKind.i64)
 aInt:∀ w,(isAgg 3).run P w=.ok false w
 zInt:∀ w,(Go.sizeOf 3).run P w=.ok 1 w
 vInt:∀ w,(zeroValue 3).run P w=.ok (Value.int IntKind.i64 0) w
 tBool:P.underlying 4=some (TypeDesc.bool)
 aBool:∀ w,(isAgg 4).run P w=.ok false w
 zBool:∀ w,(Go.sizeOf 4).run P w=.ok 1 w
 vBool:∀ w,(zeroValue 4).run P w=.ok (Value.bool false) w
 tUint:P.underlying 125=some (TypeDesc.int IntKind.u64)
 aUint:∀ w,(isAgg 125).run P w=.ok false w
 zUint:∀ w,(Go.sizeOf 125).run P w=.ok 1 w
 vUint:∀ w,(zeroValue 125).run P w=.ok (Value.int IntKind.u64 0) w
 tSl:P.underlying 93=some (TypeDesc.slice 3)
 aSl:∀ w,(isAgg 93).run P w=.ok false w
 zSl:∀ w,(Go.sizeOf 93).run P w=.ok 1 w
 vSl:∀ w,(zeroValue 93).run P w=.ok (Value.slice none 0 0) w
 tFn:P.underlying 150=some (TypeDesc.func #[3,3] #[3] false)
 aFn:∀ w,(isAgg 150).run P w=.ok false w
 zFn:∀ w,(Go.sizeOf 150).run P w=.ok 1 w
 vFn:∀ w,(zeroValue 150).run P w=.ok (Value.nilFunc) w
theorem layI:LayI Tryz.prog where
 mixed:=by kernel_rfl
 tUnit:=Tryz.underlying0
 aUnit:=Tryz.isAgg0
 zUnit:=Tryz.sizeOf0
 vUnit:=Tryz.zeroValue0
 tInt:=Tryz.underlying3
 aInt:=Tryz.isAgg3
 zInt:=Tryz.sizeOf3
 vInt:=Tryz.zeroValue3
 tBool:=Tryz.underlying4
 aBool:=Tryz.isAgg4
 zBool:=Tryz.sizeOf4
 vBool:=Tryz.zeroValue4
 tUint:=Tryz.underlying125
 aUint:=Tryz.isAgg125
 zUint:=Tryz.sizeOf125
 vUint:=Tryz.zeroValue125
 tSl:=Tryz.underlying93
 aSl:=Tryz.isAgg93
 zSl:=Tryz.sizeOf93
 vSl:=Tryz.zeroValue93
 tFn:=Tryz.underlying150
 aFn:=Tryz.isAgg150
 zFn:=Tryz.sizeOf150
 vFn:=Tryz.zeroValue150
set_option maxHeartbeats 4000000 in
theorem swapI (LY:LayI P) (F:P.funcs[244]?=some Tryz.f244) (enc:α→Value) (g:Nat) (cb:Array Value) (blk off cap a b n:Nat) (d0 d:Array α) (w0 w:World)
  (R:Row1 enc w0 blk off d0) (hs:d0.size=d.size) (S:SW enc w0 blk off d w) (hab:a+n≤b) (hb:b+n≤d.size) (hsz:d.size<4611686018427387904) :
  Calls P 244 #[.slice (some ⟨blk,off,none⟩) d.size cap,.int .i64 a,.int .i64 b,.int .i64 n,.func (.func g) #[] cb] w fun e w'=>e=.returned (.tuple #[])∧∃ d',SW enc w0 blk off d' w'∧Y.Via (Y.swR a b n) a (b+n) d d':=by
 have mixed:=LY.mixed;have tUnit:=LY.tUnit;have aUnit:=LY.aUnit;have zUnit:=LY.zUnit;have vUnit:=LY.vUnit;have tInt:=LY.tInt;have aInt:=LY.aInt;have zInt:=LY.zInt;have vInt:=LY.vInt;have tBool:=LY.tBool;have aBool:=LY.aBool;have zBool:=LY.zBool;have vBool:=LY.vBool;have tUint:=LY.tUint;have aUint:=LY.aUint;have zUint:=LY.zUint;have vUint:=LY.vUint;have tSl:=LY.tSl;have aSl:=LY.aSl;have zSl:=LY.zSl;have vSl:=LY.vSl;have tFn:=LY.tFn;have aFn:=LY.aFn;have zFn:=LY.zFn;have vFn:=LY.vFn
 have uSl:=run_underlying LY.tSl
 have hcl0:=R.hO.cells
 simp only[Value.cells] at hcl0
 have hst:=R.hO.store P
 have S0:Aside (SW enc w0 blk off d w):=S
 have V0:Aside (Y.Via (Y.swR a b 0) a (b+n) d d):=(Y.Via.refl a (b+n) d).congr fun x=>(Y.swR_zero a b x).symm
 clear S
 go_enter F,Tryz.ntmps244
 go_wp2
 go_loopg [10] n (fun kx s10 wr=>∃ (i:Nat) (dk:Array α),s10=.int .i64 i∧i≤n∧n - i≤kx∧dk.size=d.size∧Aside (SW enc w0 blk off dk wr)∧Aside (Y.Via (Y.swR a b i) a (b+n) d dk))
 case atStart=>exact⟨0,d,rfl,by omega,by omega,rfl,S0,V0⟩
 case round =>
  clear S0 V0
  obtain⟨i,dk,rfl,hin,hkx,hds,S1,V1⟩:=hrel
  by_cases hlt:(i:Int)<(n:Int)
  ·go_wp2_with fail
   obtain⟨iN1,hiN1⟩:∃ zz,zz=a+i:=⟨_,rfl⟩
   obtain⟨jN1,hjN1⟩:∃ zz,zz=b+i:=⟨_,rfl⟩
   have ea1:((a:Int)+(i:Int)).toNat=iN1:=by omega
   have pa1:(0:Int)≤(a:Int)+(i:Int):=by omega
   have ba1:(a:Int)+(i:Int)<(d.size:Int):=by omega
   have ra1:IntKind.i64.wrap ((a:Int)+(i:Int))=(a:Int)+(i:Int):=by rw[IntKind.wrap_i64];omega
   have ec1:((b:Int)+(i:Int)).toNat=jN1:=by omega
   have pc1:(0:Int)≤(b:Int)+(i:Int):=by omega
   have bc1:(b:Int)+(i:Int)<(d.size:Int):=by omega
   have rc1:IntKind.i64.wrap ((b:Int)+(i:Int))=(b:Int)+(i:Int):=by rw[IntKind.wrap_i64];omega
   obtain⟨x1,hx1⟩:∃ x,x=dk[a+i]! := ⟨_,rfl⟩
   obtain⟨y1,hy1⟩:∃ x,x=dk[b+i]! := ⟨_,rfl⟩
   have S2:Aside (SW enc w0 blk off (swp dk (a+i) (b+i)) ((wr.setCell ⟨blk,off+iN1,none⟩ (enc y1)).setCell ⟨blk,off+jN1,none⟩ (enc x1)).drew):=by rw[hiN1,hjN1,hx1,hy1];exact S1.out.swapped R (a+i) (b+i) (by omega) (by omega)
   have c1a:=S1.out.c1 R (by omega) (a+i) (by omega)
   have f1a:=S1.out.f1 R (by omega) (a+i) (by omega)
   have c1b:=S1.out.c1 R (by omega) (b+i) (by omega)
   have f1b:=S1.out.f1 R (by omega) (b+i) (by omega)
   obtain⟨u1,c1c⟩:=S1.out.c2 R (by omega) (a+i) (b+i) (by omega) (by omega) (enc y1)
   rw[← hjN1,← hiN1] at c1c
   rw[← hx1,← hiN1] at c1a
   rw[← hy1,← hjN1] at c1b
   rw[← hiN1] at f1a
   rw[← hjN1] at f1b
   clear S1 hx1 hy1 hiN1 hjN1
   go_wp2_with fail
   go_big_region_o
   clear c1a c1b c1c f1a f1b
   generalize ((wr.setCell ⟨blk,off+iN1,none⟩ (enc y1)).setCell ⟨blk,off+jN1,none⟩ (enc x1)).drew=w2 at S2 ⊢
   clear ea1 ec1
   have V2:Aside (Y.Via (Y.swR a b (i+1)) a (b+n) d (swp dk (a+i) (b+i))):=(V1.out.trans (Y.via_swp dk (by omega) (by omega) (by omega) (by omega) (by omega))).congr fun x=>Y.swR_step (by omega) x
   clear V1
   go_wp2
   go_roundg (n - (i+1))
   case measure=>omega
   case rel=>exact⟨i+1,swp dk (a+i) (b+i),by simp,by omega,Nat.le_refl _,by rw[size_swp];exact hds,S2,V2⟩
  ·obtain rfl:i=n:=by omega
   go_wp2
   go_end0
   exact⟨rfl,dk,S1.out,V1.out⟩
end Go.Proofs.YtnkpgmibhpmdhaaGreat
namespace Go.Proofs.YtnkpgmibhpmdhaaGreat
open Go.Shelf Go.RowKit Go.Lib Go.Sort
set_option maxRecDepth 1000000
set_option linter.unusedVariables false
variable {P : Program} {α : Type} [Inhabited α]
set_option maxHeartbeats 4000000 in
theorem rotateI (LY:LayI P) (Fsw:P.funcs[244]?=some Tryz.f244) (Fro:P.funcs[243]?=some Tryz.f243) (enc:α→Value) (g:Nat) (cb:Array Value) (blk off cap a m b:Nat) (d0 d:Array α) (w0 w:World)
  (R:Row1 enc w0 blk off d0) (hs:d0.size=d.size) (S:SW enc w0 blk off d w) (ham:a<m) (hmb:m<b) (hb:b≤d.size) (hsz:d.size<4611686018427387904) :
  Calls P 243 #[.slice (some ⟨blk,off,none⟩) d.size cap,.int .i64 a,.int .i64 m,.int .i64 b,.func (.func g) #[] cb] w fun e w'=>e=.returned (.tuple #[])∧∃ d',SW enc w0 blk off d' w'∧Y.Via (Y.rot a m b) a b d d':=by
 have mixed:=LY.mixed;have tUnit:=LY.tUnit;have aUnit:=LY.aUnit;have zUnit:=LY.zUnit;have vUnit:=LY.vUnit;have tInt:=LY.tInt;have aInt:=LY.aInt;have zInt:=LY.zInt;have vInt:=LY.vInt;have tBool:=LY.tBool;have aBool:=LY.aBool;have zBool:=LY.zBool;have vBool:=LY.vBool;have tUint:=LY.tUint;have aUint:=LY.aUint;have zUint:=LY.zUint;have vUint:=LY.vUint;have tSl:=LY.tSl;have aSl:=LY.aSl;have zSl:=LY.zSl;have vSl:=LY.vSl;have tFn:=LY.tFn;have aFn:=LY.aFn;have zFn:=LY.zFn;have vFn:=LY.vFn
 have uSl:=run_underlying LY.tSl
 have S0:Aside (SW enc w0 blk off d w):=S
 clear S
 obtain⟨i0,hi0⟩:∃ i0,a+i0=m:=⟨m - a,by omega⟩
 obtain⟨j0,hj0⟩:∃ j0,m+j0=b:=⟨b - m,by omega⟩
 have zi:(m:Int) - (a:Int)=(i0:Int):=by omega
 have zj:(b:Int) - (m:Int)=(j0:Int):=by omega
 have ri:IntKind.i64.wrap (i0:Int)=(i0:Int):=by rw[IntKind.wrap_i64];omega
 have rj:IntKind.i64.wrap (j0:Int)=(j0:Int):=by rw[IntKind.wrap_i64];omega
 have esw:∀ args w,(callFunc 244 args).run P w=.ok (.enter 244 args) w:=enters_of Fsw (by kernel_rfl) rfl
 go_enter Fro,Tryz.ntmps243
 go_wp2
 clear zi zj ri rj
 go_loopg [10,11] (i0+j0) (fun kx s10 s11 wr=>∃ (i j:Nat) (dk:Array α) (f:Nat→Nat),s10=.int .i64 i∧s11=.int .i64 j∧0<i∧0<j∧i≤i0∧j≤j0∧i+j≤kx∧dk.size=d.size∧Aside (SW enc w0 blk off dk wr)∧Aside (Y.Via f a b d dk)∧Aside (∀ x,f (Y.rot (m - i) m (m+j) x)=Y.rot a m b x))
 case atStart=>exact⟨i0,j0,d,fun x=>x,rfl,rfl,by omega,by omega,Nat.le_refl _,Nat.le_refl _,Nat.le_refl _,rfl,S0,Y.Via.refl a b d,fun x=>by rw[show m - i0=a by omega,hj0]⟩
 case round =>
  clear S0
  obtain⟨i,j,dk,f,rfl,rfl,hi,hj,hii,hjj,hkx,hds,S1,V1,W1⟩:=hrel
  obtain⟨u,hu⟩:∃ u,u+i=m:=⟨m - i,by omega⟩
  have zu:(m:Int) - (i:Int)=(u:Int):=by omega
  have ru:IntKind.i64.wrap (u:Int)=(u:Int):=by rw[IntKind.wrap_i64];omega
  by_cases hne:i=j
  ·subst hne
   go_wp2_with fail
   rw[← hds]
   refine (swapI LY Fsw enc g cb blk off cap u m i d0 dk w0 _ R (by omega) S1.out (by omega) (by omega) (by omega)).mono ?_
   rintro e w2 ⟨rfl,d2,S2,V2⟩
   go_wp2
   go_end0
   refine⟨rfl,d2,S2,((V1.out.trans (V2.mono (by omega) (by omega) (by omega))).congr fun x=>?_)⟩
   have h1:Y.swR u m i x=Y.rot (m - i) m (m+i) x:=by rw[show u=m - i by omega];exact Y.rot_even (by omega) x
   rw[h1];exact W1.out x
  ·have hnz:¬ (i:Int)=(j:Int):=by omega
   by_cases hgt:(j:Int)<(i:Int)
   ·obtain⟨r,hr⟩:∃ r,r+j=i:=⟨i - j,by omega⟩
    have zr:(i:Int) - (j:Int)=(r:Int):=by omega
    have rr:IntKind.i64.wrap (r:Int)=(r:Int):=by rw[IntKind.wrap_i64];omega
    go_wp2_with fail
    rw[← hds]
    refine (swapI LY Fsw enc g cb blk off cap u m j d0 dk w0 _ R (by omega) S1.out (by omega) (by omega) (by omega)).mono ?_
    rintro e w2 ⟨rfl,d2,S2,V2⟩
    have hd2:=V2.size
    rw[hds]
    go_wp2
    go_roundg (r+j)
    case measure=>omega
    case rel=>exact⟨r,j,d2,_,rfl,rfl,by omega,hj,by omega,hjj,Nat.le_refl _,by omega,S2,V1.out.trans (V2.mono (by omega) (by omega) (by omega)),fun x=>by rw[show u=m - i by omega,show r=i - j by omega,Y.rot_left (by omega) hj (by omega) x];exact W1.out x⟩
   ·obtain⟨r,hr⟩:∃ r,r+i=j:=⟨j - i,by omega⟩
    obtain⟨v,hv⟩:∃ v,v+i=m+j:=⟨m+j - i,by omega⟩
    have zr:(j:Int) - (i:Int)=(r:Int):=by omega
    have zv:(m:Int)+(j:Int) - (i:Int)=(v:Int):=by omega
    have rr:IntKind.i64.wrap (r:Int)=(r:Int):=by rw[IntKind.wrap_i64];omega
    have rv:IntKind.i64.wrap (v:Int)=(v:Int):=by rw[IntKind.wrap_i64];omega
    have rmj:IntKind.i64.wrap ((m:Int)+(j:Int))=(m:Int)+(j:Int):=by rw[IntKind.wrap_i64];omega
    go_wp2_with fail
    rw[← hds]
    refine (swapI LY Fsw enc g cb blk off cap u v i d0 dk w0 _ R (by omega) S1.out (by omega) (by omega) (by omega)).mono ?_
    rintro e w2 ⟨rfl,d2,S2,V2⟩
    have hd2:=V2.size
    rw[hds]
    go_wp2
    go_roundg (i+r)
    case measure=>omega
    case rel=>exact⟨i,r,d2,_,rfl,rfl,hi,by omega,hii,by omega,Nat.le_refl _,by omega,S2,V1.out.trans (V2.mono (by omega) (by omega) (by omega)),fun x=>by rw[show u=m - i by omega,show v=m+j - i by omega,show r=j - i by omega,Y.rot_right (by omega) hi (by omega) x];exact W1.out x⟩
end Go.Proofs.YtnkpgmibhpmdhaaGreat
namespace Go.Proofs.YtnkpgmibhpmdhaaGreat
open Go.Shelf Go.RowKit Go.Lib Go.Sort
set_option maxRecDepth 1000000
set_option linter.unusedVariables false
variable {P : Program} {α : Type} [Inhabited α]
set_option maxHeartbeats 16000000 in
theorem insI (LY:LayI P) (Fin:P.funcs[240]?=some Tryz.f240) (enc:α→Value) (cf:α→α→Int) (lab:α→Nat) (hL:SWO (Y.lx (ltOf cf) lab)) (g:Nat) (cb:Array Value) (blk off cap:Nat) (d0:Array α) (w0:World)
  (R:Row1 enc w0 blk off d0) (eg:∀ args w,(callFunc g args).run P w=.ok (.enter g args) w) (hcmp:CmpLays1 P g cb enc cf blk off d0.size w0) (a b:Nat) (d:Array α) (w:World) (hs:d0.size=d.size) (S:SW enc w0 blk off d w) (hab:a≤b) (hb:b≤d.size) (hsz:d.size<4611686018427387904) (hasc:Y.Asc lab a b d) :
  Calls P 240 #[.slice (some ⟨blk,off,none⟩) d.size cap,.int .i64 a,.int .i64 b,.func (.func g) #[] cb] w fun e w'=>e=.returned (.tuple #[])∧∃ d',SW enc w0 blk off d' w'∧PermIn a b d d'∧SortedIn (Y.lx (ltOf cf) lab) a b d':=by
 have mixed:=LY.mixed;have tUnit:=LY.tUnit;have aUnit:=LY.aUnit;have zUnit:=LY.zUnit;have vUnit:=LY.vUnit;have tInt:=LY.tInt;have aInt:=LY.aInt;have zInt:=LY.zInt;have vInt:=LY.vInt;have tBool:=LY.tBool;have aBool:=LY.aBool;have zBool:=LY.zBool;have vBool:=LY.vBool;have tUint:=LY.tUint;have aUint:=LY.aUint;have zUint:=LY.zUint;have vUint:=LY.vUint;have tSl:=LY.tSl;have aSl:=LY.aSl;have zSl:=LY.zSl;have vSl:=LY.vSl;have tFn:=LY.tFn;have aFn:=LY.aFn;have zFn:=LY.zFn;have vFn:=LY.vFn
 have uSl:=run_underlying LY.tSl
 have hcl0:=R.hO.cells
 simp only[Value.cells] at hcl0
 have hst:=R.hO.store P
 have HC:Aside _:=hcmp
 have HL:Aside (SWO (Y.lx (ltOf cf) lab)):=hL
 have HX:Aside (Y.Asc lab a b d):=hasc
 have S0:Aside (SW enc w0 blk off d w):=S
 have P0:Aside (PermIn a (a+1) d d):=permIn_refl d a (a+1)
 have R0:Aside (SortedIn (Y.lx (ltOf cf) lab) a (a+1) d):=fun i j h1 h2 h3=>by omega
 clear hcmp hL hasc S
 have ra1:IntKind.i64.wrap ((a:Int)+1)=(a:Int)+1:=by rw[IntKind.wrap_i64];omega
 go_enter Fin,Tryz.ntmps240
 go_wp2
 go_loopg [8] (b - a) (fun g1 vi wr=>∃ (i:Nat) (dk:Array α),vi=.int .i64 i∧a<i∧(i≤b∨b≤a)∧b - i≤g1∧dk.size=d.size∧Aside (SW enc w0 blk off dk wr)∧Aside (PermIn a i d dk)∧Aside (SortedIn (Y.lx (ltOf cf) lab) a i dk)∧Aside (b≤a→dk=d))
 case atStart=>exact⟨a+1,d,by first|rfl|go_num,by omega,by omega,by omega,rfl,S0,P0,R0,fun _=>rfl⟩
 case round =>
  clear S0 P0 R0
  obtain⟨i,dk,rfl,hai,hib,hg1,hsk,S1,P1,R1,E1⟩:=hrel
  by_cases hlt:(i:Int)<(b:Int)
  ·have hlt2:i<b:=by omega
   have I0:Aside (Ins (Y.lx (ltOf cf) lab) a i i dk):=Y.ins_start R1.out
   have T0:Aside (Y.Top lab a i i dk):=Y.top_start HX.out P1.out hlt2 hai hb
   have Q0:Aside (PermIn a (i+1) d dk):=permIn_mono d dk a i a (i+1) (Nat.le_refl _) (by omega) (by omega) P1.out
   clear P1 R1 E1
   go_wp2
   go_loopg [9] i (fun g2 vj wr2=>∃ (j:Nat) (dj:Array α),vj=.int .i64 j∧a≤j∧j≤i∧j≤g2∧dj.size=d.size∧Aside (SW enc w0 blk off dj wr2)∧Aside (PermIn a (i+1) d dj)∧Aside (Ins (Y.lx (ltOf cf) lab) a j i dj)∧Aside (Y.Top lab a j i dj))
   case atStart=>exact⟨i,dk,rfl,by omega,Nat.le_refl _,Nat.le_refl _,hsk,S1,Q0,I0,T0⟩
   case round =>
    clear S1 Q0 I0 T0
    obtain⟨j,dj,rfl,haj,hji,hg2,hsj,S2,Q2,I2,T2⟩:=hrel
    by_cases hja:(a:Int)<(j:Int)
    ·obtain⟨r,hr⟩:∃ r,r+1=j:=⟨j - 1,by omega⟩
     have zr:(j:Int) - 1=(r:Int):=by omega
     have hjad:decide ((j:Int)>(a:Int))=true:=decide_eq_true hja
     cases hlv:ltOf cf dj[j]! dj[r]! with
     | true =>
      obtain⟨iN1,hiN1⟩:∃ zz,zz=j:=⟨_,rfl⟩
      obtain⟨jN1,hjN1⟩:∃ zz,zz=r:=⟨_,rfl⟩
      have ea1:((j:Int)).toNat=iN1:=by omega
      have pa1:(0:Int)≤(j:Int):=by omega
      have ba1:(j:Int)<(d.size:Int):=by omega
      have ra1:IntKind.i64.wrap ((j:Int))=(j:Int):=by rw[IntKind.wrap_i64];omega
      have ec1:((r:Int)).toNat=jN1:=by omega
      have pc1:(0:Int)≤(r:Int):=by omega
      have bc1:(r:Int)<(d.size:Int):=by omega
      have rc1:IntKind.i64.wrap ((r:Int))=(r:Int):=by rw[IntKind.wrap_i64];omega
      obtain⟨x1,hx1⟩:∃ x,x=dj[j]! := ⟨_,rfl⟩
      obtain⟨y1,hy1⟩:∃ x,x=dj[r]! := ⟨_,rfl⟩
      have l1a:=S2.out.cl R (by omega) (j) (by omega)
      have l1b:=S2.out.cl R (by omega) (r) (by omega)
      rw[← hx1,← hiN1] at l1a
      rw[← hy1,← hjN1] at l1b
      have hc1:=S2.out.cmp HC.out (by omega) x1 y1
      have hv1:cf x1 y1<0:=by rw[hx1,hy1];exact of_decide_eq_true hlv
      have hd1:decide (cf x1 y1<0)=true:=decide_eq_true hv1
      clear hx1 hy1 hiN1 hjN1
      go_wp2_with fail
      go_quiet_grown (first|(go_at_fn g;refine Calls.grown_of (hc1 _ _)))
      have S3:Aside (SW enc w0 blk off dj (grow (wr.drewN nq) osq)):=S2.out.grown nq osq
      clear l1a l1b hc1 S2
      generalize grow (wr.drewN nq) osq=w3 at S3 ⊢
      clear nq osq
      clear ea1 ec1
      go_wp2_with fail
      obtain⟨iN2,hiN2⟩:∃ zz,zz=j:=⟨_,rfl⟩
      obtain⟨jN2,hjN2⟩:∃ zz,zz=r:=⟨_,rfl⟩
      have ea2:((j:Int)).toNat=iN2:=by omega
      have pa2:(0:Int)≤(j:Int):=by omega
      have ba2:(j:Int)<(d.size:Int):=by omega
      have ra2:IntKind.i64.wrap ((j:Int))=(j:Int):=by rw[IntKind.wrap_i64];omega
      have ec2:((r:Int)).toNat=jN2:=by omega
      have pc2:(0:Int)≤(r:Int):=by omega
      have bc2:(r:Int)<(d.size:Int):=by omega
      have rc2:IntKind.i64.wrap ((r:Int))=(r:Int):=by rw[IntKind.wrap_i64];omega
      obtain⟨x2,hx2⟩:∃ x,x=dj[j]! := ⟨_,rfl⟩
      obtain⟨y2,hy2⟩:∃ x,x=dj[r]! := ⟨_,rfl⟩
      have S4:Aside (SW enc w0 blk off (swp dj (j) (r)) ((w3.setCell ⟨blk,off+iN2,none⟩ (enc y2)).setCell ⟨blk,off+jN2,none⟩ (enc x2)).drew):=by rw[hiN2,hjN2,hx2,hy2];exact S3.out.swapped R (j) (r) (by omega) (by omega)
      have c2a:=S3.out.c1 R (by omega) (j) (by omega)
      have f2a:=S3.out.f1 R (by omega) (j) (by omega)
      have c2b:=S3.out.c1 R (by omega) (r) (by omega)
      have f2b:=S3.out.f1 R (by omega) (r) (by omega)
      obtain⟨u2,c2c⟩:=S3.out.c2 R (by omega) (j) (r) (by omega) (by omega) (enc y2)
      rw[← hjN2,← hiN2] at c2c
      rw[← hx2,← hiN2] at c2a
      rw[← hy2,← hjN2] at c2b
      rw[← hiN2] at f2a
      rw[← hjN2] at f2b
      clear S3 hx2 hy2 hiN2 hjN2
      go_wp2_with fail
      go_big_region_o
      clear c2a c2b c2c f2a f2b
      generalize ((w3.setCell ⟨blk,off+iN2,none⟩ (enc y2)).setCell ⟨blk,off+jN2,none⟩ (enc x2)).drew=w4 at S4 ⊢
      clear ea2 ec2
      have hf:PermIn a (i+1) d (swp dj j r)∧Ins (Y.lx (ltOf cf) lab) a r i (swp dj j r)∧Y.Top lab a r i (swp dj j r):=by
       refine⟨permIn_trans _ _ _ a (i+1) Q2.out (swp_permIn dj a (i+1) j r (by omega) (by omega) (by omega) (by omega) (by omega)),?_⟩
       have h0:=I2.out
       have t0:=T2.out
       rw[← hr] at h0 t0 hlv ⊢
       exact⟨h0.step (by rw[t0.test (by omega) (by omega)];exact hlv) (by omega) (by omega),t0.step (by omega) (by omega) (by omega)⟩
      have Q3:Aside _:=hf.1
      have I3:Aside _:=hf.2.1
      have T3:Aside _:=hf.2.2
      clear hf Q2 I2 T2
      go_wp2
      go_roundg r
      case measure=>omega
      case rel=>exact⟨r,swp dj j r,by first|rfl|go_num|(congr 1;omega),by omega,by omega,Nat.le_refl _,by rw[size_swp];exact hsj,S4,Q3,I3,T3⟩
     | false =>
      obtain⟨iN3,hiN3⟩:∃ zz,zz=j:=⟨_,rfl⟩
      obtain⟨jN3,hjN3⟩:∃ zz,zz=r:=⟨_,rfl⟩
      have ea3:((j:Int)).toNat=iN3:=by omega
      have pa3:(0:Int)≤(j:Int):=by omega
      have ba3:(j:Int)<(d.size:Int):=by omega
      have ra3:IntKind.i64.wrap ((j:Int))=(j:Int):=by rw[IntKind.wrap_i64];omega
      have ec3:((r:Int)).toNat=jN3:=by omega
      have pc3:(0:Int)≤(r:Int):=by omega
      have bc3:(r:Int)<(d.size:Int):=by omega
      have rc3:IntKind.i64.wrap ((r:Int))=(r:Int):=by rw[IntKind.wrap_i64];omega
      obtain⟨x3,hx3⟩:∃ x,x=dj[j]! := ⟨_,rfl⟩
      obtain⟨y3,hy3⟩:∃ x,x=dj[r]! := ⟨_,rfl⟩
      have l3a:=S2.out.cl R (by omega) (j) (by omega)
      have l3b:=S2.out.cl R (by omega) (r) (by omega)
      rw[← hx3,← hiN3] at l3a
      rw[← hy3,← hjN3] at l3b
      have hc3:=S2.out.cmp HC.out (by omega) x3 y3
      have hv3:¬ cf x3 y3<0:=by rw[hx3,hy3];exact of_decide_eq_false hlv
      have hd3:decide (cf x3 y3<0)=false:=decide_eq_false hv3
      clear hx3 hy3 hiN3 hjN3
      go_wp2_with fail
      go_quiet_grown (first|(go_at_fn g;refine Calls.grown_of (hc3 _ _)))
      have S3:Aside (SW enc w0 blk off dj (grow (wr.drewN nq) osq)):=S2.out.grown nq osq
      clear l3a l3b hc3 S2
      generalize grow (wr.drewN nq) osq=w3 at S3 ⊢
      clear nq osq
      clear ea3 ec3
      have R3:Aside (SortedIn (Y.lx (ltOf cf) lab) a (i+1) dj):=I2.out.stop HL.out (Or.inr (by have t0:=T2.out;rw[← hr] at t0 hlv ⊢;rw[Nat.add_sub_cancel,t0.test (by omega) (by omega)];exact hlv))
      clear I2 T2
      go_wp2
      go_roundg (b - (i+1))
      case measure=>omega
      case rel=>exact⟨i+1,dj,by first|rfl|go_num,by omega,by omega,Nat.le_refl _,hsj,S3,Q2,R3,fun h=>by omega⟩
    ·have hjn:¬ a<j:=by omega
     have hjad:decide ((j:Int)>(a:Int))=false:=decide_eq_false (by omega)
     have R3:Aside (SortedIn (Y.lx (ltOf cf) lab) a (i+1) dj):=I2.out.stop HL.out (Or.inl (by omega))
     clear I2 T2
     go_wp2_with fail
     go_big_region_o
     have S3:Aside (SW enc w0 blk off dj wr.drew):=S2.out.drew
     clear S2
     generalize wr.drew=w3 at S3 ⊢
     go_wp2
     go_roundg (b - (i+1))
     case measure=>omega
     case rel=>exact⟨i+1,dj,by first|rfl|go_num,by omega,by omega,Nat.le_refl _,hsj,S3,Q2,R3,fun h=>by omega⟩
  ·go_wp2
   go_end0
   refine⟨rfl,dk,S1.out,?_⟩
   by_cases hz:b≤a
   ·rw[E1.out hz]
    exact⟨permIn_refl d a b,fun i j h1 h2 h3=>by omega⟩
   ·obtain rfl:i=b:=by omega
    exact⟨P1.out,R1.out⟩
end Go.Proofs.YtnkpgmibhpmdhaaGreat

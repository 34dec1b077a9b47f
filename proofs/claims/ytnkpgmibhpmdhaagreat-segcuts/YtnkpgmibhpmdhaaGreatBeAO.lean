/- Contracts and plain facts, one behind the other: WE BB GE ZB MC DB DC -/
import Derived.BigQuiet
import Derived.WalkSmall
import Derived.Lib.SliceRun
import Derived.Test.YtnkpgmibhpmdhaaGreatBeAN
namespace Go.Proofs.YtnkpgmibhpmdhaaGreat
set_option linter.unusedVariables false
open Go.RowKit Go.Sort
theorem uorder_any (p q:Bool) (w:World):Calls Tryz.prog 38 #[.bool p,.bool q] w fun e w'=>e=.returned (.int .i64 (if p=true then -1 else if q=true then 1 else 0))∧w'=w:=by
 cases p<;>cases q<;>(go_enter Tryz.func38,Tryz.ntmps38;go_wp2;go_ret;exact⟨rfl,rfl⟩)
theorem utexts_any (s t:ByteArray) (w:World) (hs:s.size≤9223372036854775807) (ht:t.size≤9223372036854775807):Calls Tryz.prog 40 #[.string s,.string t] w fun e w'=>e=.returned (.int .i64 (Z.cs s t))∧∃ q,w'=w.drewN q:=by
 go_enter Tryz.func40,Tryz.ntmps40
 go_wp2_with fail
 go_loopw [5] (fun i wr=>∃ j q:Nat,j≤s.size∧j≤t.size∧i=.int .i64 j∧wr=w.drewN q∧Hid (Lib.compareBytes (s.data.toList.drop j) (t.data.toList.drop j)=Z.cs s t)) (fun i _=>s.size - (intOf i).toNat)
 case atStart=>exact⟨0,0,Nat.zero_le _,Nat.zero_le _,rfl,rfl,hide rfl⟩
 case round =>
  obtain⟨j,q,hj,hk,rfl,rfl,HI⟩:=hrel
  by_cases h1:j<s.size
  ·by_cases h2:j<t.size
   ·have e1:s.data.toList.drop j=s[j] :: s.data.toList.drop (j+1):=by rw[List.drop_eq_getElem_cons (by simpa using h1)];rfl
    have e2:t.data.toList.drop j=t[j] :: t.data.toList.drop (j+1):=by rw[List.drop_eq_getElem_cons (by simpa using h2)];rfl
    have HE:Hid (Z.cs s t=if s[j].toNat<t[j].toNat then -1 else if t[j].toNat<s[j].toNat then 1 else Lib.compareBytes (s.data.toList.drop (j+1)) (t.data.toList.drop (j+1))):=by
     show _=_
     rw[← HI.out,e1,e2,Z.cb_step]
    clear e1 e2
    by_cases h3:s[j].toNat<t[j].toNat
    ·go_wp2_with fail
     go_quiet (fail)
     go_wp2
     go_ret
     exact⟨by rw[HE.out,if_pos h3];rfl,q+nq,by rw[World.drewN_drewN]⟩
    ·have h3d:decide (s[j].toNat<t[j].toNat)=false:=decide_eq_false h3
     by_cases h4:t[j].toNat<s[j].toNat
     ·go_wp2_with fail
      go_quiet (fail)
      obtain⟨q1,hq1⟩:∃ q1,(w.drewN q).drewN nq=w.drewN q1:=⟨q+nq,World.drewN_drewN _ _ _⟩
      rw[hq1]
      clear hq1 nq
      go_wp2_with fail
      go_quiet (fail)
      go_wp2
      go_ret
      exact⟨by rw[HE.out,if_neg h3,if_pos h4];rfl,q1+nq,by rw[World.drewN_drewN]⟩
     ·have h4d:decide (t[j].toNat<s[j].toNat)=false:=decide_eq_false h4
      go_wp2_with fail
      go_quiet (fail)
      obtain⟨q1,hq1⟩:∃ q1,(w.drewN q).drewN nq=w.drewN q1:=⟨q+nq,World.drewN_drewN _ _ _⟩
      rw[hq1]
      clear hq1 nq
      go_wp2_with fail
      go_quiet (fail)
      obtain⟨q2,hq2⟩:∃ q2,(w.drewN q1).drewN nq=w.drewN q2:=⟨q1+nq,World.drewN_drewN _ _ _⟩
      rw[hq2]
      clear hq2 nq
      have HJ:Hid (Lib.compareBytes (s.data.toList.drop (j+1)) (t.data.toList.drop (j+1))=Z.cs s t):=by show _=_;rw[HE.out,if_neg h3,if_neg h4]
      clear HE HI
      go_wp2
      go_round
      ·exact⟨j+1,q2,by omega,by omega,by go_num,rfl,HJ⟩
      ·simp[intOf];omega
   ·have HE:Hid ((if decide (s.size<t.size)=true then (-1:Int) else if decide (t.size<s.size)=true then 1 else 0)=Z.cs s t):=by
     show _=_
     rw[← HI.out,show t.data.toList.drop j=[] from List.drop_eq_nil_of_le (by simp only[Array.length_toList];show t.size≤j;omega)]
     rw[List.drop_eq_getElem_cons (by simpa using h1),if_neg (by simp;omega),if_pos (by simp;omega)]
     simp[Lib.compareBytes]
    clear HI
    go_wp2_with fail
    refine (uorder_any _ _ _).mono ?_
    rintro e w1 ⟨rfl,rfl⟩
    rw[HE.out]
    go_wp2
    go_ret
    exact⟨rfl,q,rfl⟩
  ·have HE:Hid ((if decide (s.size<t.size)=true then (-1:Int) else if decide (t.size<s.size)=true then 1 else 0)=Z.cs s t):=by
    show _=_
    rw[← HI.out,show s.data.toList.drop j=[] from List.drop_eq_nil_of_le (by simp only[Array.length_toList];show s.size≤j;omega)]
    by_cases h2:j<t.size
    ·rw[List.drop_eq_getElem_cons (by simpa using h2),if_pos (by simp;omega)];simp[Lib.compareBytes]
    ·rw[show t.data.toList.drop j=[] from List.drop_eq_nil_of_le (by simp only[Array.length_toList];show t.size≤j;omega),if_neg (by simp;omega),if_neg (by simp;omega)];simp[Lib.compareBytes]
   clear HI
   go_wp2_with fail
   refine (uorder_any _ _ _).mono ?_
   rintro e w1 ⟨rfl,rfl⟩
   rw[HE.out]
   go_wp2
   go_ret
   exact⟨rfl,q,rfl⟩
theorem ci_order (a b:Int):(if decide (a<b)=true then (-1:Int) else if decide (b<a)=true then 1 else 0)=Z.ci a b:=by
 unfold Z.ci;simp only[decide_eq_true_eq]
theorem two_more (w:World) (a b:Obj) (q:Nat):((w.alloc a).alloc b).drewN q=grow (w.drewN q) #[a,b]:=by
 rw[alloc_eq_grow,alloc_eq_grow,grow_grow];rfl
theorem two_none (w:World) (a b:Obj):(w.alloc a).alloc b=grow (w.drewN 0) #[a,b]:=two_more w a b 0
def CmpAns (w:World) (c:Int) (e:Ending) (w':World):Prop:=e=.returned (.int .i64 c)∧∃ q os,w'=grow (w.drewN q) os
set_option maxHeartbeats 1000000 in
theorem ucompare_two (ak ai:Int) (az:ByteArray) (bk bi:Int) (bz:ByteArray) (w:World) (hs:az.size≤9223372036854775807) (ht:bz.size≤9223372036854775807) :
  Calls Tryz.prog 17 #[.agg #[.int .i64 ak,.int .i64 ai,.string az],.agg #[.int .i64 bk,.int .i64 bi,.string bz]] w (CmpAns w (Z.cv ⟨ak,ai,az⟩ ⟨bk,bi,bz⟩)):=by
 by_cases hk:ak=bk
 ·subst hk
  by_cases k1:ak=1
  ·subst k1
   rw[cv_int]
   have HO:Hid _:=ci_order ai bi
   go_enter Tryz.func17,Tryz.ntmps17
   go_wp2_with fail
   refine (uorder_any _ _ _).mono ?_
   rintro e w1 ⟨rfl,rfl⟩
   rw[HO.out]
   go_wp2
   go_ret
   exact⟨rfl,0,_,two_none _ _ _⟩
  ·by_cases k2:ak=2
   ·subst k2
    rw[cv_float]
    have HA:Hid (IntKind.u64.wrap ai=Z.u ai):=u64_wrap ai
    have HB:Hid (IntKind.u64.wrap bi=Z.u bi):=u64_wrap bi
    have HI:=Z.u_in ai
    have HJ:=Z.u_in bi
    go_enter Tryz.func17,Tryz.ntmps17
    go_wp2_with fail
    rw[HA.out,HB.out]
    refine (rcompare_any _ _ _ HI.1 HI.2 HJ.1 HJ.2).mono ?_
    rintro e w2 ⟨rfl,rfl⟩
    go_wp2
    go_ret
    exact⟨rfl,0,_,two_none _ _ _⟩
   ·by_cases k3:ak=3
    ·subst k3
     rw[cv_text]
     go_enter Tryz.func17,Tryz.ntmps17
     go_wp2_with fail
     refine (utexts_any _ _ _ hs ht).mono ?_
     rintro e w2 ⟨rfl,q,rfl⟩
     go_wp2
     go_ret
     exact⟨rfl,q,_,two_more _ _ _ _⟩
    ·rw[cv_else k1 k2 k3]
     go_enter Tryz.func17,Tryz.ntmps17
     go_wp2
     go_ret
     exact⟨rfl,0,_,two_none _ _ _⟩
 ·rw[cv_kind hk]
  have HO:Hid _:=ci_order ak bk
  go_enter Tryz.func17,Tryz.ntmps17
  go_wp2_with fail
  refine (uorder_any _ _ _).mono ?_
  rintro e w1 ⟨rfl,rfl⟩
  rw[HO.out]
  go_wp2
  go_ret
  exact⟨rfl,0,_,two_none _ _ _⟩
end Go.Proofs.YtnkpgmibhpmdhaaGreat
namespace Go.Proofs.YtnkpgmibhpmdhaaGreat
set_option linter.unusedVariables false
set_option maxRecDepth 10000
open Go.RowKit Go.Sort
theorem Tryz.mixed:Tryz.prog.follows .mixedOrders=true:=by kernel_rfl
theorem grow_below (w:World) (n:Nat) (os:Array Obj):Below w.heap.size w (grow (w.drewN n) os) :=
 ⟨rfl,rfl,rfl,by rw[size_grow];exact Nat.le_add_right _ _,fun k hk=>by simp only[grow];rw[Array.getElem?_append_left (by exact hk)];rfl⟩
structure BBy (w:World) where
 v:World
 h:Below w.heap.size w v
theorem region_below {id:Nat} {Q:Exit→Act→World→Prop} {a:Act} {w:World} {l:List Oper} (hB:Region.lexB .any l.toArray=true)
  (h:wpQuiet Tryz.prog l.toArray (fun w'=>∃ p:BBy w,w'=p.v) (fun a'=>∀ w',(∃ p:BBy w,w'=p.v)→Q .normal a' w') l a):(Code.region id l.toArray true).wp Tryz.prog Q a w :=
 wp_region_quiet (C:=fun w'=>∃ p:BBy w,w'=p.v) Tryz.mixed hB ⟨⟨{ w with drawn:=w.drawn+1 },⟨rfl,rfl,rfl,Nat.le_refl _,fun _ _=>rfl⟩⟩,rfl⟩ (by simpa using h)
theorem Calls.below_of {f:FuncId} {args:Array Value} {w:World} {p:BBy w} {v:Value} (h:Calls Tryz.prog f args p.v fun e w'=>e=.returned v∧Below p.v.heap.size p.v w'):Calls Tryz.prog f args p.v fun e w''=>e=.returned v∧∃ p':BBy w,w''=p'.v :=
 h.mono fun _ w' ⟨he,hb⟩=>⟨he,⟨w',bthen p.h hb⟩,rfl⟩
theorem CmpAns.below {w:World} {c:Int} {e:Ending} {w':World} (h:CmpAns w c e w'):e=.returned (.int .i64 c)∧Below w.heap.size w w':=by
 obtain⟨rfl,q,os,rfl⟩:=h
 exact⟨rfl,grow_below w q os⟩
end Go.Proofs.YtnkpgmibhpmdhaaGreat
namespace Go.Proofs.YtnkpgmibhpmdhaaGreat
set_option linter.unusedVariables false
set_option maxRecDepth 10000
open Go.RowKit
def Z.lo:List Z.V→Z.V
 | []=>Z.z0
 | x :: l=>l.foldl (fun m y=>if Z.cv y m<0 then y else m) x
def Z.hi:List Z.V→Z.V
 | []=>Z.z0
 | x :: l=>l.foldl (fun m y=>if 0<Z.cv y m then y else m) x
theorem lo_snoc {l:List Z.V} (h:l≠[]) (y:Z.V):Z.lo (l++[y])=if Z.cv y (Z.lo l)<0 then y else Z.lo l:=by
 cases l with
 | nil=>exact absurd rfl h
 | cons x l =>
  show List.foldl _ x (l++[y])=_
  rw[List.foldl_append];rfl
theorem hi_snoc {l:List Z.V} (h:l≠[]) (y:Z.V):Z.hi (l++[y])=if 0<Z.cv y (Z.hi l) then y else Z.hi l:=by
 cases l with
 | nil=>exact absurd rfl h
 | cons x l =>
  show List.foldl _ x (l++[y])=_
  rw[List.foldl_append];rfl
theorem lo_rev (x:Z.V) (s:List Z.V):Z.lo (x :: s.reverse)∈x :: s.reverse∧∀ y∈x :: s.reverse,Z.cv (Z.lo (x :: s.reverse)) y≤0:=by
 induction s with
 | nil =>
  refine⟨by simp[Z.lo],fun y hy=>?_⟩
  simp at hy
  subst hy
  have:=cv_anti y y
  simp[Z.lo];omega
 | cons z s ih =>
  have e:x :: (z :: s).reverse=(x :: s.reverse)++[z]:=by simp
  rw[e,lo_snoc (by simp)]
  obtain⟨h1,h2⟩:=ih
  split
  ·rename_i hz
   refine⟨by simp,fun y hy=>?_⟩
   rcases List.mem_append.1 hy with hy|hy
   ·have:=cv_lt_le hz (h2 y hy);omega
   ·simp at hy;subst hy
    have:=cv_anti y y;omega
  ·rename_i hz
   refine⟨List.mem_append_left _ h1,fun y hy=>?_⟩
   rcases List.mem_append.1 hy with hy|hy
   ·exact h2 y hy
   ·simp at hy;subst hy
    have:=cv_anti y (Z.lo (x :: s.reverse));omega
theorem lo_all:∀ (l:List Z.V) (x:Z.V),Z.lo (x :: l)∈x :: l∧∀ y∈x :: l,Z.cv (Z.lo (x :: l)) y≤0:=by
 intro l x
 have:=lo_rev x l.reverse
 simpa using this
theorem hi_rev (x:Z.V) (s:List Z.V):Z.hi (x :: s.reverse)∈x :: s.reverse∧∀ y∈x :: s.reverse,Z.cv y (Z.hi (x :: s.reverse))≤0:=by
 induction s with
 | nil =>
  refine⟨by simp[Z.hi],fun y hy=>?_⟩
  simp at hy
  subst hy
  have:=cv_anti y y
  simp[Z.hi];omega
 | cons z s ih =>
  have e:x :: (z :: s).reverse=(x :: s.reverse)++[z]:=by simp
  rw[e,hi_snoc (by simp)]
  obtain⟨h1,h2⟩:=ih
  split
  ·rename_i hz
   have hz':Z.cv (Z.hi (x :: s.reverse)) z<0:=by have:=cv_anti z (Z.hi (x :: s.reverse));omega
   refine⟨by simp,fun y hy=>?_⟩
   rcases List.mem_append.1 hy with hy|hy
   ·have:=cv_le_lt (h2 y hy) hz';omega
   ·simp at hy;subst hy
    have:=cv_anti y y;omega
  ·rename_i hz
   refine⟨List.mem_append_left _ h1,fun y hy=>?_⟩
   rcases List.mem_append.1 hy with hy|hy
   ·exact h2 y hy
   ·simp at hy;subst hy;omega
theorem hi_all:∀ (l:List Z.V) (x:Z.V),Z.hi (x :: l)∈x :: l∧∀ y∈x :: l,Z.cv y (Z.hi (x :: l))≤0:=by
 intro l x
 have:=hi_rev x l.reverse
 simpa using this
theorem oth_append (l m:List Z.V):oth (l++m)=oth l++oth m:=List.filter_append _ _
theorem nus_append (l m:List Z.V):nus (l++m)=nus l++nus m:=by unfold nus;rw[List.map_append]
theorem cntT_append (a b:List Bool):cntT (a++b)=cntT a+cntT b:=by unfold cntT;rw[List.count_append]
theorem oth_in {l:List Z.V} {x:Z.V} (h:x∈l) (hk:x.k≠0):x∈oth l:=List.mem_filter.2 ⟨h,by simpa using hk⟩
theorem ends_in {l:List Z.V} (h:oth l≠[]):Z.lo (oth l)∈oth l∧Z.hi (oth l)∈oth l∧(∀ y∈oth l,Z.cv (Z.lo (oth l)) y≤0)∧∀ y∈oth l,Z.cv y (Z.hi (oth l))≤0:=by
 cases ho:oth l with
 | nil=>exact absurd ho h
 | cons x t =>
  obtain⟨h1,h2⟩:=lo_all t x
  obtain⟨h3,h4⟩:=hi_all t x
  exact⟨h1,h3,h2,h4⟩
end Go.Proofs.YtnkpgmibhpmdhaaGreat
namespace Go.Proofs.YtnkpgmibhpmdhaaGreat
set_option linter.unusedVariables false
open Go.RowKit
set_option maxHeartbeats 400000 in
theorem clone_nil (w:World):Calls Tryz.prog 123 #[.slice none 0 0] w fun e w'=>e=.returned (.slice none 0 0)∧w'=w:=by
 have hq:=fun (w:World) (a:Option Addr) (n c:Nat)=>Lib.run_eql_slice_nil (P:=Tryz.prog) w 22 5 a n c 0 0 Tryz.underlying22
 go_enter Tryz.func123,Tryz.ntmps123
 go_wp2
 go_ret
 exact⟨rfl,rfl⟩
set_option maxHeartbeats 400000 in
theorem clone_some (x:Addr) (len cap:Nat) (l:List Int) (w:World) (h:Sl w .u8 (some x) len cap l) (hb:len≤140737488355328) :
  Calls Tryz.prog 123 #[.slice (some x) len cap] w fun e w'=>∃ v',e=.returned v'∧w'.ownsRow w.heap.size 5 1 v' len (l.map (Value.int .u8))∧Below w.heap.size w w':=by
 obtain⟨i0,hi,hz0,hz1,hz2⟩:=info_parts Tryz.infoU8
 have hq:=fun (w:World) (a:Option Addr) (n c:Nat)=>Lib.run_eql_slice_nil (P:=Tryz.prog) w 22 5 a n c 0 0 Tryz.underlying22
 go_enter Tryz.func123,Tryz.ntmps123
 go_wp2_with (at_builtin;refine wpList_append_to rfl _ _ 22 rfl w.heap.size 5 i0 (.int .u8 0) 1 1 Tryz.underlying22 hi hz0 hz1 hz2 rfl (by decide) _ 0 [] rfl (World.ownsRow_lit w #[] 0 (Nat.le_refl _) (by decide) rfl) (some x) len cap (l.map (Value.int .u8)) rfl ?c0 ?c6 ?c1 ?c2 ?c3 ?c4 ?c5 ?_)
 case c0=>simp
 case c6=>simpa using h.1
 case c1=>exact (h.below ((Below.refl _ _).alloc (Nat.le_refl _) _)).news
 case c2=>intro u hu;obtain⟨y,_,rfl⟩:=List.mem_map.1 hu;rfl
 case c3=>have:=h.2.1;have:=h.2.2.1;omega
 case c4=>omega
 case c5=>simp
 intro v' w1 hown has
 go_wp2
 go_ret
 refine⟨v',rfl,by simpa using hown,?_⟩
 have hk:=Kept.below (((Kept.refl _ w).alloc _).trans' (F:=fun k=>w.heap.size≤k) has.1 (fun k hk=>?_)) (Nat.le_refl _) (fun k hk=>hk)
 ·exact hk
 ·exact .inl (owns_lt (World.ownsRow_lit (base:=w.heap.size) (e:=5) (size:=1) w #[] 0 (Nat.le_refl _) (by decide) rfl) hk).1
theorem clone_any (ao:Option Addr) (len cap:Nat) (l:List Nat) (w:World) (h:Sl w .u8 ao len cap (ints l)) (hb:len≤140737488355328) :
  Calls Tryz.prog 123 #[.slice ao len cap] w fun e w'=>∃ a c,e=.returned (.slice a len c)∧Sl w' .u8 a len c (ints l)∧Below w.heap.size w w':=by
 have hl:l.length=len:=by rw[← h.1,ints_length]
 cases ao with
 | some x =>
  refine (clone_some x len cap (ints l) w h hb).mono ?_
  rintro e w' ⟨v,rfl,ho,hb1⟩
  subst hl
  rw[← B8_ints] at ho
  obtain⟨a,c,rfl,hs,_⟩:=Sl.of_bytes ho
  exact⟨a,c,rfl,hs,hb1⟩
 | none =>
  obtain⟨h1,h2,h3,h4,h5⟩:=h
  obtain rfl:=h4 rfl
  obtain rfl:len=0:=by omega
  obtain rfl:l=[]:=List.eq_nil_of_length_eq_zero hl
  refine (clone_nil w).mono ?_
  rintro e w' ⟨rfl,rfl⟩
  exact⟨_,_,rfl,Sl.nil _ _,Below.refl _ _⟩
def putV (w:World) (b:Nat) (k i:Int) (s:ByteArray):World:=((w.setCell ⟨b,0,none⟩ (.int .i64 k)).setCell ⟨b,1,none⟩ (.int .i64 i)).setCell ⟨b,2,none⟩ (.string s)
theorem At.set {w:World} {b:Nat} {k i:Int} {s:ByteArray} (h:At w b k i s) (k' i':Int) (s':ByteArray):At (putV w b k' i' s') b k' i' s':=by
 unfold At putV at *
 simp only[World.setCell,Array.getElem?_modify,h];simp
theorem putV_kept (w:World) (b:Nat) (k i:Int) (s:ByteArray):Kept (fun x=>x=b) w (putV w b k i s) :=
 Kept.setCell (F:=fun x=>x=b) (p:=⟨b,2,none⟩) (Kept.setCell (F:=fun x=>x=b) (p:=⟨b,1,none⟩) (Kept.setCell (F:=fun x=>x=b) (p:=⟨b,0,none⟩) (Kept.refl _ w) (.inl rfl) _) (.inl rfl) _) (.inl rfl) _
theorem putV_below {w w1:World} {b:Nat} (k i:Int) (s:ByteArray) (h:Below w.heap.size w w1) (hb:w.heap.size≤b):Below w.heap.size w (putV w1 b k i s) :=
 ((h.setCell (p:=⟨b,0,none⟩) hb _).setCell (p:=⟨b,1,none⟩) hb _).setCell (p:=⟨b,2,none⟩) hb _
theorem Sl.putV {w:World} {a:Option Addr} {n c:Nat} {l:List Int} (h:Sl w .u8 a n c l) {b:Nat} {k i:Int} {s:ByteArray} (hA:At w b k i s) (k' i':Int) (s':ByteArray):Sl (putV w b k' i' s') .u8 a n c l:=by
 refine h.kept0 (putV_kept w b k' i' s') ?_
 by_cases h0:n=0
 ·exact .inl h0
 ·refine .inr fun x hx hB=>?_
  rcases h.2.2.2.2 with h5|⟨B,off,hao,hlt,h5⟩
  ·exact h0 h5
  ·rw[hao] at hx
   obtain rfl:=Option.some.inj hx
   have h6:=h5 0 (by omega)
   have hB':B=b:=hB
   subst hB'
   unfold At at hA
   simp only[World.cell?,hA,Nat.add_zero] at h6
   match off,h6 with
   | 0,h6=>simp at h6
   | 1,h6=>simp at h6
   | 2,h6=>simp at h6
   | n+3,h6=>simp at h6
theorem results_val {fn:Func} {p u v:Tmp} (h:fn.results=#[.cell p 25,.tmp u,.tmp v]) (tmps:Array Value) (w:World) (g:Nat) {k i:Int} {s:ByteArray} (hp:tmps.getD p undef=.pointer (some ⟨g,0,none⟩)) (hA:At w g k i s) :
  (results fn tmps).run Tryz.prog w=.ok (.tuple #[.agg #[.int .i64 k,.int .i64 i,.string s],tmps.getD u undef,tmps.getD v undef]) w:=by
 have hp':tmps[p]?.getD undef=.pointer (some ⟨g,0,none⟩):=by simpa using hp
 unfold At at hA
 simp[results,h,hp',asAddr,run_loadVar_row w g 25 25 _ (0,0) _ hA Tryz.underlying25 rfl (by kernel_rfl)]
def OfAns (l:List Nat) (kind:Int) (w:World) (e:Ending) (w':World):Prop:=∃ a c,e=.returned (.tuple #[(Z.oV l kind).v,.slice a (Z.oR l kind).length c,.int .i64 ((Z.oE l kind:Nat):Int)])∧Sl w' .u8 a (Z.oR l kind).length c (ints (Z.oR l kind))∧Below w.heap.size w w'
theorem OfAns.no {l:List Nat} {kind:Int} {w w':World} {E:Nat} (h:Z.oE l kind=E) (h0:E≠0) (hb:Below w.heap.size w w'):OfAns l kind w (.returned (.tuple #[.agg #[.int .i64 0,.int .i64 0,.string ⟨#[]⟩],.slice none 0 0,.int .i64 ((E:Nat):Int)])) w':=by
 subst h
 have e1:Z.oV l kind=⟨0,0,⟨#[]⟩⟩:=by unfold Z.oV;rw[if_neg h0]
 have e2:Z.oR l kind=[]:=by unfold Z.oR;rw[if_neg h0]
 unfold OfAns;rw[e1,e2]
 exact⟨none,0,rfl,Sl.nil _ _,hb⟩
theorem OfAns.yes {l r:List Nat} {kind k i:Int} {s:ByteArray} {w w':World} {a:Option Addr} {n c:Nat} (h:Z.oE l kind=0) (hw:Z.oW l kind=⟨k,i,s⟩) (hr:Z.oS l kind=r) (hn:r.length=n) (hs:Sl w' .u8 a n c (ints r)) (hb:Below w.heap.size w w'):OfAns l kind w (.returned (.tuple #[.agg #[.int .i64 k,.int .i64 i,.string s],.slice a n c,.int .i64 0])) w':=by
 have e1:Z.oV l kind=⟨k,i,s⟩:=by unfold Z.oV;rw[if_pos h];exact hw
 have e2:Z.oR l kind=r:=by unfold Z.oR;rw[if_pos h];exact hr
 subst hn
 unfold OfAns;rw[e1,e2,h]
 exact⟨a,c,rfl,hs,hb⟩
theorem oE_int (l:List Nat):Z.oE l 1=E.gE l:=by unfold Z.oE;rw[if_neg (by decide),if_pos rfl]
theorem oE_text (l:List Nat):Z.oE l 3=E.xE 1024 l:=by unfold Z.oE;rw[if_neg (by decide),if_neg (by decide),if_neg (by decide),if_pos rfl]
theorem iE_one (l:List Nat):E.iE 1 l=E.gE l:=by
 rw[E.iE_pos (by omega)]
 show E.tE 1 l=_
 unfold E.tE
 split
 ·rename_i h;rw[h];rfl
 ·rfl
theorem iL_one {l:List Nat} (h:E.gE l=0):E.iL 1 l=[E.zag (E.gN l)]:=by
 unfold E.iL;rw[if_pos (by rw[iE_one,h])];rfl
theorem iR_one {l:List Nat} (h:E.gE l=0):E.iR 1 l=l.drop (E.gK l):=by
 unfold E.iR;rw[if_pos (by rw[iE_one,h])];rfl
theorem oW_int (l:List Nat):Z.oW l 1=⟨1,E.zag (E.gN l),⟨#[]⟩⟩:=by unfold Z.oW;rw[if_pos rfl]
theorem oS_int (l:List Nat):Z.oS l 1=l.drop (E.gK l):=by unfold Z.oS;rw[if_pos rfl]
theorem oW_text (l:List Nat):Z.oW l 3=⟨3,0,strOfNums (ints (E.xS l))⟩:=by unfold Z.oW;rw[if_neg (by decide),if_neg (by decide),if_pos rfl]
theorem oS_text (l:List Nat):Z.oS l 3=E.xR l:=by unfold Z.oS;rw[if_neg (by decide),if_neg (by decide),if_pos rfl]
theorem vtoint_any (ao:Option Addr) (len cap:Nat) (l:List Nat) (w:World) (h:Sl w .u8 ao len cap (ints l)) (h256:∀ x∈l,x<256) (hm:len≤140737488355328) :
  Calls Tryz.prog 124 #[.slice ao len cap] w (OfAns l 1 w):=by
 have hA:=At.new w 0 0 ⟨#[]⟩
 have b0:=hide (below_one w (.cells #[.int .i64 0,.int .i64 0,.string ⟨#[]⟩] 25))
 have HT:=hide (toints_anyN ao len cap l 1 _ (h.below b0.out) h256 ⟨hm,.inr (by omega)⟩ (by omega) (by omega))
 clear h
 by_cases hg:E.gE l=0
 ·have HL:=hide (iL_one hg)
  have HR:=hide (iR_one hg)
  have HE:=hide ((iE_one l).trans hg)
  have HO:=hide ((oE_int l).trans hg)
  clear hg
  go_enter Tryz.func124,Tryz.ntmps124
  go_wp2_with fail
  refine HT.out.mono ?_
  rintro e w1 ⟨v1,v2,rfl,⟨⟨q1,c1,rfl,hs1,_⟩,q2,c2,rfl,hs2⟩,hb⟩
  rw[HE.out,HL.out,HR.out]
  rw[HL.out] at hs1
  rw[HR.out] at hs2
  rcases hs1.2.2.2.2 with h5|⟨B,off,rfl,hlt,h5⟩
  ·simp at h5
  have hc:=h5 0 (by simp)
  simp only[List.getD_cons_zero,Nat.add_zero] at hc
  replace hA:=hA.below hb
  replace b0:=hide (bthen b0.out hb)
  replace hs2:=hide hs2
  obtain⟨x,hx⟩:∃ x,E.zag (E.gN l)=x:=⟨_,rfl⟩
  obtain⟨n2,hn2⟩:∃ n2,(l.drop (E.gK l)).length=n2:=⟨_,rfl⟩
  rw[hx] at hc
  rw[hn2]
  rw[hn2] at hs2
  have HX:=hide hx
  have HN2:=hide hn2
  clear hb h5 hs1 hlt hx hn2 HT h256 HL HR HE
  obtain⟨a1,a2,a3⟩:=hA.cells
  obtain⟨f1,f2,f3⟩:=hA.thawed
  replace hA:=hide hA
  go_wp2
  refine bodyPost_ret (results_val Tryz.results124 _ _ w.heap.size rfl (hA.out.set 1 x ⟨#[]⟩)) rfl ?_
  exact OfAns.yes HO.out (by rw[oW_int,HX.out]) (oS_int l) HN2.out (hs2.out.putV hA.out 1 x ⟨#[]⟩) (putV_below 1 x ⟨#[]⟩ b0.out (Nat.le_refl _))
 ·have HE:=hide (iE_one l)
  have HO:=hide (oE_int l)
  obtain⟨G,hG⟩:∃ G:Nat,E.gE l=G:=⟨_,rfl⟩
  rw[hG] at hg HE HO
  clear hG
  have hg2:((G:Nat):Int)≠0:=by omega
  obtain⟨e,he⟩:∃ e:Int,((G:Nat):Int)=e:=⟨_,rfl⟩
  have hg3:e≠0:=by omega
  have HEE:=hide he
  go_enter Tryz.func124,Tryz.ntmps124
  go_wp2_with fail
  refine HT.out.mono ?_
  rintro e' w1 ⟨v1,v2,rfl,⟨⟨q1,c1,rfl,_,_⟩,q2,c2,rfl,_⟩,hb⟩
  rw[HE.out,HEE.out]
  replace hA:=hA.below hb
  replace b0:=hide (bthen b0.out hb)
  generalize (E.iL 1 l).length=n1
  generalize (E.iR 1 l).length=n2
  clear hb HT h256 HE he hg2
  obtain⟨a1,a2,a3⟩:=hA.cells
  obtain⟨f1,f2,f3⟩:=hA.thawed
  replace hA:=hide hA
  go_wp2
  refine bodyPost_ret (results_val Tryz.results124 _ _ w.heap.size rfl (hA.out.set 0 0 ⟨#[]⟩)) rfl ?_
  have:=OfAns.no HO.out hg (putV_below 0 0 ⟨#[]⟩ b0.out (Nat.le_refl _))
  rw[HEE.out] at this
  exact this
end Go.Proofs.YtnkpgmibhpmdhaaGreat
namespace Go.Proofs.YtnkpgmibhpmdhaaGreat
set_option linter.unusedVariables false
set_option maxRecDepth 10000
open Go.RowKit Go.Sort
theorem results_one {fn:Func} {p:Tmp} (h:fn.results=#[.cell p 25]) (tmps:Array Value) (w:World) (g:Nat) {k i:Int} {s:ByteArray} (hp:tmps.getD p undef=.pointer (some ⟨g,0,none⟩)) (hA:At w g k i s) :
  (results fn tmps).run Tryz.prog w=.ok (.agg #[.int .i64 k,.int .i64 i,.string s]) w:=by
 have hp':tmps[p]?.getD undef=.pointer (some ⟨g,0,none⟩):=by simpa using hp
 unfold At at hA
 simp[results,h,hp',asAddr,run_loadVar_row w g 25 25 _ (0,0) _ hA Tryz.underlying25 rfl (by kernel_rfl)]
theorem take_ne {l:List Z.V} {j:Nat} (h1:1≤j) (h2:j≤l.length):l.take j≠[]:=by
 intro e
 have:=congrArg List.length e
 rw[List.length_take] at this
 have h3:min j l.length=0:=this
 omega
theorem take_snoc {l:List Z.V} {j:Nat} {x:Z.V} (h:l[j]?=some x):l.take (j+1)=l.take j++[x]:=by rw[List.take_add_one,h];rfl
theorem At.putO {w:World} {b b':Nat} {k i:Int} {s:ByteArray} (h:At w b k i s) (hne:b'≠b) (k' i':Int) (s':ByteArray):At (putV w b' k' i' s') b k i s:=by
 unfold At at *
 rw[(putV_kept w b' k' i' s').block b (lt_of_block h) (fun e=>hne e.symm)]
 exact h
set_option maxHeartbeats 2000000 in
theorem min_any (ao:Option Addr) (len cap:Nat) (l:List Z.V) (w:World) (h:SlV w ao len cap l) (h0:0<len) (hm:len≤140737488355328) :
  Calls Tryz.prog 67 #[.slice ao len cap,.func (.func 68) #[] #[]] w fun e w'=>e=.returned (.agg #[.int .i64 (Z.lo l).k,.int .i64 (Z.lo l).i,.string (Z.lo l).s])∧Below w.heap.size w w':=by
 obtain⟨b,off,ak,ai,az,rfl,hlt,hx0,c1,c2,c3⟩:=h.here h0
 have b0:=below_one w (.cells #[.int .i64 0,.int .i64 0,.string ⟨#[]⟩] 25)
 have hA:=At.new w 0 0 ⟨#[]⟩
 have d1:=(b0.cell (p:=⟨b,off,none⟩) hlt).trans (by simpa using c1)
 have d2:=(b0.cell (p:=⟨b,off+1,none⟩) hlt).trans (by simpa using c2)
 have d3:=(b0.cell (p:=⟨b,off+2,none⟩) hlt).trans (by simpa using c3)
 have hs1:(w.alloc (.cells #[.int .i64 0,.int .i64 0,.string ⟨#[]⟩] 25)).heap.size=w.heap.size+1:=by simp
 have hA2:=At.new (w.alloc (.cells #[.int .i64 0,.int .i64 0,.string ⟨#[]⟩] 25)) ak ai az
 have b2:=below_one (w.alloc (.cells #[.int .i64 0,.int .i64 0,.string ⟨#[]⟩] 25)) (.cells #[.int .i64 ak,.int .i64 ai,.string az] 25)
 have HS:=hide h
 have HB2:=hide (bthen b0 b2)
 have HA:=hide (hA.below b2)
 have HA2:=hide hA2
 have HL:=hide h.1
 have HX0:Hid (Z.lo (l.take 1)=⟨ak,ai,az⟩):=by
  show _=_
  rw[take_snoc hx0];rfl
 have hlen:¬ len<1:=by omega
 rw[hs1] at HA2
 clear h b0 hA hA2 b2 hx0 c1 c2 c3 hs1
 go_enter Tryz.func67,Tryz.ntmps67
 go_wp2_with fail
 obtain⟨B,hB⟩:∃ B,w.heap.size+1=B:=⟨_,rfl⟩
 rw[hB] at HA2 ⊢
 have HS1:=hide hB
 clear hB d1 d2 d3
 go_loopw [6] (fun i wr=>∃ (j:Nat) (mk mi:Int) (ms:ByteArray),1≤j∧j≤len∧i=.int .i64 j∧Hid (Z.lo (l.take j)=⟨mk,mi,ms⟩)∧Hid (At wr B mk mi ms)∧Hid (At wr w.heap.size 0 0 ⟨#[]⟩)∧Hid (Below w.heap.size w wr)) (fun i _=>len - (intOf i).toNat)
 case atStart=>exact⟨1,ak,ai,az,Nat.le_refl _,by omega,rfl,HX0,HA2,HA,HB2⟩
 case round =>
  obtain⟨j,mk,mi,ms,hj1,hj,rfl,HM,HAM,HAR,HB⟩:=hrel
  by_cases hjl:j<len
  ·obtain⟨b',off',xk,xi,xs,e,_,hx,c1,c2,c3⟩:=HS.out.here hjl
   obtain⟨rfl,rfl⟩:b=b'∧off=off':=by injection e with e;injection e with e1 e2;exact⟨e1,e2⟩
   obtain⟨m1,m2,m3⟩:=HAM.out.cells
   have hBl:=lt_of_block HAM.out
   have f1:∀ p:BBy wr,p.v.cell? ⟨b,off+j*3,none⟩=some (.int .i64 xk):=fun p=>by rw[(bthen HB.out p.h).cell (p:=⟨b,off+j*3,none⟩) hlt];exact c1
   have f2:∀ p:BBy wr,p.v.cell? ⟨b,off+j*3+1,none⟩=some (.int .i64 xi):=fun p=>by rw[(bthen HB.out p.h).cell (p:=⟨b,off+j*3+1,none⟩) hlt];exact c2
   have f3:∀ p:BBy wr,p.v.cell? ⟨b,off+j*3+2,none⟩=some (.string xs):=fun p=>by rw[(bthen HB.out p.h).cell (p:=⟨b,off+j*3+2,none⟩) hlt];exact c3
   have g1:∀ p:BBy wr,p.v.cell? ⟨B,0,none⟩=some (.int .i64 mk):=fun p=>by rw[p.h.cell (p:=⟨B,0,none⟩) hBl];exact m1
   have g2:∀ p:BBy wr,p.v.cell? ⟨B,1,none⟩=some (.int .i64 mi):=fun p=>by rw[p.h.cell (p:=⟨B,1,none⟩) hBl];exact m2
   have g3:∀ p:BBy wr,p.v.cell? ⟨B,2,none⟩=some (.string ms):=fun p=>by rw[p.h.cell (p:=⟨B,2,none⟩) hBl];exact m3
   have inh:Nonempty (BBy wr):=⟨⟨wr,Below.refl _ _⟩⟩
   obtain⟨c,hc⟩:∃ c,Z.cv ⟨xk,xi,xs⟩ ⟨mk,mi,ms⟩=c:=⟨_,rfl⟩
   have HC:Hid (∀ p:BBy wr,Calls Tryz.prog 68 #[.agg #[.int .i64 xk,.int .i64 xi,.string xs],.agg #[.int .i64 mk,.int .i64 mi,.string ms]] p.v fun e w'=>e=.returned (.int .i64 c)∧Below p.v.heap.size p.v w'):=by
    intro p;rw[← hc];exact vcompare_any xk xi xs mk mi ms p.v
   have HN:Hid (Z.lo (l.take (j+1))=if c<0 then ⟨xk,xi,xs⟩ else ⟨mk,mi,ms⟩):=by
    show _=_
    rw[take_snoc hx,lo_snoc (take_ne hj1 (by rw[HL.out];omega)),HM.out,hc]
   have c1':=(HB.out.cell (p:=⟨b,off+j*3,none⟩) hlt).trans c1
   have c2':=(HB.out.cell (p:=⟨b,off+j*3+1,none⟩) hlt).trans c2
   have c3':=(HB.out.cell (p:=⟨b,off+j*3+2,none⟩) hlt).trans c3
   have hltr:b<wr.heap.size:=by have:=HB.out.size;omega
   clear c1 c2 c3 m1 m2 m3 hx e hc
   go_wp2_with fail
   refine region_below (by kernel_rfl) ?_
   repeat (quiet_step (first|(go_at_call 68;refine Calls.below_of (HC.out _))))
   refine wpQuiet_nil ?_
   intro _ hw'
   obtain⟨⟨w2,hb2⟩,hw''⟩:=hw'
   subst hw''
   have HB2:=hide (bthen HB.out hb2)
   have e1:=(hb2.cell (p:=⟨b,off+j*3,none⟩) hltr).trans c1'
   have e2:=(hb2.cell (p:=⟨b,off+j*3+1,none⟩) hltr).trans c2'
   have e3:=(hb2.cell (p:=⟨b,off+j*3+2,none⟩) hltr).trans c3'
   have hAM:=HAM.out.below hb2
   have HAM2:=hide hAM
   have HAR2:=hide (HAR.out.below hb2)
   obtain⟨t1,t2,t3⟩:=hAM.thawed
   obtain⟨u1,u2,u3⟩:=hAM.cells
   have hBg:w.heap.size≤B:=by have:=HS1.out;omega
   clear hb2 HC f1 f2 f3 g1 g2 g3 hAM c1' c2' c3' HB HAM HAR HM
   by_cases hc0:c<0
   ·have HNX:Hid (Z.lo (l.take (j+1))=⟨xk,xi,xs⟩):=by show _=_;rw[HN.out,if_pos hc0]
    have HAN:=hide (HAM2.out.set xk xi xs)
    have HRN:=hide (HAR2.out.putO (b':=B) (by have:=HS1.out;omega) xk xi xs)
    have HBN:=hide (putV_below (b:=B) xk xi xs HB2.out hBg)
    clear HN
    go_wp2
    go_roundw
    case rel=>exact⟨j+1,xk,xi,xs,by omega,hjl,by go_num,HNX,HAN,HRN,HBN⟩
    case measure=>simp[intOf];omega
   ·have HNX:Hid (Z.lo (l.take (j+1))=⟨mk,mi,ms⟩):=by show _=_;rw[HN.out,if_neg hc0]
    have hc1:0≤c:=by omega
    clear HN
    go_wp2
    go_roundw
    case rel=>exact⟨j+1,mk,mi,ms,by omega,hjl,by go_num,HNX,HAM2,HAR2,HB2⟩
    case measure=>simp[intOf];omega
  ·obtain rfl:j=len:=by omega
   have HF:Hid (Z.lo l=⟨mk,mi,ms⟩):=by
    have:=HM.out
    rwa [← HL.out,List.take_length] at this
   obtain⟨u1,u2,u3⟩:=HAM.out.cells
   obtain⟨t1,t2,t3⟩:=HAR.out.thawed
   obtain⟨v1,v2,v3⟩:=HAR.out.cells
   clear HM
   go_wp2
   exact bodyPost_ret (results_one Tryz.results67 _ _ w.heap.size rfl (HAR.out.set mk mi ms)) rfl ⟨by rw[HF.out],putV_below mk mi ms HB.out (Nat.le_refl _)⟩
set_option maxHeartbeats 2000000 in
theorem max_any (ao:Option Addr) (len cap:Nat) (l:List Z.V) (w:World) (h:SlV w ao len cap l) (h0:0<len) (hm:len≤140737488355328) :
  Calls Tryz.prog 69 #[.slice ao len cap,.func (.func 68) #[] #[]] w fun e w'=>e=.returned (.agg #[.int .i64 (Z.hi l).k,.int .i64 (Z.hi l).i,.string (Z.hi l).s])∧Below w.heap.size w w':=by
 obtain⟨b,off,ak,ai,az,rfl,hlt,hx0,c1,c2,c3⟩:=h.here h0
 have b0:=below_one w (.cells #[.int .i64 0,.int .i64 0,.string ⟨#[]⟩] 25)
 have hA:=At.new w 0 0 ⟨#[]⟩
 have d1:=(b0.cell (p:=⟨b,off,none⟩) hlt).trans (by simpa using c1)
 have d2:=(b0.cell (p:=⟨b,off+1,none⟩) hlt).trans (by simpa using c2)
 have d3:=(b0.cell (p:=⟨b,off+2,none⟩) hlt).trans (by simpa using c3)
 have hs1:(w.alloc (.cells #[.int .i64 0,.int .i64 0,.string ⟨#[]⟩] 25)).heap.size=w.heap.size+1:=by simp
 have hA2:=At.new (w.alloc (.cells #[.int .i64 0,.int .i64 0,.string ⟨#[]⟩] 25)) ak ai az
 have b2:=below_one (w.alloc (.cells #[.int .i64 0,.int .i64 0,.string ⟨#[]⟩] 25)) (.cells #[.int .i64 ak,.int .i64 ai,.string az] 25)
 have HS:=hide h
 have HB2:=hide (bthen b0 b2)
 have HA:=hide (hA.below b2)
 have HA2:=hide hA2
 have HL:=hide h.1
 have HX0:Hid (Z.hi (l.take 1)=⟨ak,ai,az⟩):=by
  show _=_
  rw[take_snoc hx0];rfl
 have hlen:¬ len<1:=by omega
 rw[hs1] at HA2
 clear h b0 hA hA2 b2 hx0 c1 c2 c3 hs1
 go_enter Tryz.func69,Tryz.ntmps69
 go_wp2_with fail
 obtain⟨B,hB⟩:∃ B,w.heap.size+1=B:=⟨_,rfl⟩
 rw[hB] at HA2 ⊢
 have HS1:=hide hB
 clear hB d1 d2 d3
 go_loopw [6] (fun i wr=>∃ (j:Nat) (mk mi:Int) (ms:ByteArray),1≤j∧j≤len∧i=.int .i64 j∧Hid (Z.hi (l.take j)=⟨mk,mi,ms⟩)∧Hid (At wr B mk mi ms)∧Hid (At wr w.heap.size 0 0 ⟨#[]⟩)∧Hid (Below w.heap.size w wr)) (fun i _=>len - (intOf i).toNat)
 case atStart=>exact⟨1,ak,ai,az,Nat.le_refl _,by omega,rfl,HX0,HA2,HA,HB2⟩
 case round =>
  obtain⟨j,mk,mi,ms,hj1,hj,rfl,HM,HAM,HAR,HB⟩:=hrel
  by_cases hjl:j<len
  ·obtain⟨b',off',xk,xi,xs,e,_,hx,c1,c2,c3⟩:=HS.out.here hjl
   obtain⟨rfl,rfl⟩:b=b'∧off=off':=by injection e with e;injection e with e1 e2;exact⟨e1,e2⟩
   obtain⟨m1,m2,m3⟩:=HAM.out.cells
   have hBl:=lt_of_block HAM.out
   have f1:∀ p:BBy wr,p.v.cell? ⟨b,off+j*3,none⟩=some (.int .i64 xk):=fun p=>by rw[(bthen HB.out p.h).cell (p:=⟨b,off+j*3,none⟩) hlt];exact c1
   have f2:∀ p:BBy wr,p.v.cell? ⟨b,off+j*3+1,none⟩=some (.int .i64 xi):=fun p=>by rw[(bthen HB.out p.h).cell (p:=⟨b,off+j*3+1,none⟩) hlt];exact c2
   have f3:∀ p:BBy wr,p.v.cell? ⟨b,off+j*3+2,none⟩=some (.string xs):=fun p=>by rw[(bthen HB.out p.h).cell (p:=⟨b,off+j*3+2,none⟩) hlt];exact c3
   have g1:∀ p:BBy wr,p.v.cell? ⟨B,0,none⟩=some (.int .i64 mk):=fun p=>by rw[p.h.cell (p:=⟨B,0,none⟩) hBl];exact m1
   have g2:∀ p:BBy wr,p.v.cell? ⟨B,1,none⟩=some (.int .i64 mi):=fun p=>by rw[p.h.cell (p:=⟨B,1,none⟩) hBl];exact m2
   have g3:∀ p:BBy wr,p.v.cell? ⟨B,2,none⟩=some (.string ms):=fun p=>by rw[p.h.cell (p:=⟨B,2,none⟩) hBl];exact m3
   have inh:Nonempty (BBy wr):=⟨⟨wr,Below.refl _ _⟩⟩
   obtain⟨c,hc⟩:∃ c,Z.cv ⟨xk,xi,xs⟩ ⟨mk,mi,ms⟩=c:=⟨_,rfl⟩
   have HC:Hid (∀ p:BBy wr,Calls Tryz.prog 68 #[.agg #[.int .i64 xk,.int .i64 xi,.string xs],.agg #[.int .i64 mk,.int .i64 mi,.string ms]] p.v fun e w'=>e=.returned (.int .i64 c)∧Below p.v.heap.size p.v w'):=by
    intro p;rw[← hc];exact vcompare_any xk xi xs mk mi ms p.v
   have HN:Hid (Z.hi (l.take (j+1))=if 0<c then ⟨xk,xi,xs⟩ else ⟨mk,mi,ms⟩):=by
    show _=_
    rw[take_snoc hx,hi_snoc (take_ne hj1 (by rw[HL.out];omega)),HM.out,hc]
   have c1':=(HB.out.cell (p:=⟨b,off+j*3,none⟩) hlt).trans c1
   have c2':=(HB.out.cell (p:=⟨b,off+j*3+1,none⟩) hlt).trans c2
   have c3':=(HB.out.cell (p:=⟨b,off+j*3+2,none⟩) hlt).trans c3
   have hltr:b<wr.heap.size:=by have:=HB.out.size;omega
   clear c1 c2 c3 m1 m2 m3 hx e hc
   go_wp2_with fail
   refine region_below (by kernel_rfl) ?_
   repeat (quiet_step (first|(go_at_call 68;refine Calls.below_of (HC.out _))))
   refine wpQuiet_nil ?_
   intro _ hw'
   obtain⟨⟨w2,hb2⟩,hw''⟩:=hw'
   subst hw''
   have HB2:=hide (bthen HB.out hb2)
   have e1:=(hb2.cell (p:=⟨b,off+j*3,none⟩) hltr).trans c1'
   have e2:=(hb2.cell (p:=⟨b,off+j*3+1,none⟩) hltr).trans c2'
   have e3:=(hb2.cell (p:=⟨b,off+j*3+2,none⟩) hltr).trans c3'
   have hAM:=HAM.out.below hb2
   have HAM2:=hide hAM
   have HAR2:=hide (HAR.out.below hb2)
   obtain⟨t1,t2,t3⟩:=hAM.thawed
   obtain⟨u1,u2,u3⟩:=hAM.cells
   have hBg:w.heap.size≤B:=by have:=HS1.out;omega
   clear hb2 HC f1 f2 f3 g1 g2 g3 hAM c1' c2' c3' HB HAM HAR HM
   by_cases hc0:0<c
   ·have HNX:Hid (Z.hi (l.take (j+1))=⟨xk,xi,xs⟩):=by show _=_;rw[HN.out,if_pos hc0]
    have HAN:=hide (HAM2.out.set xk xi xs)
    have HRN:=hide (HAR2.out.putO (b':=B) (by have:=HS1.out;omega) xk xi xs)
    have HBN:=hide (putV_below (b:=B) xk xi xs HB2.out hBg)
    clear HN
    go_wp2
    go_roundw
    case rel=>exact⟨j+1,xk,xi,xs,by omega,hjl,by go_num,HNX,HAN,HRN,HBN⟩
    case measure=>simp[intOf];omega
   ·have HNX:Hid (Z.hi (l.take (j+1))=⟨mk,mi,ms⟩):=by show _=_;rw[HN.out,if_neg hc0]
    have hc1:c≤0:=by omega
    clear HN
    go_wp2
    go_roundw
    case rel=>exact⟨j+1,mk,mi,ms,by omega,hjl,by go_num,HNX,HAM2,HAR2,HB2⟩
    case measure=>simp[intOf];omega
  ·obtain rfl:j=len:=by omega
   have HF:Hid (Z.hi l=⟨mk,mi,ms⟩):=by
    have:=HM.out
    rwa [← HL.out,List.take_length] at this
   obtain⟨u1,u2,u3⟩:=HAM.out.cells
   obtain⟨t1,t2,t3⟩:=HAR.out.thawed
   obtain⟨v1,v2,v3⟩:=HAR.out.cells
   clear HM
   go_wp2
   exact bodyPost_ret (results_one Tryz.results69 _ _ w.heap.size rfl (HAR.out.set mk mi ms)) rfl ⟨by rw[HF.out],putV_below mk mi ms HB.out (Nat.le_refl _)⟩
end Go.Proofs.YtnkpgmibhpmdhaaGreat
namespace Go.Proofs.YtnkpgmibhpmdhaaGreat
set_option linter.unusedVariables false
set_option maxRecDepth 10000
open Go.RowKit
def Z.dtl (l:List Z.V):List Nat:=E.leb (wid (ints (Z.dst l)))++A.bytesOf (bitsAll (ints (Z.dst l)) (wid (ints (Z.dst l))))
theorem deb_cons (x:Z.V) (t:List Z.V):Z.deb (x :: t)=E.leb (E.zig x.i)++Z.dtl (x :: t):=rfl
def Z.feE (b:List Nat) (n:Int):Int:=if n<0∨4096<n then 2 else if n=0 then (if b=[] then 0 else 4) else ((Z.fN n.toNat b:Nat):Int)
def Z.feL (b:List Nat) (n:Int):List Z.V:=if Z.feE b n=0∧n≠0 then Z.vals (Z.fl n.toNat b) else []
theorem feE_many {b:List Nat} {n:Int} (h:n<0∨4096<n):Z.feE b n=2:=by unfold Z.feE;rw[if_pos h]
theorem feE_none (b:List Nat):Z.feE b 0=if b=[] then 0 else 4:=by unfold Z.feE;rw[if_neg (by omega),if_pos rfl]
theorem feE_some {b:List Nat} {N:Nat} (h0:0<N) (hN:N≤4096):Z.feE b (N:Int)=((Z.fN N b:Nat):Int):=by unfold Z.feE;rw[if_neg (by omega),if_neg (by omega),Int.toNat_natCast]
theorem feL_bad {b:List Nat} {n:Int} (h:Z.feE b n≠0):Z.feL b n=[]:=by unfold Z.feL;rw[if_neg (by intro e;exact h e.1)]
theorem feL_none (b:List Nat):Z.feL b 0=[]:=by unfold Z.feL;rw[if_neg (by intro e;exact e.2 rfl)]
theorem feL_some {b:List Nat} {N:Nat} (h0:0<N) (h:Z.feE b (N:Int)=0):Z.feL b (N:Int)=Z.vals (Z.fl N b):=by unfold Z.feL;rw[if_pos ⟨h,by omega⟩,Int.toNat_natCast]
theorem vals_nms:∀ {l:List Z.V},(∀ x∈l,x.k=1)→(∀ x∈l,Z.may x=true)→Z.vals (Z.nms l)=l
 | [],_,_=>rfl
 | ⟨k,i,s⟩ :: l,h1,h2=>by
  have e1:k=1:=h1 _ (List.mem_cons.2 (.inl rfl))
  subst e1
  have e2:=h2 ⟨1,i,s⟩ (List.mem_cons.2 (.inl rfl))
  rw[may_int,empty_of] at e2
  have e3:s=⟨#[]⟩:=by simpa using e2
  subst e3
  have ih:=vals_nms (l:=l) (fun x hx=>h1 x (by simp[hx])) (fun x hx=>h2 x (by simp[hx]))
  show (⟨1,i,⟨#[]⟩⟩:Z.V) :: Z.vals (Z.nms l)=_
  rw[ih]
theorem fe_back {l:List Z.V} (hI:∀ x∈l,Z.I64 x.i) (h:Z.chk l 1=0):Z.feE (Z.decb l) (l.length:Int)=0∧Z.feL (Z.decb l) (l.length:Int)=l:=by
 obtain⟨_,hn,h1,h2⟩:=chk_zero h
 rw[decb_ok h]
 cases l with
 | nil=>exact⟨rfl,rfl⟩
 | cons x t =>
  obtain⟨g1,g2⟩:=f_back hI
  rw[List.length_cons] at hn ⊢
  have e1:Z.feE (Z.deb (x :: t)) ((t.length+1:Nat):Int)=0:=by rw[feE_some (by omega) hn,fN_of g1];rfl
  refine⟨e1,?_⟩
  rw[feL_some (by omega) e1,g2,vals_nms h1 h2]
theorem fe_two {b:List Nat} {n:Int} (h256:∀ x∈b,x<256) (h:Z.feE b n=0):∃ N:Nat,n=(N:Int)∧(Z.feL b n).length=N∧Z.chk (Z.feL b n) 1=0∧Z.decb (Z.feL b n)=b:=by
 have h3:¬ (n<0∨4096<n):=fun h3=>by rw[feE_many h3] at h;cases h
 obtain⟨N,rfl⟩:=Int.eq_ofNat_of_zero_le (show 0≤n by omega)
 rcases Nat.eq_zero_or_pos N with rfl|h0
 ·have hb:b=[]:=by
   rw[show ((0:Nat):Int)=0 from rfl,feE_none] at h
   by_cases hb:b=[]
   ·exact hb
   ·rw[if_neg hb] at h;cases h
  subst hb
  exact⟨0,rfl,rfl,by decide,rfl⟩
 ·have hN:N≤4096:=by omega
  have hf:Z.FOk N b:=fN_zero (by rw[feE_some h0 hN] at h;omega)
  rw[feL_some h0 h]
  have hl:(Z.vals (Z.fl N b)).length=N:=by rw[vals_length,fl_length h0]
  have hc:=vals_chk (l:=Z.fl N b) (by rw[fl_length h0];exact hN)
  exact⟨N,rfl,hl,hc,by rw[decb_ok hc];exact f_two h0 h256 hf⟩
theorem feL_i64 {b:List Nat} {n:Int} (h256:∀ x∈b,x<256):∀ x∈Z.feL b n,Z.I64 x.i:=by
 intro x hx
 unfold Z.feL at hx
 split at hx
 ·obtain⟨y,hy,rfl⟩:=List.mem_map.1 hx
  exact fl_i64 h256 y hy
 ·simp at hx
theorem decb_lt {l:List Z.V} (hI:∀ x∈l,Z.I64 x.i):∀ y∈Z.decb l,y<256:=by
 intro y hy
 unfold Z.decb at hy
 split at hy
 ·cases l with
  | nil=>simp[Z.deb] at hy
  | cons x t =>
   rw[deb_cons] at hy
   unfold Z.dtl at hy
   rcases List.mem_append.1 hy with hy|hy
   ·exact E.leb_lt _ y hy
   ·rcases List.mem_append.1 hy with hy|hy
    ·exact E.leb_lt _ y hy
    ·exact A.bytesOf_lt _ y hy
 ·simp at hy
theorem decb_len {l:List Z.V} (hI:∀ x∈l,Z.I64 x.i):(Z.decb l).length≤40000:=by
 by_cases h:Z.chk l 1=0
 ·have hn:=(chk_zero h).2.1
  rw[decb_ok h]
  cases l with
  | nil=>simp[Z.deb]
  | cons x t =>
   have hin:In64 (ints (Z.dst (x :: t))):=In64_ints (dst_lt _)
   have hw:=wid_le _ hin
   have hx:=hI x (List.mem_cons.2 (.inl rfl))
   have h1:=E.leb_ten _ (E.zig_lt x.i hx.1 hx.2)
   have h2:=E.leb_ten (wid (ints (Z.dst (x :: t)))) (by omega)
   have h3:(ints (Z.dst (x :: t))).length*wid (ints (Z.dst (x :: t)))≤4096*64:=Nat.mul_le_mul (by rw[ints_length,dst_length];omega) hw
   rw[deb_cons]
   unfold Z.dtl
   rw[List.length_append,List.length_append,A.bytesOf_length,bitsAll_length]
   omega
 ·rw[decb_bad h];simp
end Go.Proofs.YtnkpgmibhpmdhaaGreat

/- Contracts and plain facts, one behind the other: E4 E5 E6 E7 Y -/
import Derived.Defers
import Derived.Recover
import Derived.Laws.Pointers
import Derived.Deep.RegionWith
import Derived.Test.YtnkpgmibhpmdhaaGreatBeAD
namespace Go.Proofs.YtnkpgmibhpmdhaaGreat
set_option linter.unusedVariables false
open Go.RowKit
theorem catch_panicking (p:Addr) (x k:Int) (older:List PanicEntry) (w:World) (hc:w.cell? p=some (.int .i64 x)) (hz:w.frozen? p=false) :
  CallsD Tryz.prog 77 #[.pointer (some p)] (.panicking ({ v:=.iface 31 (.int .i64 k),recovered:=false } :: older)) w fun e u' w' =>
   e=.returned (.tuple #[])∧u'=.panicking ({ v:=.iface 31 (.int .i64 k),recovered:=true } :: older)∧w'=w.setCell p (.int .i64 k):=by
 have hta:∀ w:World,(Instr.typeAssert (.iface 31 (.int .i64 k)) 20 31 false).run Tryz.prog w=.ok (.int .i64 k) w:=fun w=>by simp[Instr.typeAssert]
 refine callsD_of_wpS Tryz.func77 rfl fun c₀ cs hu=>?_
 apply wpS_seq
 apply wpS_region
 simp[wpOpsS,go_sem,recoverD,hu,Tryz.ntmps77,Exit.thenS]
 refine wpS_of_wp ?_
 go_wp2
 cases c₀
 simp_all [bodyPostS,results,Tryz.results77]
theorem catch_idle (p:Addr) (w:World) :
  CallsD Tryz.prog 77 #[.pointer (some p)] .returning w fun e u' w'=>e=.returned (.tuple #[])∧u'=.returning∧w'=w:=by
 refine callsD_of_wpS Tryz.func77 rfl fun c₀ cs hu=>?_
 apply wpS_seq
 apply wpS_region
 simp[wpOpsS,go_sem,recoverD,hu,Tryz.ntmps77,Exit.thenS]
 refine wpS_of_wp ?_
 go_wp2
 cases c₀
 simp_all [bodyPostS,results,Tryz.results77]
theorem caught_any (k:Nat) (caps:Array Value) (w:World) (R:Int→World→Prop) (hcf:∀ w:World,(callFunc k caps).run Tryz.prog w=.ok (.enter k caps) w)
  (h:Calls Tryz.prog k caps (w.alloc (.cells #[.int .i64 0] 31)) fun e w'=>∃ er:Int,((er=0∧e=.returned (.tuple #[]))∨(er≠0∧e=pan er))∧w'.heap[w.heap.size]?=some (.cells #[.int .i64 0] 31 (0,0))∧R er w') :
  Calls Tryz.prog 35 #[.func (.func k) #[] caps] w fun e w'=>∃ er w1,R er w1∧e=.returned (.int .i64 er)∧w'=w1.setCell ⟨w.heap.size,0,none⟩ (.int .i64 er):=by
 have hmf:∀ (fn:Fn) (first cap:Array Value) (w:World),(Instr.makeFunc fn first cap).run Tryz.prog w=.ok (.func fn first cap) w:=fun _ _ _ _=>rfl
 go_enter_defers Tryz.func35,Tryz.ntmps35
 go_wp2_with fail
 refine h.mono ?_
 rintro e w1 ⟨er,he,hb,hR⟩
 have hlt:=lt_of_block hb
 have hc0:w1.cell? ⟨w.heap.size,0,none⟩=some (.int .i64 0):=by simp[World.cell?,hb]
 have hf0:w1.frozen? ⟨w.heap.size,0,none⟩=false:=by simp[World.frozen?,hb]
 rcases he with ⟨h0,rfl⟩|⟨h0,rfl⟩
 ·have H0:=hide h0
  clear h0
  go_wp2
  refine leaves_cons (f:=77) (args:=#[.pointer (some ⟨w.heap.size,0,none⟩)]) (by simp) (by simp[go_sem]) ?_
  refine (catch_idle ⟨w.heap.size,0,none⟩ _).mono ?_
  rintro e u' w2 ⟨rfl,rfl,rfl⟩
  simp[Leaves,settle,results,Tryz.results35,go_sem,hc0]
  exact⟨er,w1,hR,by rw[H0.out],by rw[H0.out]⟩
 ·unfold pan
  go_wp2
  refine leaves_cons (f:=77) (args:=#[.pointer (some ⟨w.heap.size,0,none⟩)]) (by simp) (by simp[go_sem]) ?_
  refine (catch_panicking ⟨w.heap.size,0,none⟩ 0 er [] _ hc0 hf0).mono ?_
  rintro e u' w2 ⟨rfl,rfl,rfl⟩
  simp[Leaves,settle,results,Tryz.results35,go_sem,hc0]
  exact⟨er,w1,hR,rfl,rfl⟩
theorem cell_of_heap {w:World} {p:Nat} {a:Value} {t:TypeId} (h:w.heap[p]?=some (.cells #[a] t (0,0))):w.cell? ⟨p,0,none⟩=some a∧w.frozen? ⟨p,0,none⟩=false:=by
 constructor<;>simp[World.cell?,World.frozen?,h]
theorem getc_any (B1 B2 B3:Nat) (ao:Option Addr) (len cap:Nat) (l:List Nat) (w:World) (h1:w.heap[B1]?=some (.cells #[.slice ao len cap] 22 (0,0))) (h2:w.heap[B2]?=some (.cells #[.int .u64 0] 49 (0,0))) (h3:w.heap[B3]?=some (.cells #[.int .i64 0] 3 (0,0))) (hne:B2≠B3)
  (h:Sl w .u8 ao len cap (ints l)) (h256:∀ x∈l,x<256) (hm:len≤140737488355328) :
  Calls Tryz.prog 36 #[.pointer (some ⟨B1,0,none⟩),.pointer (some ⟨B2,0,none⟩),.pointer (some ⟨B3,0,none⟩)] w fun e w' =>
   ((E.gE l=0∧e=.returned (.tuple #[]))∨(E.gE l≠0∧e=pan ((E.gE l:Nat):Int)))∧w'.heap[B2]?=some (.cells #[.int .u64 ((E.gN l:Nat):Int)] 49 (0,0))∧w'.heap[B3]?=some (.cells #[.int .i64 ((E.gK l:Nat):Int)] 3 (0,0))∧Kept (fun k=>k=B2∨k=B3) w w':=by
 obtain⟨c1,f1⟩:=cell_of_heap h1
 obtain⟨c2,f2⟩:=cell_of_heap h2
 obtain⟨c3,f3⟩:=cell_of_heap h3
 have c3':∀ u,(w.setCell ⟨B2,0,none⟩ u).cell? ⟨B3,0,none⟩=some (.int .i64 0):=fun u=>by
  rw[World.cell?_setCell_other _ _ _ _ (by intro e;injection e with e;exact hne e)];exact c3
 have H2:=hide h2
 have H3:=hide h3
 have HN:=hide hne
 have HZ:=hide (E.g_zero (l:=l))
 clear h1 h2 h3
 go_enter Tryz.func36,Tryz.ntmps36
 go_wp2_with fail
 refine (get_in _ _ _ l _ h h256 hm).mono ?_
 rintro e w1 ⟨⟨hg,rfl⟩|⟨hg,rfl⟩,rfl⟩
 ·have HG:=hide hg
  clear hg
  obtain⟨n,hn⟩:∃ n:Int,((E.gN l:Nat):Int)=n:=⟨_,rfl⟩
  obtain⟨k,hk⟩:∃ n:Int,((E.gK l:Nat):Int)=n:=⟨_,rfl⟩
  rw[hn,hk]
  have HNn:=hide hn
  have HKk:=hide hk
  clear hn hk
  go_wp2
  go_end0
  rw[← HNn.out,← HKk.out]
  refine⟨.inl ⟨HG.out,rfl⟩,?_,?_,Kept.setCell (Kept.setCell (Kept.refl _ _) (.inl (.inl rfl)) _) (.inl (.inr rfl)) _⟩
  ·rw[Below.heap_setCell _ _ _ _ (show B2≠B3 from HN.out)];exact heap_setCell_one H2.out _
  ·exact heap_setCell_one (by rw[Below.heap_setCell _ _ _ _ (show B3≠B2 from fun e=>HN.out e.symm)];exact H3.out) _
 ·have HG:=hide hg
  clear hg
  unfold pan
  go_wp2
  obtain⟨z1,z2⟩:=HZ.out HG.out
  rw[z1,z2]
  exact⟨rfl,.inr ⟨HG.out,rfl⟩,H2.out,H3.out,Kept.refl _ _⟩
theorem enter_fn {f:FuncId} {fn:Func} {c:Code} (hf:Tryz.prog.funcs[f]?=some fn) (hn:fn.name≠"runtime.NumGoroutine") (hb:fn.body=some c) (args:Array Value) (w:World) :
  (callFunc f args).run Tryz.prog w=.ok (.enter f args) w:=by simp[callFunc,hf,hn,hb]
theorem Tryz.enterGetC (args:Array Value) (w:World):(callFunc 36 args).run Tryz.prog w=.ok (.enter 36 args) w :=
 enter_fn Tryz.func36 (by decide +kernel) rfl args w
theorem heap_alloc_keep {w:World} {k:Nat} {o:Obj} (x:Obj) (h:w.heap[k]?=some o):(w.alloc x).heap[k]?=some o:=by rw[Below.heap_alloc _ _ _ (lt_of_block h)];exact h
set_option maxHeartbeats 400000 in
theorem get_any (ao:Option Addr) (len cap:Nat) (l:List Nat) (w:World) (h:Sl w .u8 ao len cap (ints l)) (h256:∀ x∈l,x<256) (hm:len≤140737488355328) :
  Calls Tryz.prog 16 #[.slice ao len cap] w fun e w'=>e=.returned (.tuple #[.int .u64 ((E.gN l:Nat):Int),.int .i64 ((E.gK l:Nat):Int),.int .i64 ((E.gE l:Nat):Int)])∧Below w.heap.size w w':=by
 have hmf:∀ (fn:Fn) (first cap:Array Value) (w:World),(Instr.makeFunc fn first cap).run Tryz.prog w=.ok (.func fn first cap) w:=fun _ _ _ _=>rfl
 go_enter Tryz.func16,Tryz.ntmps16
 go_wp2_with fail
 refine (caught_any 36 _ _ (fun er w1=>er=((E.gE l:Nat):Int)∧w1.heap[w.heap.size+1]?=some (.cells #[.int .u64 ((E.gN l:Nat):Int)] 49 (0,0))∧w1.heap[w.heap.size+1+1]?=some (.cells #[.int .i64 ((E.gK l:Nat):Int)] 3 (0,0))∧Below w.heap.size w w1) (Tryz.enterGetC _) ?h).mono ?_
 case h =>
  have b1:=heap_alloc_new w (.cells #[.slice ao len cap] 22)
  have b2:=heap_alloc_new (w.alloc (.cells #[.slice ao len cap] 22)) (.cells #[.int .u64 0] 49)
  have b3:=heap_alloc_new ((w.alloc (.cells #[.slice ao len cap] 22)).alloc (.cells #[.int .u64 0] 49)) (.cells #[.int .i64 0] 3)
  have b4:=heap_alloc_new (((w.alloc (.cells #[.slice ao len cap] 22)).alloc (.cells #[.int .u64 0] 49)).alloc (.cells #[.int .i64 0] 3)) (.cells #[.int .i64 0] 31)
  have hbel:Below w.heap.size w ((((w.alloc (.cells #[.slice ao len cap] 22)).alloc (.cells #[.int .u64 0] 49)).alloc (.cells #[.int .i64 0] 3)).alloc (.cells #[.int .i64 0] 31)) :=
   ((((Below.refl _ _).alloc (Nat.le_refl _) _).alloc (by simp) _).alloc (by simp;omega) _).alloc (by simp;omega) _
  simp only[World.size_alloc] at b2 b3 b4
  refine (getc_any _ _ _ ao len cap l _ (heap_alloc_keep _ (heap_alloc_keep _ (heap_alloc_keep _ b1))) (heap_alloc_keep _ (heap_alloc_keep _ b2)) (heap_alloc_keep _ b3) (by omega) (h.below hbel) h256 hm).mono ?_
  rintro e w1 ⟨he,e2,e3,hk⟩
  refine⟨((E.gE l:Nat):Int),?_,?_,rfl,e2,e3,hbel.trans (hk.below (by simp;omega) (by rintro k (rfl|rfl)<;>omega))⟩
  ·rcases he with ⟨h0,he⟩|⟨h0,he⟩
   ·exact .inl ⟨by rw[h0];rfl,he⟩
   ·exact .inr ⟨by omega,he⟩
  ·simp only[World.size_alloc]
   rw[hk.block _ (by simp) (by omega)]
   exact b4
 rintro e w2 ⟨er,w1,⟨her,hb2,hb3,hbel⟩,rfl,rfl⟩
 simp only[World.size_alloc]
 have s2:(w1.setCell ⟨w.heap.size+1+1+1,0,none⟩ (.int .i64 er)).heap[w.heap.size+1]?=some (.cells #[.int .u64 ((E.gN l:Nat):Int)] 49 (0,0)):=by rw[Below.heap_setCell _ _ _ _ (by show _≠w.heap.size+1+1+1;omega)];exact hb2
 have s3:(w1.setCell ⟨w.heap.size+1+1+1,0,none⟩ (.int .i64 er)).heap[w.heap.size+1+1]?=some (.cells #[.int .i64 ((E.gK l:Nat):Int)] 3 (0,0)):=by rw[Below.heap_setCell _ _ _ _ (by show _≠w.heap.size+1+1+1;omega)];exact hb3
 have hbel2:=hbel.setCell (p:=⟨w.heap.size+1+1+1,0,none⟩) (by show w.heap.size≤w.heap.size+1+1+1;omega) (.int .i64 er)
 have HB:=hide hbel2
 have HE:=hide her
 obtain⟨w3,hw3⟩:∃ w3,w1.setCell ⟨w.heap.size+1+1+1,0,none⟩ (.int .i64 er)=w3:=⟨_,rfl⟩
 rw[hw3] at s2 s3 HB ⊢
 obtain⟨N,hN⟩:∃ N:Int,((E.gN l:Nat):Int)=N:=⟨_,rfl⟩
 obtain⟨K,hK⟩:∃ N:Int,((E.gK l:Nat):Int)=N:=⟨_,rfl⟩
 rw[hN] at s2
 rw[hK] at s3
 have HNN:=hide hN
 have HKK:=hide hK
 obtain⟨c2,f2⟩:=cell_of_heap s2
 obtain⟨c3,f3⟩:=cell_of_heap s3
 have c3':∀ u,(w3.setCell ⟨w.heap.size+1,0,none⟩ u).cell? ⟨w.heap.size+1+1,0,none⟩=some (.int .i64 K):=fun u=>by
  rw[World.cell?_setCell_other _ _ _ _ (by intro e;injection e with e;omega)];exact c3
 clear hbel2 hbel hb2 hb3 her hw3 hN hK s2 s3 h h256
 go_wp2
 go_region
 go_wp2
 have c2':((w3.setCell ⟨w.heap.size+1,0,none⟩ (.int .u64 N)).setCell ⟨w.heap.size+1+1,0,none⟩ (.int .i64 K)).cell? ⟨w.heap.size+1,0,none⟩=some (.int .u64 N):=by
  rw[World.cell?_setCell_other _ _ _ _ (by intro e;injection e with e;omega)];simp[World.cell?_setCell_same,c2]
 have c4':((w3.setCell ⟨w.heap.size+1,0,none⟩ (.int .u64 N)).setCell ⟨w.heap.size+1+1,0,none⟩ (.int .i64 K)).cell? ⟨w.heap.size+1+1,0,none⟩=some (.int .i64 K):=by
  simp[World.cell?_setCell_same,c3']
 refine bodyPost_ret (v:=.tuple #[.int .u64 N,.int .i64 K,.int .i64 er]) (by simp[results,Tryz.results16,go_sem,c2',c4']) rfl ⟨by rw[HNN.out,HKK.out,HE.out],?_⟩
 exact (((HB.out.setCell (p:=⟨w.heap.size+1,0,none⟩) (by show w.heap.size≤w.heap.size+1;omega) _).setCell (p:=⟨w.heap.size+1+1,0,none⟩) (by show w.heap.size≤w.heap.size+1+1;omega) _)).drew
set_option maxHeartbeats 400000 in
theorem cut_some (x:Addr) (len cap i:Nat) (w:World) (h1:i≤len) (h2:len≤cap) (h3:cap≤maxLen) :
  Calls Tryz.prog 233 #[.slice (some x) len cap,.int .i64 i] w fun e w'=>e=.returned (.tuple #[.slice (some x) i i,.slice (some (if len=i then x else x.add i)) (len - i) (len - i)])∧Kept (fun _=>False) w w':=by
 unfold maxLen at h3
 go_enter Tryz.func233,Tryz.ntmps233
 go_wp2
 go_region
 all_goals go_wp2
 all_goals
  go_ret2
  exact⟨rfl,(Kept.refl _ _).drew⟩
set_option maxHeartbeats 400000 in
theorem cut_none (w:World) :
  Calls Tryz.prog 233 #[.slice none 0 0,.int .i64 0] w fun e w'=>e=.returned (.tuple #[.slice none 0 0,.slice none 0 0])∧Kept (fun _=>False) w w':=by
 go_enter Tryz.func233,Tryz.ntmps233
 go_wp2
 go_region
 go_wp2
 go_ret2
 exact⟨rfl,(Kept.refl _ _).drew⟩
theorem add_block (x:Addr) (i:Nat):(x.add i).block=x.block:=by unfold Addr.add;split<;>rfl
theorem ints_take (l:List Nat) (i:Nat):ints (l.take i)=(ints l).take i:=by simp[ints]
theorem ints_drop (l:List Nat) (i:Nat):ints (l.drop i)=(ints l).drop i:=by simp[ints]
theorem Sl.head {w:World} {k:IntKind} {ao:Option Addr} {len cap:Nat} {l:List Int} (h:Sl w k ao len cap l) (i c:Nat) (hi:i≤len) (hc:i≤c) (hcc:c≤cap):Sl w k ao i c (l.take i):=by
 obtain⟨h1,h2,h3,h4,h5⟩:=h
 refine⟨by simp;omega,hc,by omega,fun e=>by have:=h4 e;omega,?_⟩
 rcases h5 with h5|⟨b,off,rfl,hlt,h5⟩
 ·exact .inl (by omega)
 ·refine .inr ⟨b,off,rfl,hlt,fun j hj=>?_⟩
  rw[h5 j (by omega)]
  simp[List.getD,hj]
theorem Sl.tail {w:World} {k:IntKind} {x:Addr} {len cap:Nat} {l:List Int} (h:Sl w k (some x) len cap l) (i c:Nat) (hi:i≤len) (hc:len - i≤c) (hcc:c≤cap) (y:Addr) (hy:i<len→y=x.add i):Sl w k (some y) (len - i) c (l.drop i):=by
 obtain⟨h1,h2,h3,h4,h5⟩:=h
 refine⟨by rw[List.length_drop,h1],hc,Nat.le_trans hcc h3,by simp,?_⟩
 by_cases hlt:i<len
 ·rcases h5 with h5|⟨b,off,hx,hb,h5⟩
  ·omega
  ·obtain rfl:=Option.some.inj hx
   rw[hy hlt]
   refine .inr ⟨b,off+i,by simp[Addr.add],hb,fun j hj=>?_⟩
   rw[Nat.add_assoc,h5 (i+j) (by omega)]
   simp[List.getD]
 ·exact .inl (by omega)
theorem cut_any (ao:Option Addr) (len cap:Nat) (l:List Nat) (i:Nat) (w:World) (h:Sl w .u8 ao len cap (ints l)) (hi:i≤len) :
  Calls Tryz.prog 233 #[.slice ao len cap,.int .i64 i] w fun e w'=>∃ a2,e=.returned (.tuple #[.slice ao i i,.slice a2 (len - i) (len - i)])∧Kept (fun _=>False) w w'∧Sl w' .u8 ao i i (ints (l.take i))∧Sl w' .u8 a2 (len - i) (len - i) (ints (l.drop i))∧(∀ y,a2=some y→∃ x,ao=some x∧y.block=x.block):=by
 have h0:=h
 obtain⟨h1,h2,h3,h4,h5⟩:=h
 cases ao with
 | none =>
  obtain rfl:=h4 rfl
  obtain rfl:len=0:=by omega
  obtain rfl:i=0:=by omega
  refine (cut_none w).mono ?_
  rintro e w' ⟨rfl,hk⟩
  refine⟨none,rfl,hk,?_,?_,by simp⟩
  ·rw[ints_take];exact (h0.head 0 0 (by omega) (by omega) (by omega)).kept hk (by simp)
  ·exact h0.kept hk (by simp)
 | some x =>
  refine (cut_some x len cap i w hi h2 h3).mono ?_
  rintro e w' ⟨rfl,hk⟩
  refine⟨_,rfl,hk,?_,?_,fun y hy=>⟨x,rfl,by obtain rfl:=Option.some.inj hy;split<;>simp[add_block]⟩⟩
  ·rw[ints_take];exact (h0.head i i hi (Nat.le_refl _) (by omega)).kept hk (by simp)
  ·rw[ints_drop];exact (h0.tail i (len - i) hi (Nat.le_refl _) (by omega) _ (fun hlt=>by rw[if_neg (by omega)])).kept hk (by simp)
theorem cut_i (ao:Option Addr) (len cap:Nat) (l:List Nat) (i:Int) (w:World) (h:Sl w .u8 ao len cap (ints l)) (h0:0≤i) (hi:i≤(len:Int)) :
  Calls Tryz.prog 233 #[.slice ao len cap,.int .i64 i] w fun e w'=>∃ a2,e=.returned (.tuple #[.slice ao i.toNat i.toNat,.slice a2 (len - i.toNat) (len - i.toNat)])∧Kept (fun _=>False) w w'∧Sl w' .u8 ao i.toNat i.toNat (ints (l.take i.toNat))∧Sl w' .u8 a2 (len - i.toNat) (len - i.toNat) (ints (l.drop i.toNat))∧(∀ y,a2=some y→∃ x,ao=some x∧y.block=x.block):=by
 obtain⟨n,rfl⟩:=Int.eq_ofNat_of_zero_le h0
 rw[Int.toNat_natCast]
 exact cut_any ao len cap l n w h (by omega)
theorem run_append_nothing (w:World) (ty:TypeId) (ao bo:Option Addr) (n cap c:Nat) (h:n≤cap) :
  (Builtin.append_ #[22,22] ty #[.slice ao n cap,.slice bo 0 c]).run Tryz.prog w=.ok (.slice ao n cap) w:=by
 obtain⟨i0,hi,hz0,hz1,hz2⟩:=info_parts Tryz.infoU8
 cases ao<;>cases bo<;>simp[Builtin.append_,run_underlying Tryz.underlying22,sizeOf,typeInfo,hi,Builtin.lenOf,h,Builtin.firstCells,run_load_none,storeCells]
theorem wpList_append_nothing {w:World} {ops:Array Oper} {rest:List Oper} {o:Oper} {a:Act} {Q:Exit→Act→World→Prop} (hgd:o.guard=none) (s x:Operand)
  (ho:o.op=.call { callee:=.builtin .append,args:=#[s,x],argTypes:=#[22,22] })
  (ao bo:Option Addr) (n cap c:Nat) (hs:a.eval s=.slice ao n cap) (hx:a.eval x=.slice bo 0 c) (hn:n≤cap)
  (h:wpList Tryz.prog ops Q rest (a.put o.dst (.slice ao n cap)) w):wpList Tryz.prog ops Q (o :: rest) a w:=by
 refine wpList_plain hgd fun K hK=>?_
 have hrun:=run_append_nothing w o.type ao bo n cap c hn
 unfold Oper.wp
 simp[execOp,ho,resolve,invoke,builtin,hs,hx,hrun,Result.andThen]
 exact hK _ _ h
set_option maxHeartbeats 400000 in
theorem own_zero (ao:Option Addr) (cap:Nat) (w:World) (h:Sl w .u8 ao 0 cap []) :
  Calls Tryz.prog 234 #[.slice ao 0 cap] w fun e w'=>e=.returned (.slice ao 0 0)∧Kept (fun _=>False) w w':=by
 go_enter Tryz.func234,Tryz.ntmps234
 go_wp2_with fail
 refine (cut_any ao 0 cap [] 0 w h (Nat.le_refl _)).mono ?_
 rintro e w1 ⟨a2,rfl,hk,_,_,_⟩
 go_wp2_with (at_builtin;refine wpList_append_nothing rfl _ _ rfl ao ao 0 0 cap rfl rfl (Nat.le_refl _) ?_)
 go_wp2
 go_ret
 exact⟨rfl,hk⟩
set_option maxHeartbeats 400000 in
theorem own_some (x:Addr) (len cap:Nat) (l:List Nat) (w:World) (h:Sl w .u8 (some x) len cap (ints l)) (h0:0<len) (hb:len≤140737488355328) :
  Calls Tryz.prog 234 #[.slice (some x) len cap] w fun e w'=>∃ v',e=.returned v'∧w'.ownsRow w.heap.size 5 1 v' len (B8 l)∧Below w.heap.size w w':=by
 obtain⟨i0,hi,hz0,hz1,hz2⟩:=info_parts Tryz.infoU8
 go_enter Tryz.func234,Tryz.ntmps234
 go_wp2_with fail
 refine (cut_any (some x) len cap l 0 w h (by omega)).mono ?_
 rintro e w1 ⟨a2,rfl,hk,_,_,_⟩
 have h1:=h.kept hk (by simp)
 have hs:=hk.size
 go_wp2_with (at_builtin;refine wpList_append_grows _ rfl _ _ 22 rfl 5 i0 (.int .u8 0) 1 1 Tryz.underlying22 hi hz0 hz1 hz2 rfl (by decide) (some x) 0 0 [] rfl (by simp) rfl (by simp) x len cap ((ints l).map (Value.int .u8)) rfl ?c6 ?c1 (ints_oneCell _ _) ?c2 ?c3 ?c4 ?_)
 case c6=>simpa using h.1
 case c1=>exact h1.news x rfl
 case c2=>omega
 case c3=>unfold maxLen;omega
 case c4=>omega
 intro v' w2 hown hg
 go_wp2
 go_ret
 refine⟨v',rfl,?_,?_⟩
 ·rw[B8_ints]
  have:=owns_base (base':=w.heap.size) hown fun g hg=>by have:=(owns_lt hown hg).1;omega
  simpa using this
 ·exact (hk.grown hg (by simp)).below (Nat.le_refl _) (by simp)
theorem own_any (ao:Option Addr) (len cap:Nat) (l:List Nat) (w:World) (h:Sl w .u8 ao len cap (ints l)) (hb:len≤140737488355328) :
  Calls Tryz.prog 234 #[.slice ao len cap] w fun e w'=>∃ a2 c2,e=.returned (.slice a2 len c2)∧Sl w' .u8 a2 len c2 (ints l)∧Below w.heap.size w w':=by
 have hl:l.length=len:=by rw[← h.1,ints_length]
 by_cases h0:len=0
 ·subst h0
  obtain rfl:l=[]:=List.eq_nil_of_length_eq_zero hl
  refine (own_zero ao cap w h).mono ?_
  rintro e w' ⟨rfl,hk⟩
  exact⟨ao,0,rfl,(h.head 0 0 (by omega) (by omega) (by omega)).kept hk (by simp),hk.below (Nat.le_refl _) (by simp)⟩
 ·cases ao with
  | none=>have:=h.2.2.2.1 rfl;have:=h.2.1;omega
  | some x =>
   refine (own_some x len cap l w h (by omega) hb).mono ?_
   rintro e w' ⟨v',rfl,ho,hb⟩
   rw[← hl] at ho
   obtain⟨a2,c2,rfl,hsl,_⟩:=Sl.of_bytes ho
   rw[hl] at hsl
   exact⟨a2,c2,by rw[hl],hsl,hb⟩
set_option maxHeartbeats 1000000 in
theorem totext_in (ao:Option Addr) (len cap:Nat) (l:List Nat) (most:Int) (w:World) (h:Sl w .u8 ao len cap (ints l)) (h256:∀ x∈l,x<256) (hm:len≤140737488355328) (hm0 : -9223372036854775808≤most) (hm1:most<9223372036854775808) :
  Calls Tryz.prog 217 #[.slice ao len cap,.int .i64 most] w fun e w' =>
   ((E.xE most l=0∧∃ a2 c2,e=.returned (.tuple #[.string (strOfNums (ints (E.xS l))),.slice a2 (E.xR l).length c2])∧Sl w' .u8 a2 (E.xR l).length c2 (ints (E.xR l)))∨(E.xE most l≠0∧e=pan ((E.xE most l:Nat):Int)))∧Below w.heap.size w w':=by
 have hlen:l.length=len:=by rw[← h.1,ints_length]
 have HL:=hide hlen
 have HS:=hide h
 have H2:=hide h256
 have hcap:=h.2.1
 clear hlen h h256
 go_enter Tryz.func217,Tryz.ntmps217
 go_wp2_with fail
 refine (get_in _ _ _ l _ HS.out H2.out hm).mono ?_
 rintro e w1 ⟨⟨hg,rfl⟩|⟨hg,rfl⟩,rfl⟩
 case inr =>
  have HG:=hide hg
  clear hg
  unfold pan
  go_wp2
  exact⟨rfl,.inr ⟨by rw[E.xE_bad HG.out];exact HG.out,by rw[E.xE_bad HG.out];rfl⟩,Below.refl _ _⟩
 obtain⟨k1,k2,k3,k4,k5,k6⟩:=E.gE_zero hg H2.out
 have hnl:=E.gN_lt H2.out
 have HG:=hide hg
 clear hg k3 k4 k5
 obtain⟨N,hN⟩:∃ N:Int,((E.gN l:Nat):Int)=N:=⟨_,rfl⟩
 have hN0:0≤N:=by omega
 have hN1:N<18446744073709551616:=by omega
 obtain⟨K,hK⟩:∃ K:Nat,E.gK l=K:=⟨_,rfl⟩
 have hK1:K≤len:=by have:=HL.out;omega
 rw[hN,hK]
 have HN:=hide hN
 have HK:=hide hK
 clear hN hK k1 k2 k6 hnl
 by_cases c1:most<0
 ·go_wp2
  have hx:=E.xE_range (most:=most) HG.out (.inl c1)
  exact⟨rfl,.inr ⟨by rw[hx];decide,by rw[hx];rfl⟩,Below.refl _ _⟩
 ·have c1':0≤most:=by omega
  by_cases c2:most<N
  ·go_wp2
   have hx:=E.xE_range (most:=most) HG.out (.inr (by rw[HN.out];exact c2))
   exact⟨rfl,.inr ⟨by rw[hx];decide,by rw[hx];rfl⟩,Below.refl _ _⟩
  ·have c2':N≤most:=by omega
   clear c1 c2
   go_wp2_with fail
   refine (cut_any _ _ _ l K _ HS.out hK1).mono ?_
   rintro e w2 ⟨a2,rfl,hk2,_,hs2,_⟩
   have HS2:=hide hs2
   have HB2:=hide hk2
   clear hs2 hk2
   by_cases c3:((len - K:Nat):Int)<N
   ·go_wp2
    have hx:=E.xE_short (most:=most) HG.out c1' (by rw[HN.out];exact c2') (by have:=HN.out;have:=HL.out;have:=HK.out;omega)
    exact⟨rfl,.inr ⟨by rw[hx];decide,by rw[hx];rfl⟩,HB2.out.below (Nat.le_refl _) (by simp)⟩
   ·have c3':N≤((len - K:Nat):Int):=by omega
    clear c3
    go_wp2_with fail
    refine (cut_i _ _ _ (l.drop K) N _ HS2.out hN0 c3').mono ?_
    rintro e w3 ⟨a3,rfl,hk3,hs3,hs4,_⟩
    have hdr:=(Kept.refl (fun _=>False) w3).drew
    have HS3:=hide (hs3.kept hdr (by simp))
    have HS4:=hide (hs4.kept hdr (by simp))
    have HB3:=hide ((HB2.out.trans hk3).trans hdr)
    have hcv:=str_of HS3.out
    clear hdr
    have HC3:=hide c3'
    have HC2:=hide c2'
    clear hs3 hs4 hk3 c3' c2' hN1
    go_wp2
    go_region_with (go_at_call 234;refine (own_any _ _ _ _ _ HS4.out (by omega)).mono ?_;rintro e w4 ⟨a4,c4,rfl,hs5,hb5⟩;have hcv2:=str_of (HS3.out.below hb5))
    all_goals
     clear hcv hcv2
     go_wp2
     go_ret2
     have hsK:N.toNat=E.gN l:=by have:=HN.out;omega
     have hx:=E.xE_ok (most:=most) HG.out c1' (by rw[HN.out];exact HC2.out) (by have:=HL.out;have:=HK.out;have:=HC3.out;omega)
     have eS:(l.drop K).take N.toNat=E.xS l:=by rw[E.xS,HK.out,hsK]
     have eR:(l.drop K).drop N.toNat=E.xR l:=by rw[E.xR,HK.out,hsK]
     have eL:len - K - N.toNat=(E.xR l).length:=by rw[← eR,List.length_drop,List.length_drop,HL.out]
     rw[eR,eL] at hs5
     exact⟨.inl ⟨hx,a4,c4,by rw[← eS,← eL];rfl,hs5⟩,(HB3.out.below (Nat.le_refl _) (by simp)).trans (hb5.mono HB3.out.size)⟩
theorem Tryz.infoI64:(Tryz.prog.info? 2).map (fun i=>(i.zero,i.size,i.bytes))=some (some (.int .i64 0),1,8):=by kernel_rfl
set_option maxHeartbeats 400000 in
theorem toints_neg (ao:Option Addr) (len cap:Nat) (n:Int) (w:World) (hn:n<0) :
  Calls Tryz.prog 215 #[.slice ao len cap,.int .i64 n] w fun e w'=>e=pan 1∧w'=w:=by
 go_enter Tryz.func215,Tryz.ntmps215
 go_wp2
 exact⟨rfl,rfl,rfl⟩
set_option maxHeartbeats 1000000 in
theorem toints_pos (ao:Option Addr) (len cap:Nat) (l:List Nat) (n:Int) (w:World) (h:Sl w .u8 ao len cap (ints l)) (h256:∀ x∈l,x<256) (hm:len≤140737488355328∧(len≤1099511627776∨n≤1099511627776)) (hn0:0≤n) (hn1:n<9223372036854775808) :
  Calls Tryz.prog 215 #[.slice ao len cap,.int .i64 n] w fun e w' =>
   ((E.tE n.toNat l=0∧∃ a1 c1 a2 c2,e=.returned (.tuple #[.slice a1 (E.tL n.toNat l).length c1,.slice a2 (E.tR n.toNat l).length c2])∧Sl w' .i64 a1 (E.tL n.toNat l).length c1 (E.tL n.toNat l)∧Sl w' .u8 a2 (E.tR n.toNat l).length c2 (ints (E.tR n.toNat l))∧∀ x,a1=some x→w.heap.size≤x.block)∨(E.tE n.toNat l≠0∧e=pan ((E.tE n.toNat l:Nat):Int)))∧Below w.heap.size w w':=by
 obtain⟨i0,hi,hz0,hz1,hz2⟩:=info_parts Tryz.infoI64
 have hlen:l.length=len:=by rw[← h.1,ints_length]
 have HL:=hide hlen
 have HS:=hide h
 have H2:=hide h256
 obtain⟨m,hmn⟩:∃ m:Nat,n.toNat=m:=⟨_,rfl⟩
 have HM:=hide hmn
 rw[hmn]
 have hnd:decide (n<0)=false:=by simp;omega
 clear hlen h h256 hmn
 obtain⟨hm,hm2⟩:=hm
 go_enter Tryz.func215,Tryz.ntmps215
 go_wp2_with fail
 go_loopw [0,6,13] (fun b v i wr=>∃ j:Nat,j≤m∧i=.int .i64 j∧E.tE j l=0∧(∃ a c,b=.slice a (E.tR j l).length c∧Sl wr .u8 a (E.tR j l).length c (ints (E.tR j l))∧((E.tR j l).length=0∨∀ x,a=some x→x.block<w.heap.size))∧wr.ownsRow w.heap.size 2 1 v j ((E.tL j l).map (Value.int .i64))∧Below w.heap.size w wr) (fun _ _ i _=>m - (intOf i).toNat)
 case atStart =>
  refine⟨0,Nat.zero_le _,rfl,rfl,⟨ao,cap,?_,?_,?_⟩,World.ownsRow_nil _ _ _ _,Below.refl _ _⟩
  ·show _=Value.slice ao l.length cap;rw[HL.out]
  ·show Sl w .u8 ao l.length cap (ints l);rw[HL.out];exact HS.out
  ·show l.length=0∨_
   rcases HS.out.2.2.2.2 with h5|⟨b,off,rfl,hlt,_⟩
   ·exact .inl (by rw[HL.out];exact h5)
   ·exact .inr fun x hx=>by obtain rfl:=Option.some.inj hx;exact hlt
 case round =>
  obtain⟨j,hjm,rfl,hte,⟨a,c,rfl,hsl,haw⟩,hown,hbel⟩:=hrel
  have hsz:=hbel.size
  have hrl:=E.tR_length j l H2.out hte
  rw[HL.out] at hrl
  have HT:=hide hte
  have HSL:=hide hsl
  have HAW:=hide haw
  have HB:=hide hbel
  have HR2:=hide (E.tR_lt j l H2.out)
  clear hte hsl haw hbel
  by_cases hlt:j<m
  ·have hjn:(j:Int)<n:=by have:=HM.out;omega
   obtain⟨r,hr⟩:∃ r,E.tR j l=r:=⟨_,rfl⟩
   rw[hr] at HSL HAW hrl HR2
   rw[hr]
   have HR:=hide hr
   clear hr
   go_wp2_with fail
   refine (get_in _ _ _ r _ HSL.out HR2.out (by omega)).mono ?_
   rintro e w1 ⟨⟨hg,rfl⟩|⟨hg,rfl⟩,rfl⟩
   case inr =>
    have HG:=hide hg
    clear hg
    unfold pan
    go_wp2
    have hx:=E.tE_stop HT.out hlt (by rw[HR.out];exact HG.out)
    rw[HR.out] at hx
    exact⟨rfl,.inr ⟨by rw[hx];exact HG.out,by rw[hx];rfl⟩,HB.out⟩
   obtain⟨k1,k2,_,_,_,_⟩:=E.gE_zero hg HR2.out
   have hnl:=E.gN_lt HR2.out
   have HG:=hide hg
   clear hg
   obtain⟨N,hN⟩:∃ N:Int,((E.gN r:Nat):Int)=N:=⟨_,rfl⟩
   have hN0:0≤N:=by omega
   have hN1:N<18446744073709551616:=by omega
   obtain⟨K,hK⟩:∃ K:Nat,E.gK r=K:=⟨_,rfl⟩
   have hK1:K≤r.length:=by omega
   have HN:=hide hN
   have HK:=hide hK
   rw[hN,hK]
   clear hN hK k1 k2 hnl
   go_wp2_with (first
    | (go_at_call 163;refine (zag_any _ _ hN0 hN1).mono ?_;rintro e w' ⟨rfl,rfl⟩)
    | (at_builtin;refine wpList_append_to rfl _ _ 204 rfl w.heap.size 2 i0 (.int .i64 0) 1 8 Tryz.underlying204 hi hz0 hz1 hz2 rfl (by decide) _ _ _ rfl (hown.alloc _) (some ⟨World.heap _ |>.size,0,none⟩) 1 1 [.int .i64 (E.zag N.toNat)] rfl (by simp) rfl (Sl.news1 _ _) (one_oneCell _ _) (by unfold maxLen;omega) (by omega) (by simp;omega) ?_))
   intro v2 w2 hown2 has2
   have hkAS:Kept (fun k=>w.heap.size≤k) w' w2:=((Kept.refl _ w').alloc _).trans' has2.1 (fun k hk=>.inl (owns_lt hown hk).1)
   have hs2:Sl w2 .u8 a r.length c (ints r):=HSL.out.kept0 hkAS (by rcases HAW.out with h|h;exact .inl h;exact .inr fun x hx=>by have:=h x hx;omega)
   have hb2:Below w.heap.size w w2:=HB.out.trans (hkAS.below hsz (fun k hk=>hk))
   have HS2:=hide hs2
   have HB2:=hide hb2
   have HO2:=hide hown2
   clear hkAS hs2 hb2 hown2 has2 hown
   go_wp2_with fail
   refine (cut_any a r.length c r K _ HS2.out hK1).mono ?_
   rintro e w3 ⟨a3,rfl,hk3,_,hs3,hbl⟩
   have HS3:=hide hs3
   have HK3:=hide hk3
   have HBL:=hide hbl
   clear hs3 hk3 hbl
   go_wp2
   go_roundw
   case rel =>
    have eR:E.tR (j+1) l=r.drop K:=by rw[E.tR_succ,HR.out,HK.out]
    have eL:E.tL (j+1) l=E.tL j l++[E.zag N.toNat]:=by rw[E.tL_succ,HR.out,← HN.out,Int.toNat_natCast]
    refine⟨j+1,hlt,by go_num,by rw[E.tE_succ _ _ HT.out,HR.out];exact HG.out,⟨a3,r.length - K,?_,?_,?_⟩,?_,HB2.out.trans (HK3.out.below HB2.out.size (by simp))⟩
    ·rw[eR,List.length_drop]
    ·rw[eR,List.length_drop];exact HS3.out
    ·rw[eR,List.length_drop]
     rcases HAW.out with h|h
     ·exact .inl (by omega)
     ·refine .inr fun y hy=>?_
      obtain⟨x,hx,hxy⟩:=HBL.out y hy
      rw[hxy];exact h x hx
    ·rw[eL,List.map_append]
     exact owns_of_block HO2.out fun g hg=>HK3.out.block g (owns_lt HO2.out hg).2 (by simp)
   case measure=>simp[intOf];omega
  ·have hjm':j=m:=by omega
   have hjn:¬ (j:Int)<n:=by have:=HM.out;omega
   subst hjm'
   clear hlt
   have HO:=hide hown
   clear hown
   go_wp2_with fail
   refine (own_any _ _ _ (E.tR j l) _ HSL.out (by omega)).mono ?_
   rintro e w3 ⟨a3,c3,rfl,hs3,hb3⟩
   obtain⟨a1,c1,hv1,hsl1,hob⟩:=Sl.of_owns (l:=E.tL j l) (k:=.i64) (by rw[E.tL_length];exact HO.out)
   have HS1:=hide hsl1
   have HX:Hid (∀ x,a1=some x→w.heap.size≤x.block):=fun x hx=>(owns_lt HO.out (by rw[hob,hx];rfl)).1
   clear hsl1 hob
   subst hv1
   go_wp2
   go_ret2
   exact⟨.inl ⟨HT.out,a1,c1,a3,c3,rfl,HS1.out.below hb3,hs3,HX.out⟩,HB.out.trans (hb3.mono hsz)⟩
theorem toints_inN (ao:Option Addr) (len cap:Nat) (l:List Nat) (n:Int) (w:World) (h:Sl w .u8 ao len cap (ints l)) (h256:∀ x∈l,x<256) (hm:len≤140737488355328∧(len≤1099511627776∨n≤1099511627776)) (hn1:n<9223372036854775808) :
  Calls Tryz.prog 215 #[.slice ao len cap,.int .i64 n] w fun e w' =>
   ((E.iE n l=0∧∃ a1 c1 a2 c2,e=.returned (.tuple #[.slice a1 (E.tL n.toNat l).length c1,.slice a2 (E.tR n.toNat l).length c2])∧Sl w' .i64 a1 (E.tL n.toNat l).length c1 (E.tL n.toNat l)∧Sl w' .u8 a2 (E.tR n.toNat l).length c2 (ints (E.tR n.toNat l))∧∀ x,a1=some x→w.heap.size≤x.block)∨(E.iE n l≠0∧e=pan ((E.iE n l:Nat):Int)))∧Below w.heap.size w w':=by
 by_cases hn:n<0
 ·refine (toints_neg ao len cap n w hn).mono ?_
  rintro e w' ⟨rfl,rfl⟩
  exact⟨.inr ⟨by rw[E.iE_neg hn];decide,by rw[E.iE_neg hn];rfl⟩,Below.refl _ _⟩
 ·rw[E.iE_pos (by omega)]
  exact toints_pos ao len cap l n w h h256 hm (by omega) hn1
def TextAns (n:Int) (l:List Nat) (B0:Nat) (w:World) (v1 v2:Value):Prop :=
 v1=.string (strOfNums (ints (E.yS n l)))∧∃ a2 c2,v2=.slice a2 (E.yR n l).length c2∧Sl w .u8 a2 (E.yR n l).length c2 (ints (E.yR n l))
theorem TextAns.good {n:Int} {l:List Nat} {B0:Nat} {w:World} {a2:Option Addr} {c2:Nat} (h:E.xE n l=0) (hs:Sl w .u8 a2 (E.xR l).length c2 (ints (E.xR l))):TextAns n l B0 w (.string (strOfNums (ints (E.xS l)))) (.slice a2 (E.xR l).length c2):=by
 unfold TextAns E.yS E.yR;rw[if_pos h,if_pos h];exact⟨rfl,a2,c2,rfl,hs⟩
theorem Sl.nil (w:World) (k:IntKind):Sl w k none 0 0 []:=⟨rfl,Nat.le_refl _,by decide,fun _=>rfl,.inl rfl⟩
theorem TextAns.bad {n:Int} {l:List Nat} {B0:Nat} {w:World} (h:E.xE n l≠0):TextAns n l B0 w (.string ⟨#[]⟩) (.slice none 0 0):=by
 unfold TextAns E.yS E.yR;rw[if_neg h,if_neg h];exact⟨rfl,none,0,rfl,Sl.nil _ _⟩
theorem TextAns.keptE {n:Int} {l:List Nat} {B0:Nat} {w:World} {v1 v2:Value} {B:Nat} (h:TextAns n l B0 w v1 v2) (hb:w.heap[B]?=some (.cells #[.int .i64 0] 31 (0,0))) (hB:B<B0) (u:Value):TextAns n l B0 (w.setCell ⟨B,0,none⟩ u) v1 v2:=by
 obtain⟨h1,a2,c2,h2,h3⟩:=h
 exact⟨h1,a2,c2,h2,h3.set hb (by simp) u⟩
theorem TextAns.shape {n:Int} {l:List Nat} {B0:Nat} {w:World} {v1 v2:Value} (h:TextAns n l B0 w v1 v2):∃ x1 a2 l2 c2,v1=.string x1∧v2=.slice a2 l2 c2:=by
 obtain⟨h1,a2,c2,h2,_⟩:=h
 exact⟨_,a2,_,c2,h1,h2⟩
theorem TextAns.keptS {n:Int} {l:List Nat} {B0:Nat} {w:World} {x1:ByteArray} {a2:Option Addr} {l2 c2 B3 B4:Nat} (h:TextAns n l B0 w (.string x1) (.slice a2 l2 c2)) (h3:w.heap[B3]?=some (.cells #[.string x1] 9 (0,0))) (h4:w.heap[B4]?=some (.cells #[.slice a2 l2 c2] 22 (0,0))) (hne:B3≠B4) {u v:Value} :
  TextAns n l B0 ((w.setCell ⟨B3,0,none⟩ u).setCell ⟨B4,0,none⟩ v).drew (.string x1) (.slice a2 l2 c2):=by
 obtain⟨h1,a2',c2',h2,h5⟩:=h
 refine⟨h1,a2',c2',h2,((h5.set h3 (by simp) u).set (B:=B4) (v:=.slice a2 l2 c2) (t:=22) ?_ (by simp) v).kept ((Kept.refl (fun _=>False) _).drew) (by simp)⟩
 rw[Below.heap_setCell _ _ _ _ (show B4≠B3 from fun e=>hne e.symm)];exact h4
def IntsAns (n:Int) (l:List Nat) (B0:Nat) (w:World) (v1 v2:Value):Prop :=
 (∃ a1 c1,v1=.slice a1 (E.iL n l).length c1∧Sl w .i64 a1 (E.iL n l).length c1 (E.iL n l)∧∀ x,a1=some x→B0≤x.block)∧∃ a2 c2,v2=.slice a2 (E.iR n l).length c2∧Sl w .u8 a2 (E.iR n l).length c2 (ints (E.iR n l))
theorem IntsAns.good {n:Int} {l:List Nat} {B0:Nat} {w:World} {a1 a2:Option Addr} {c1 c2:Nat} (h:E.iE n l=0) (hs1:Sl w .i64 a1 (E.tL n.toNat l).length c1 (E.tL n.toNat l)) (hx:∀ x,a1=some x→B0≤x.block) (hs:Sl w .u8 a2 (E.tR n.toNat l).length c2 (ints (E.tR n.toNat l))):IntsAns n l B0 w (.slice a1 (E.tL n.toNat l).length c1) (.slice a2 (E.tR n.toNat l).length c2):=by
 unfold IntsAns E.iL E.iR;rw[if_pos h,if_pos h];exact⟨⟨a1,c1,rfl,hs1,hx⟩,a2,c2,rfl,hs⟩
theorem IntsAns.bad {n:Int} {l:List Nat} {B0:Nat} {w:World} (h:E.iE n l≠0):IntsAns n l B0 w (.slice none 0 0) (.slice none 0 0):=by
 unfold IntsAns E.iL E.iR;rw[if_neg h,if_neg h];exact⟨⟨none,0,rfl,Sl.nil _ _,by simp⟩,none,0,rfl,Sl.nil _ _⟩
theorem IntsAns.keptE {n:Int} {l:List Nat} {B0:Nat} {w:World} {v1 v2:Value} {B:Nat} (h:IntsAns n l B0 w v1 v2) (hb:w.heap[B]?=some (.cells #[.int .i64 0] 31 (0,0))) (hB:B<B0) (u:Value):IntsAns n l B0 (w.setCell ⟨B,0,none⟩ u) v1 v2:=by
 obtain⟨⟨a1,c1,h1,h3,hx⟩,a2,c2,h2,h4⟩:=h
 exact⟨⟨a1,c1,h1,h3.kept (Kept.setCell (F:=fun k=>k=B) (Kept.refl _ _) (.inl rfl) u) (fun x e h=>by have:=hx x e;omega),hx⟩,a2,c2,h2,h4.set hb (by simp) u⟩
theorem IntsAns.shape {n:Int} {l:List Nat} {B0:Nat} {w:World} {v1 v2:Value} (h:IntsAns n l B0 w v1 v2):∃ a1 l1 c1 a2 l2 c2,v1=.slice a1 l1 c1∧v2=.slice a2 l2 c2:=by
 obtain⟨⟨a1,c1,h1,_,_⟩,a2,c2,h2,_⟩:=h
 exact⟨a1,_,c1,a2,_,c2,h1,h2⟩
theorem IntsAns.keptS {n:Int} {l:List Nat} {B0:Nat} {w:World} {a1 a2:Option Addr} {l1 c1 l2 c2 B3 B4:Nat} (h:IntsAns n l B0 w (.slice a1 l1 c1) (.slice a2 l2 c2)) (h3:w.heap[B3]?=some (.cells #[.slice a1 l1 c1] 204 (0,0))) (h4:w.heap[B4]?=some (.cells #[.slice a2 l2 c2] 22 (0,0))) (hne:B3≠B4) {u v:Value} :
  IntsAns n l B0 ((w.setCell ⟨B3,0,none⟩ u).setCell ⟨B4,0,none⟩ v).drew (.slice a1 l1 c1) (.slice a2 l2 c2):=by
 obtain⟨⟨a1',c1',h1,h6,hx⟩,a2',c2',h2,h5⟩:=h
 have h4':∀ u,(w.setCell ⟨B3,0,none⟩ u).heap[B4]?=some (.cells #[.slice a2 l2 c2] 22 (0,0)):=fun u=>by
  rw[Below.heap_setCell _ _ _ _ (show B4≠B3 from fun e=>hne e.symm)];exact h4
 exact⟨⟨a1',c1',h1,((h6.set h3 (by simp) u).set (h4' u) (by simp) v).kept ((Kept.refl (fun _=>False) _).drew) (by simp),hx⟩,
  a2',c2',h2,((h5.set h3 (by simp) u).set (h4' u) (by simp) v).kept ((Kept.refl (fun _=>False) _).drew) (by simp)⟩
theorem TextAns.base {n:Int} {l:List Nat} {B0 B1:Nat} {w:World} {v1 v2:Value} (h:TextAns n l B0 w v1 v2) (hB:B1≤B0):TextAns n l B1 w v1 v2:=h
theorem IntsAns.base {n:Int} {l:List Nat} {B0 B1:Nat} {w:World} {v1 v2:Value} (h:IntsAns n l B0 w v1 v2) (hB:B1≤B0):IntsAns n l B1 w v1 v2:=by
 obtain⟨⟨a1,c1,h1,h3,hx⟩,h2⟩:=h
 exact⟨⟨a1,c1,h1,h3,fun x e=>Nat.le_trans hB (hx x e)⟩,h2⟩
end Go.Proofs.YtnkpgmibhpmdhaaGreat

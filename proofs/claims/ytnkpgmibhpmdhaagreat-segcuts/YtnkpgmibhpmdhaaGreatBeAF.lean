/- Contracts and plain facts, one behind the other: E8 E9 E10 Z6 Z7 ZA -/
import Derived.Lib.SlBytesConst
import Derived.Handy
import Derived.Test.YtnkpgmibhpmdhaaGreatBeAE
namespace Go.Proofs.YtnkpgmibhpmdhaaGreat
set_option linter.unusedVariables false
open Go.RowKit
set_option maxHeartbeats 400000 in
theorem totextc_any (B1 B2 B3 B4:Nat) (ao:Option Addr) (len cap:Nat) (l:List Nat) (n:Int) (w:World) (h1:w.heap[B1]?=some (.cells #[.slice ao len cap] 22 (0,0))) (h2:w.heap[B2]?=some (.cells #[.int .i64 n] 3 (0,0))) (h3:w.heap[B3]?=some (.cells #[.string ⟨#[]⟩] 9 (0,0))) (h4:w.heap[B4]?=some (.cells #[.slice none 0 0] 22 (0,0))) (hne:B3≠B4)
  (h:Sl w .u8 ao len cap (ints l)) (h256:∀ x∈l,x<256) (hm:len≤140737488355328) (hn0 : -9223372036854775808≤n) (hn1:n<9223372036854775808) :
  Calls Tryz.prog 216 #[.pointer (some ⟨B1,0,none⟩),.pointer (some ⟨B2,0,none⟩),.pointer (some ⟨B3,0,none⟩),.pointer (some ⟨B4,0,none⟩)] w fun e w' =>
   ((E.xE n l=0∧e=.returned (.tuple #[]))∨(E.xE n l≠0∧e=pan ((E.xE n l:Nat):Int)))∧(∃ v1 v2,w'.heap[B3]?=some (.cells #[v1] 9 (0,0))∧w'.heap[B4]?=some (.cells #[v2] 22 (0,0))∧TextAns n l w.heap.size w' v1 v2)∧Kept (fun k=>k=B3∨k=B4∨w.heap.size≤k) w w':=by
 obtain⟨c1,f1⟩:=cell_of_heap h1
 obtain⟨c2,f2⟩:=cell_of_heap h2
 have H3:=hide h3
 have H4:=hide h4
 have HN:=hide hne
 have b3:=lt_of_block h3
 have b4:=lt_of_block h4
 clear h1 h2 h3 h4
 go_enter Tryz.func216,Tryz.ntmps216
 go_wp2_with fail
 refine (totext_in _ _ _ l _ _ h h256 hm hn0 hn1).mono ?_
 rintro e w1 ⟨⟨hg,a2,c2,rfl,hs2⟩|⟨hg,rfl⟩,hbel⟩
 ·have g3:w1.heap[B3]?=some (.cells #[.string ⟨#[]⟩] 9 (0,0)):=by rw[hbel.block _ b3];exact H3.out
  have g4:w1.heap[B4]?=some (.cells #[.slice none 0 0] 22 (0,0)):=by rw[hbel.block _ b4];exact H4.out
  obtain⟨c3,f3⟩:=cell_of_heap g3
  obtain⟨c4,f4⟩:=cell_of_heap g4
  have c4':∀ u,(w1.setCell ⟨B3,0,none⟩ u).cell? ⟨B4,0,none⟩=some (.slice none 0 0):=fun u=>by
   rw[World.cell?_setCell_other _ _ _ _ (by intro e;injection e with e;exact hne e)];exact c4
  have G3:=hide g3
  have G4:=hide g4
  have HG:=hide hg
  have HB:=hide hbel
  have HS2:=hide hs2
  clear hs2
  clear g3 g4 hg hbel
  go_wp2
  go_end0
  have g4':∀ u,(w1.setCell ⟨B3,0,none⟩ u).heap[B4]?=some (.cells #[.slice none 0 0] 22 (0,0)):=fun u=>by rw[Below.heap_setCell _ _ _ _ (show B4≠B3 from fun e=>HN.out e.symm)];exact G4.out
  have g3':∀ u v,((w1.setCell ⟨B3,0,none⟩ u).setCell ⟨B4,0,none⟩ v).heap[B3]?=some (.cells #[u] 9 (0,0)):=fun u v=>by
   rw[Below.heap_setCell _ _ _ _ (show B3≠B4 from HN.out)];exact heap_setCell_one G3.out _
  refine⟨.inl ⟨HG.out,rfl⟩,⟨_,_,g3' _ _,heap_setCell_one (g4' _) _,?_⟩,Kept.setCell (Kept.setCell (Kept.mono (Kept.of_below HB.out (fun _=>False)) (fun _ hx=>hx.elim)) (.inl (.inl rfl)) _) (.inl (.inr (.inl rfl))) _⟩
  exact TextAns.good HG.out ((HS2.out.set G3.out (by simp) _).set (g4' _) (by simp) _)
 ·have g3:w1.heap[B3]?=some (.cells #[.string ⟨#[]⟩] 9 (0,0)):=by rw[hbel.block _ b3];exact H3.out
  have g4:w1.heap[B4]?=some (.cells #[.slice none 0 0] 22 (0,0)):=by rw[hbel.block _ b4];exact H4.out
  have G3:=hide g3
  have G4:=hide g4
  have HG:=hide hg
  have HB:=hide hbel
  clear hg g3 g4 hbel
  unfold pan
  go_wp2
  exact⟨rfl,.inr ⟨HG.out,rfl⟩,⟨_,_,G3.out,G4.out,TextAns.bad HG.out⟩,Kept.of_below HB.out _⟩
theorem Tryz.enterToTextC (args:Array Value) (w:World):(callFunc 216 args).run Tryz.prog w=.ok (.enter 216 args) w :=
 enter_fn Tryz.func216 (by decide +kernel) rfl args w
set_option maxHeartbeats 1000000 in
theorem totext_any (ao:Option Addr) (len cap:Nat) (l:List Nat) (n:Int) (w:World) (h:Sl w .u8 ao len cap (ints l)) (h256:∀ x∈l,x<256) (hm:len≤140737488355328) (hn0 : -9223372036854775808≤n) (hn1:n<9223372036854775808) :
  Calls Tryz.prog 175 #[.slice ao len cap,.int .i64 n] w fun e w'=>∃ v1 v2,e=.returned (.tuple #[v1,v2,.int .i64 ((E.xE n l:Nat):Int)])∧TextAns n l w.heap.size w' v1 v2∧Below w.heap.size w w':=by
 have hmf:∀ (fn:Fn) (first cap:Array Value) (w:World),(Instr.makeFunc fn first cap).run Tryz.prog w=.ok (.func fn first cap) w:=fun _ _ _ _=>rfl
 go_enter Tryz.func175,Tryz.ntmps175
 go_wp2_with fail
 refine (caught_any 216 _ _ (fun er w1=>er=((E.xE n l:Nat):Int)∧(∃ v1 v2,w1.heap[w.heap.size+1+1]?=some (.cells #[v1] 9 (0,0))∧w1.heap[w.heap.size+1+1+1]?=some (.cells #[v2] 22 (0,0))∧w1.heap[w.heap.size+1+1+1+1]?=some (.cells #[.int .i64 0] 31 (0,0))∧TextAns n l (w.heap.size+1+1+1+1+1) w1 v1 v2)∧Below w.heap.size w w1) (Tryz.enterToTextC _) ?h).mono ?_
 case h =>
  have b1:=heap_alloc_new w (.cells #[.slice ao len cap] 22)
  have b2:=heap_alloc_new (w.alloc (.cells #[.slice ao len cap] 22)) (.cells #[.int .i64 n] 3)
  have b3:=heap_alloc_new ((w.alloc (.cells #[.slice ao len cap] 22)).alloc (.cells #[.int .i64 n] 3)) (.cells #[.string ⟨#[]⟩] 9)
  have b4:=heap_alloc_new (((w.alloc (.cells #[.slice ao len cap] 22)).alloc (.cells #[.int .i64 n] 3)).alloc (.cells #[.string ⟨#[]⟩] 9)) (.cells #[.slice none 0 0] 22)
  have b5:=heap_alloc_new ((((w.alloc (.cells #[.slice ao len cap] 22)).alloc (.cells #[.int .i64 n] 3)).alloc (.cells #[.string ⟨#[]⟩] 9)).alloc (.cells #[.slice none 0 0] 22)) (.cells #[.int .i64 0] 31)
  have hbel:Below w.heap.size w (((((w.alloc (.cells #[.slice ao len cap] 22)).alloc (.cells #[.int .i64 n] 3)).alloc (.cells #[.string ⟨#[]⟩] 9)).alloc (.cells #[.slice none 0 0] 22)).alloc (.cells #[.int .i64 0] 31)) :=
   (((((Below.refl _ _).alloc (Nat.le_refl _) _).alloc (by simp) _).alloc (by simp;omega) _).alloc (by simp;omega) _).alloc (by simp;omega) _
  simp only[World.size_alloc] at b2 b3 b4 b5
  refine (totextc_any _ _ _ _ ao len cap l n _ (heap_alloc_keep _ (heap_alloc_keep _ (heap_alloc_keep _ (heap_alloc_keep _ b1)))) (heap_alloc_keep _ (heap_alloc_keep _ (heap_alloc_keep _ b2))) (heap_alloc_keep _ (heap_alloc_keep _ b3)) (heap_alloc_keep _ b4) (by omega) (h.below hbel) h256 hm hn0 hn1).mono ?_
  rintro e w1 ⟨he,⟨v1,v2,e1,e2,e3⟩,hk⟩
  have g5:w1.heap[w.heap.size+1+1+1+1]?=some (.cells #[.int .i64 0] 31 (0,0)):=by
   rw[hk.block _ (by simp) (by simp;omega)]
   exact b5
  refine⟨((E.xE n l:Nat):Int),?_,by simp only[World.size_alloc];exact g5,rfl,⟨v1,v2,e1,e2,g5,e3.base (by simp only[World.size_alloc];omega)⟩,hbel.trans (hk.below (by simp;omega) (by intro k hk;simp at hk;omega))⟩
  rcases he with ⟨h0,he⟩|⟨h0,he⟩
  ·exact .inl ⟨by rw[h0];rfl,he⟩
  ·exact .inr ⟨by omega,he⟩
 rintro e w2 ⟨er,w1,⟨her,⟨v1,v2,hb1,hb2,hb5,hans⟩,hbel⟩,rfl,rfl⟩
 simp only[World.size_alloc]
 have s2:(w1.setCell ⟨w.heap.size+1+1+1+1,0,none⟩ (.int .i64 er)).heap[w.heap.size+1+1]?=some (.cells #[v1] 9 (0,0)):=by rw[Below.heap_setCell _ _ _ _ (by show _≠w.heap.size+1+1+1+1;omega)];exact hb1
 have s3:(w1.setCell ⟨w.heap.size+1+1+1+1,0,none⟩ (.int .i64 er)).heap[w.heap.size+1+1+1]?=some (.cells #[v2] 22 (0,0)):=by rw[Below.heap_setCell _ _ _ _ (by show _≠w.heap.size+1+1+1+1;omega)];exact hb2
 have hans2:=hans.keptE hb5 (by omega) (.int .i64 er)
 have hbel2:=hbel.setCell (p:=⟨w.heap.size+1+1+1+1,0,none⟩) (by show w.heap.size≤w.heap.size+1+1+1+1;omega) (.int .i64 er)
 have HB:=hide hbel2
 have HE:=hide her
 obtain⟨w3,hw3⟩:∃ w3,w1.setCell ⟨w.heap.size+1+1+1+1,0,none⟩ (.int .i64 er)=w3:=⟨_,rfl⟩
 rw[hw3] at s2 s3 HB hans2 ⊢
 obtain⟨c2,f2⟩:=cell_of_heap s2
 obtain⟨c3,f3⟩:=cell_of_heap s3
 have c3':∀ u,(w3.setCell ⟨w.heap.size+1+1,0,none⟩ u).cell? ⟨w.heap.size+1+1+1,0,none⟩=some v2:=fun u=>by
  rw[World.cell?_setCell_other _ _ _ _ (by intro e;injection e with e;omega)];exact c3
 have f3':∀ u,(w3.setCell ⟨w.heap.size+1+1,0,none⟩ u).frozen? ⟨w.heap.size+1+1+1,0,none⟩=false:=fun u=>by
  rw[World.frozen?_setCell];exact f3
 have HA:=hide hans2
 have S2:=hide s2
 have S3:=hide s3
 obtain⟨x1,a2,l2,cc2,hv1,hv2⟩:=hans.shape
 subst hv1 hv2
 clear hbel2 hbel hb1 hb2 hb5 her hw3 s2 s3 h h256 hans hans2
 go_wp2
 go_region
 go_wp2
 have c2':∀ u v,((w3.setCell ⟨w.heap.size+1+1,0,none⟩ u).setCell ⟨w.heap.size+1+1+1,0,none⟩ v).cell? ⟨w.heap.size+1+1,0,none⟩=some u:=fun u v=>by
  rw[World.cell?_setCell_other _ _ _ _ (by intro e;injection e with e;omega)];simp[World.cell?_setCell_same,c2]
 have c4':∀ u v,((w3.setCell ⟨w.heap.size+1+1,0,none⟩ u).setCell ⟨w.heap.size+1+1+1,0,none⟩ v).cell? ⟨w.heap.size+1+1+1,0,none⟩=some v:=fun u v=>by
  simp[World.cell?_setCell_same,c3']
 refine bodyPost_ret (v:=.tuple #[.string x1,.slice a2 l2 cc2,.int .i64 er]) (by simp[results,Tryz.results175,go_sem,c2',c4']) rfl ⟨_,_,by rw[HE.out],?_,?_⟩
 ·exact (HA.out.keptS S2.out S3.out (by omega)).base (by omega)
 ·exact (((HB.out.setCell (p:=⟨w.heap.size+1+1,0,none⟩) (by show w.heap.size≤w.heap.size+1+1;omega) _).setCell (p:=⟨w.heap.size+1+1+1,0,none⟩) (by show w.heap.size≤w.heap.size+1+1+1;omega) _)).drew
set_option maxHeartbeats 400000 in
theorem tointsc_any (B1 B2 B3 B4:Nat) (ao:Option Addr) (len cap:Nat) (l:List Nat) (n:Int) (w:World) (h1:w.heap[B1]?=some (.cells #[.slice ao len cap] 22 (0,0))) (h2:w.heap[B2]?=some (.cells #[.int .i64 n] 3 (0,0))) (h3:w.heap[B3]?=some (.cells #[.slice none 0 0] 204 (0,0))) (h4:w.heap[B4]?=some (.cells #[.slice none 0 0] 22 (0,0))) (hne:B3≠B4)
  (h:Sl w .u8 ao len cap (ints l)) (h256:∀ x∈l,x<256) (hm:len≤140737488355328∧(len≤1099511627776∨n≤1099511627776)) (hn0 : -9223372036854775808≤n) (hn1:n<9223372036854775808) :
  Calls Tryz.prog 214 #[.pointer (some ⟨B1,0,none⟩),.pointer (some ⟨B2,0,none⟩),.pointer (some ⟨B3,0,none⟩),.pointer (some ⟨B4,0,none⟩)] w fun e w' =>
   ((E.iE n l=0∧e=.returned (.tuple #[]))∨(E.iE n l≠0∧e=pan ((E.iE n l:Nat):Int)))∧(∃ v1 v2,w'.heap[B3]?=some (.cells #[v1] 204 (0,0))∧w'.heap[B4]?=some (.cells #[v2] 22 (0,0))∧IntsAns n l w.heap.size w' v1 v2)∧Kept (fun k=>k=B3∨k=B4∨w.heap.size≤k) w w':=by
 obtain⟨c1,f1⟩:=cell_of_heap h1
 obtain⟨c2,f2⟩:=cell_of_heap h2
 have H3:=hide h3
 have H4:=hide h4
 have HN:=hide hne
 have b3:=lt_of_block h3
 have b4:=lt_of_block h4
 clear h1 h2 h3 h4
 go_enter Tryz.func214,Tryz.ntmps214
 go_wp2_with fail
 refine (toints_inN _ _ _ l _ _ h h256 hm hn1).mono ?_
 rintro e w1 ⟨⟨hg,a1,c1,a2,c2,rfl,hs1,hs2,hx⟩|⟨hg,rfl⟩,hbel⟩
 ·have g3:w1.heap[B3]?=some (.cells #[.slice none 0 0] 204 (0,0)):=by rw[hbel.block _ b3];exact H3.out
  have g4:w1.heap[B4]?=some (.cells #[.slice none 0 0] 22 (0,0)):=by rw[hbel.block _ b4];exact H4.out
  obtain⟨c3,f3⟩:=cell_of_heap g3
  obtain⟨c4,f4⟩:=cell_of_heap g4
  have c4':∀ u,(w1.setCell ⟨B3,0,none⟩ u).cell? ⟨B4,0,none⟩=some (.slice none 0 0):=fun u=>by
   rw[World.cell?_setCell_other _ _ _ _ (by intro e;injection e with e;exact hne e)];exact c4
  have G3:=hide g3
  have G4:=hide g4
  have HG:=hide hg
  have HB:=hide hbel
  have HS1:=hide hs1
  have HS2:=hide hs2
  have HX:=hide hx
  clear hs1 hs2 hx
  clear g3 g4 hg hbel
  go_wp2
  go_end0
  have g4':∀ u,(w1.setCell ⟨B3,0,none⟩ u).heap[B4]?=some (.cells #[.slice none 0 0] 22 (0,0)):=fun u=>by rw[Below.heap_setCell _ _ _ _ (show B4≠B3 from fun e=>HN.out e.symm)];exact G4.out
  have g3':∀ u v,((w1.setCell ⟨B3,0,none⟩ u).setCell ⟨B4,0,none⟩ v).heap[B3]?=some (.cells #[u] 204 (0,0)):=fun u v=>by
   rw[Below.heap_setCell _ _ _ _ (show B3≠B4 from HN.out)];exact heap_setCell_one G3.out _
  refine⟨.inl ⟨HG.out,rfl⟩,⟨_,_,g3' _ _,heap_setCell_one (g4' _) _,?_⟩,Kept.setCell (Kept.setCell (Kept.mono (Kept.of_below HB.out (fun _=>False)) (fun _ hx=>hx.elim)) (.inl (.inl rfl)) _) (.inl (.inr (.inl rfl))) _⟩
  exact IntsAns.good HG.out ((HS1.out.set G3.out (by simp) _).set (g4' _) (by simp) _) HX.out ((HS2.out.set G3.out (by simp) _).set (g4' _) (by simp) _)
 ·have g3:w1.heap[B3]?=some (.cells #[.slice none 0 0] 204 (0,0)):=by rw[hbel.block _ b3];exact H3.out
  have g4:w1.heap[B4]?=some (.cells #[.slice none 0 0] 22 (0,0)):=by rw[hbel.block _ b4];exact H4.out
  have G3:=hide g3
  have G4:=hide g4
  have HG:=hide hg
  have HB:=hide hbel
  clear hg g3 g4 hbel
  unfold pan
  go_wp2
  exact⟨rfl,.inr ⟨HG.out,rfl⟩,⟨_,_,G3.out,G4.out,IntsAns.bad HG.out⟩,Kept.of_below HB.out _⟩
theorem Tryz.enterToIntsC (args:Array Value) (w:World):(callFunc 214 args).run Tryz.prog w=.ok (.enter 214 args) w :=
 enter_fn Tryz.func214 (by decide +kernel) rfl args w
set_option maxHeartbeats 1000000 in
theorem toints_anyN (ao:Option Addr) (len cap:Nat) (l:List Nat) (n:Int) (w:World) (h:Sl w .u8 ao len cap (ints l)) (h256:∀ x∈l,x<256) (hm:len≤140737488355328∧(len≤1099511627776∨n≤1099511627776)) (hn0 : -9223372036854775808≤n) (hn1:n<9223372036854775808) :
  Calls Tryz.prog 173 #[.slice ao len cap,.int .i64 n] w fun e w'=>∃ v1 v2,e=.returned (.tuple #[v1,v2,.int .i64 ((E.iE n l:Nat):Int)])∧IntsAns n l w.heap.size w' v1 v2∧Below w.heap.size w w':=by
 have hmf:∀ (fn:Fn) (first cap:Array Value) (w:World),(Instr.makeFunc fn first cap).run Tryz.prog w=.ok (.func fn first cap) w:=fun _ _ _ _=>rfl
 go_enter Tryz.func173,Tryz.ntmps173
 go_wp2_with fail
 refine (caught_any 214 _ _ (fun er w1=>er=((E.iE n l:Nat):Int)∧(∃ v1 v2,w1.heap[w.heap.size+1+1]?=some (.cells #[v1] 204 (0,0))∧w1.heap[w.heap.size+1+1+1]?=some (.cells #[v2] 22 (0,0))∧w1.heap[w.heap.size+1+1+1+1]?=some (.cells #[.int .i64 0] 31 (0,0))∧IntsAns n l (w.heap.size+1+1+1+1+1) w1 v1 v2)∧Below w.heap.size w w1) (Tryz.enterToIntsC _) ?h).mono ?_
 case h =>
  have b1:=heap_alloc_new w (.cells #[.slice ao len cap] 22)
  have b2:=heap_alloc_new (w.alloc (.cells #[.slice ao len cap] 22)) (.cells #[.int .i64 n] 3)
  have b3:=heap_alloc_new ((w.alloc (.cells #[.slice ao len cap] 22)).alloc (.cells #[.int .i64 n] 3)) (.cells #[.slice none 0 0] 204)
  have b4:=heap_alloc_new (((w.alloc (.cells #[.slice ao len cap] 22)).alloc (.cells #[.int .i64 n] 3)).alloc (.cells #[.slice none 0 0] 204)) (.cells #[.slice none 0 0] 22)
  have b5:=heap_alloc_new ((((w.alloc (.cells #[.slice ao len cap] 22)).alloc (.cells #[.int .i64 n] 3)).alloc (.cells #[.slice none 0 0] 204)).alloc (.cells #[.slice none 0 0] 22)) (.cells #[.int .i64 0] 31)
  have hbel:Below w.heap.size w (((((w.alloc (.cells #[.slice ao len cap] 22)).alloc (.cells #[.int .i64 n] 3)).alloc (.cells #[.slice none 0 0] 204)).alloc (.cells #[.slice none 0 0] 22)).alloc (.cells #[.int .i64 0] 31)) :=
   (((((Below.refl _ _).alloc (Nat.le_refl _) _).alloc (by simp) _).alloc (by simp;omega) _).alloc (by simp;omega) _).alloc (by simp;omega) _
  simp only[World.size_alloc] at b2 b3 b4 b5
  refine (tointsc_any _ _ _ _ ao len cap l n _ (heap_alloc_keep _ (heap_alloc_keep _ (heap_alloc_keep _ (heap_alloc_keep _ b1)))) (heap_alloc_keep _ (heap_alloc_keep _ (heap_alloc_keep _ b2))) (heap_alloc_keep _ (heap_alloc_keep _ b3)) (heap_alloc_keep _ b4) (by omega) (h.below hbel) h256 hm hn0 hn1).mono ?_
  rintro e w1 ⟨he,⟨v1,v2,e1,e2,e3⟩,hk⟩
  have g5:w1.heap[w.heap.size+1+1+1+1]?=some (.cells #[.int .i64 0] 31 (0,0)):=by
   rw[hk.block _ (by simp) (by simp;omega)]
   exact b5
  refine⟨((E.iE n l:Nat):Int),?_,by simp only[World.size_alloc];exact g5,rfl,⟨v1,v2,e1,e2,g5,e3.base (by simp only[World.size_alloc];omega)⟩,hbel.trans (hk.below (by simp;omega) (by intro k hk;simp at hk;omega))⟩
  rcases he with ⟨h0,he⟩|⟨h0,he⟩
  ·exact .inl ⟨by rw[h0];rfl,he⟩
  ·exact .inr ⟨by omega,he⟩
 rintro e w2 ⟨er,w1,⟨her,⟨v1,v2,hb1,hb2,hb5,hans⟩,hbel⟩,rfl,rfl⟩
 simp only[World.size_alloc]
 have s2:(w1.setCell ⟨w.heap.size+1+1+1+1,0,none⟩ (.int .i64 er)).heap[w.heap.size+1+1]?=some (.cells #[v1] 204 (0,0)):=by rw[Below.heap_setCell _ _ _ _ (by show _≠w.heap.size+1+1+1+1;omega)];exact hb1
 have s3:(w1.setCell ⟨w.heap.size+1+1+1+1,0,none⟩ (.int .i64 er)).heap[w.heap.size+1+1+1]?=some (.cells #[v2] 22 (0,0)):=by rw[Below.heap_setCell _ _ _ _ (by show _≠w.heap.size+1+1+1+1;omega)];exact hb2
 have hans2:=hans.keptE hb5 (by omega) (.int .i64 er)
 have hbel2:=hbel.setCell (p:=⟨w.heap.size+1+1+1+1,0,none⟩) (by show w.heap.size≤w.heap.size+1+1+1+1;omega) (.int .i64 er)
 have HB:=hide hbel2
 have HE:=hide her
 obtain⟨w3,hw3⟩:∃ w3,w1.setCell ⟨w.heap.size+1+1+1+1,0,none⟩ (.int .i64 er)=w3:=⟨_,rfl⟩
 rw[hw3] at s2 s3 HB hans2 ⊢
 obtain⟨c2,f2⟩:=cell_of_heap s2
 obtain⟨c3,f3⟩:=cell_of_heap s3
 have c3':∀ u,(w3.setCell ⟨w.heap.size+1+1,0,none⟩ u).cell? ⟨w.heap.size+1+1+1,0,none⟩=some v2:=fun u=>by
  rw[World.cell?_setCell_other _ _ _ _ (by intro e;injection e with e;omega)];exact c3
 have f3':∀ u,(w3.setCell ⟨w.heap.size+1+1,0,none⟩ u).frozen? ⟨w.heap.size+1+1+1,0,none⟩=false:=fun u=>by
  rw[World.frozen?_setCell];exact f3
 have HA:=hide hans2
 have S2:=hide s2
 have S3:=hide s3
 obtain⟨a1,l1,cc1,a2,l2,cc2,hv1,hv2⟩:=hans.shape
 subst hv1 hv2
 clear hbel2 hbel hb1 hb2 hb5 her hw3 s2 s3 h h256 hans hans2
 go_wp2
 go_region
 go_wp2
 have c2':∀ u v,((w3.setCell ⟨w.heap.size+1+1,0,none⟩ u).setCell ⟨w.heap.size+1+1+1,0,none⟩ v).cell? ⟨w.heap.size+1+1,0,none⟩=some u:=fun u v=>by
  rw[World.cell?_setCell_other _ _ _ _ (by intro e;injection e with e;omega)];simp[World.cell?_setCell_same,c2]
 have c4':∀ u v,((w3.setCell ⟨w.heap.size+1+1,0,none⟩ u).setCell ⟨w.heap.size+1+1+1,0,none⟩ v).cell? ⟨w.heap.size+1+1+1,0,none⟩=some v:=fun u v=>by
  simp[World.cell?_setCell_same,c3']
 refine bodyPost_ret (v:=.tuple #[.slice a1 l1 cc1,.slice a2 l2 cc2,.int .i64 er]) (by simp[results,Tryz.results173,go_sem,c2',c4']) rfl ⟨_,_,by rw[HE.out],?_,?_⟩
 ·exact (HA.out.keptS S2.out S3.out (by omega)).base (by omega)
 ·exact (((HB.out.setCell (p:=⟨w.heap.size+1+1,0,none⟩) (by show w.heap.size≤w.heap.size+1+1;omega) _).setCell (p:=⟨w.heap.size+1+1+1,0,none⟩) (by show w.heap.size≤w.heap.size+1+1+1;omega) _)).drew
def sb (s:ByteArray):List Nat:=s.data.toList.map UInt8.toNat
theorem sb_length (s:ByteArray):(sb s).length=s.size:=by simp[sb]
theorem sb_lt (s:ByteArray):∀ x∈sb s,x<256:=by
 intro x hx
 obtain⟨y,_,rfl⟩:=List.mem_map.1 hx
 exact y.toNat_lt
theorem strCells_sb (s:ByteArray):Lib.strCells s=B8 (sb s):=by
 simp[Lib.strCells,B8,sb]
theorem text_any (s:ByteArray) (w:World) (hs:s.size+10≤140737488355328) :
  Calls Tryz.prog 74 #[.string s] w fun e w'=>∃ v,e=.returned v∧w'.ownsRow w.heap.size 5 1 v (E.leb s.size++sb s).length (B8 (E.leb s.size++sb s))∧Below w.heap.size w w':=by
 obtain⟨i0,hi,hz0,hz1,hz2⟩:=info_parts Tryz.infoU8
 have hl:=E.leb_ten s.size (by omega)
 go_enter Tryz.func74,Tryz.ntmps74
 go_wp2_with fail
 refine (put_any _ w (by omega) (by omega)).mono ?_
 rintro e w1 ⟨v1,rfl,ho1,hb1⟩
 rw[Int.toNat_natCast] at ho1
 go_wp2_with (at_builtin;refine Lib.wpList_append_own_string w1 rfl _ _ 22 9 rfl w.heap.size 5 i0 Tryz.underlying22 Tryz.underlying9 hi hz0 hz1 hz2 _ _ _ rfl ho1 s rfl ?c1 ?c2 ?c3 ?_)
 case c1=>unfold maxLen;omega
 case c2=>omega
 case c3=>exact hb1.size
 intro v2 w2 ho2 hg2 _
 go_wp2
 go_ret
 refine⟨v2,rfl,?_,hb1.trans ?_⟩
 ·rw[B8_append,List.length_append,sb_length,← strCells_sb];exact ho2
 ·exact (((Kept.refl (fun k=>w.heap.size≤k) w1).grown hg2 (fun k hk=>.inl (owns_lt ho1 hk).1))).below hb1.size (fun k hk=>hk)
def Z.k8 (n:Nat):List Nat:=[n / 72057594037927936,n / 281474976710656%256,n / 1099511627776%256,n / 4294967296%256,n / 16777216%256,n / 65536%256,n / 256%256,n%256]
def Z.o8 (l:List Nat):Nat:=(((((((l.getD 0 0*256+l.getD 1 0)*256+l.getD 2 0)*256+l.getD 3 0)*256+l.getD 4 0)*256+l.getD 5 0)*256+l.getD 6 0)*256+l.getD 7 0)
theorem Z.k8_length (n:Nat):(Z.k8 n).length=8:=rfl
theorem Z.k8_lt {n:Nat} (h:n<18446744073709551616):∀ x∈Z.k8 n,x<256:=by
 intro x hx
 simp[Z.k8] at hx
 omega
theorem Z.o8_k8 (n:Nat) (more:List Nat):Z.o8 (Z.k8 n++more)=n:=by
 simp only[Z.o8,Z.k8,List.cons_append,List.getD_cons_zero,List.getD_cons_succ];omega
theorem Z.o8_lt {l:List Nat} (h:∀ x∈l,x<256):Z.o8 l<18446744073709551616:=by
 have h0:=E.getD_lt h 0;have h1:=E.getD_lt h 1;have h2:=E.getD_lt h 2;have h3:=E.getD_lt h 3
 have h4:=E.getD_lt h 4;have h5:=E.getD_lt h 5;have h6:=E.getD_lt h 6;have h7:=E.getD_lt h 7
 unfold Z.o8;omega
theorem Z.k8_o8 {l:List Nat} (h:∀ x∈l,x<256) (h8:8≤l.length):Z.k8 (Z.o8 l)++l.drop 8=l:=by
 have h0:=E.getD_lt h 0;have h1:=E.getD_lt h 1;have h2:=E.getD_lt h 2;have h3:=E.getD_lt h 3
 have h4:=E.getD_lt h 4;have h5:=E.getD_lt h 5;have h6:=E.getD_lt h 6;have h7:=E.getD_lt h 7
 match l,h8 with
 | a :: b :: c :: d :: e :: f :: g :: i :: r,_ =>
  simp only[List.getD_cons_zero,List.getD_cons_succ] at h0 h1 h2 h3 h4 h5 h6 h7
  have ev:Z.o8 (a :: b :: c :: d :: e :: f :: g :: i :: r)=(((((((a*256+b)*256+c)*256+d)*256+e)*256+f)*256+g)*256+i):=by
   simp only[Z.o8,List.getD_cons_zero,List.getD_cons_succ]
  rw[ev]
  simp only[Z.k8,List.cons_append,List.nil_append,List.drop_succ_cons,List.drop_zero,List.cons.injEq,and_true]
  omega
theorem made_eight:madeCells (Value.int .u8 0).cells 8=#[.int .u8 0,.int .u8 0,.int .u8 0,.int .u8 0,.int .u8 0,.int .u8 0,.int .u8 0,.int .u8 0]:=by
 apply Array.ext'
 simp[madeCells,Value.cells,List.range_succ]
theorem make_eight (w:World):(Instr.makeSlice 22 (.int .i64 8) (.int .i64 8)).run Tryz.prog w=.ok (.slice (some ⟨w.heap.size,0,none⟩) 8 8) (w.alloc (.cells #[.int .u8 0,.int .u8 0,.int .u8 0,.int .u8 0,.int .u8 0,.int .u8 0,.int .u8 0,.int .u8 0] 5)):=by
 obtain⟨i0,hi,hz0,hz1,hz2⟩:=info_parts Tryz.infoU8
 have h:=run_make (P:=Tryz.prog) w 22 5 i0 (.int .u8 0) Tryz.underlying22 hi hz0 .i64 .i64 8 8 (by omega) (Int.le_refl _) (by rw[hz2];omega) (by omega)
 rw[hz1,Nat.mul_one] at h
 rw[h]
 show Result.ok _ (w.alloc (.cells (madeCells (Value.int .u8 0).cells 8) 5))=_
 rw[made_eight];rfl
theorem Sl.eight (w:World) (t:TypeId) (b0 b1 b2 b3 b4 b5 b6 b7:Int):Sl (w.alloc (.cells #[.int .u8 b0,.int .u8 b1,.int .u8 b2,.int .u8 b3,.int .u8 b4,.int .u8 b5,.int .u8 b6,.int .u8 b7] t)) .u8 (some ⟨w.heap.size,0,none⟩) 8 8 [b0,b1,b2,b3,b4,b5,b6,b7]:=by
 refine⟨rfl,Nat.le_refl _,by decide,by simp,.inr ⟨_,_,rfl,by simp,?_⟩⟩
 intro i hi
 match i,hi with
 | 0,_=>simp
 | 1,_=>simp
 | 2,_=>simp
 | 3,_=>simp
 | 4,_=>simp
 | 5,_=>simp
 | 6,_=>simp
 | 7,_=>simp
set_option maxHeartbeats 1000000 in
theorem keybytes_any (n:Int) (w:World) (h0:0≤n) (h1:n<18446744073709551616) :
  Calls Tryz.prog 72 #[.int .u64 n] w fun e w'=>e=.returned (.slice (some ⟨w.heap.size,0,none⟩) 8 8)∧Sl w' .u8 (some ⟨w.heap.size,0,none⟩) 8 8 (ints (Z.k8 n.toNat))∧Below w.heap.size w w':=by
 have hmk:=make_eight
 go_enter Tryz.func72,Tryz.ntmps72
 go_wp2_with fail
 go_rounds 9
 go_ret
 refine⟨rfl,?_,below_one _ _⟩
 have h:=Sl.eight w 5 (n / 72057594037927936) (n / 281474976710656%256) (n / 1099511627776%256) (n / 4294967296%256) (n / 16777216%256) (n / 65536%256) (n / 256%256) (n%256)
 have e:ints (Z.k8 n.toNat)=[n / 72057594037927936,n / 281474976710656%256,n / 1099511627776%256,n / 4294967296%256,n / 16777216%256,n / 65536%256,n / 256%256,n%256]:=by
  simp only[ints,Z.k8,List.map_cons,List.map_nil,List.cons.injEq,and_true]
  omega
 rw[e];exact h
def Z.lb (x:Z.V):List Nat:=if x.k=1 then E.leb (E.zig x.i) else if x.k=2 then Z.k8 (D.ky (Z.u x.i)).toNat else if x.k=3 then E.leb x.s.size++sb x.s else []
def Z.bl (x:Z.V):List Nat:=if Z.may x then Z.lb x else []
def Z.be (x:Z.V):Int:=if Z.may x then 0 else 1
def BytesOf (x:Z.V) (w:World) (e:Ending) (w':World):Prop:=∃ a c,e=.returned (.tuple #[.slice a (Z.bl x).length c,.int .i64 (Z.be x)])∧Sl w' .u8 a (Z.bl x).length c (ints (Z.bl x))∧Below w.heap.size w w'
theorem BytesOf.no {x:Z.V} {w w':World} (h:Z.may x=false) (hb:Below w.heap.size w w'):BytesOf x w (.returned (.tuple #[.slice none 0 0,.int .i64 1])) w':=by
 have e1:Z.bl x=[]:=by unfold Z.bl;rw[h];rfl
 have e2:Z.be x=1:=by unfold Z.be;rw[h];rfl
 unfold BytesOf;rw[e1,e2]
 exact⟨none,0,rfl,Sl.nil _ _,hb⟩
theorem BytesOf.yes {x:Z.V} {w w':World} {l:List Nat} {a:Option Addr} {len c:Nat} (h:Z.may x=true) (hl:Z.lb x=l) (hn:l.length=len) (hs:Sl w' .u8 a len c (ints l)) (hb:Below w.heap.size w w'):BytesOf x w (.returned (.tuple #[.slice a len c,.int .i64 0])) w':=by
 have e1:Z.bl x=l:=by unfold Z.bl;rw[h];exact hl
 have e2:Z.be x=0:=by unfold Z.be;rw[h];rfl
 subst hn
 unfold BytesOf;rw[e1,e2]
 exact⟨a,c,rfl,hs,hb⟩
theorem lb_int {i:Int} {s:ByteArray}:Z.lb ⟨1,i,s⟩=E.leb (E.zig i):=by unfold Z.lb;simp
theorem lb_float {i:Int} {s:ByteArray}:Z.lb ⟨2,i,s⟩=Z.k8 (D.ky (Z.u i)).toNat:=by unfold Z.lb;simp
theorem lb_text {i:Int} {s:ByteArray}:Z.lb ⟨3,i,s⟩=E.leb s.size++sb s:=by unfold Z.lb;simp
theorem lb_else {k i:Int} {s:ByteArray} (h1:k≠1) (h2:k≠2) (h3:k≠3):Z.lb ⟨k,i,s⟩=[]:=by unfold Z.lb;simp[h1,h2,h3]
theorem may_size {i:Int} {s:ByteArray} (h:Z.may ⟨3,i,s⟩=true):s.size≤1024:=by
 rw[may_text] at h;simp at h;omega
set_option maxHeartbeats 1000000 in
theorem vbytes_any (k i:Int) (s:ByteArray) (w:World) (hi:Z.I64 i) :
  Calls Tryz.prog 30 #[.agg #[.int .i64 k,.int .i64 i,.string s]] w (BytesOf ⟨k,i,s⟩ w):=by
 have hA:=At.new w k i s
 have b0:=hide (below_one w (.cells #[.int .i64 k,.int .i64 i,.string s] 25))
 cases hm:Z.may ⟨k,i,s⟩ with
 | false =>
  have HM:=hide hm
  go_enter Tryz.func30,Tryz.ntmps30
  go_wp2_with fail
  refine (may_any _ _ _ _ hi).mono ?_
  rintro e w1 ⟨rfl,hb⟩
  rw[HM.out]
  replace b0:=hide (bthen b0.out hb)
  clear hb hA hm
  go_wp2
  go_ret2
  exact BytesOf.no HM.out b0.out
 | true =>
  have HM:=hide hm
  clear hm
  by_cases k1:k=1
  ·subst k1
   go_enter Tryz.func30,Tryz.ntmps30
   go_wp2_with fail
   refine (may_any _ _ _ _ hi).mono ?_
   rintro e w1 ⟨rfl,hb⟩
   rw[HM.out]
   replace b0:=hide (bthen b0.out hb)
   replace hA:=hA.below hb
   obtain⟨a1,a2,a3⟩:=hA.cells
   clear hb
   replace hA:=hide hA
   go_wp2_with fail
   refine (zig_any _ _ hi.1 hi.2).mono ?_
   rintro e w2 ⟨rfl,rfl⟩
   go_wp2_with fail
   refine (put_any _ _ (by omega) (by have:=E.zig_lt i hi.1 hi.2;omega)).mono ?_
   rintro e w3 ⟨v3,rfl,ho3,hb⟩
   rw[Int.toNat_natCast] at ho3
   obtain⟨q1,q2,rfl,hs,_⟩:=Sl.of_bytes ho3
   replace b0:=hide (bthen b0.out hb)
   replace hs:=hide hs
   clear hb ho3 a1 a2 a3 hA
   go_wp2
   go_ret2
   exact BytesOf.yes HM.out lb_int rfl hs.out b0.out
  ·by_cases k2:k=2
   ·subst k2
    have HU:Hid (IntKind.u64.wrap i=Z.u i):=u64_wrap i
    have HI:=Z.u_in i
    have HK:=D.ky_in HI
    go_enter Tryz.func30,Tryz.ntmps30
    go_wp2_with fail
    refine (may_any _ _ _ _ hi).mono ?_
    rintro e w1 ⟨rfl,hb⟩
    rw[HM.out]
    replace b0:=hide (bthen b0.out hb)
    replace hA:=hA.below hb
    obtain⟨a1,a2,a3⟩:=hA.cells
    clear hb
    replace hA:=hide hA
    go_wp2_with fail
    rw[HU.out]
    refine (key_any _ _ HI.1 HI.2).mono ?_
    rintro e w2 ⟨rfl,rfl⟩
    go_wp2_with fail
    refine (keybytes_any _ _ HK.1 HK.2).mono ?_
    rintro e w3 ⟨rfl,hs,hb⟩
    replace b0:=hide (bthen b0.out hb)
    replace hs:=hide hs
    clear hb a1 a2 a3 hA
    go_wp2
    go_ret2
    exact BytesOf.yes HM.out lb_float rfl hs.out b0.out
   ·by_cases k3:k=3
    ·subst k3
     have hsz:=may_size HM.out
     go_enter Tryz.func30,Tryz.ntmps30
     go_wp2_with fail
     refine (may_any _ _ _ _ hi).mono ?_
     rintro e w1 ⟨rfl,hb⟩
     rw[HM.out]
     replace b0:=hide (bthen b0.out hb)
     replace hA:=hA.below hb
     obtain⟨a1,a2,a3⟩:=hA.cells
     clear hb
     replace hA:=hide hA
     go_wp2_with fail
     refine (text_any _ _ (by omega)).mono ?_
     rintro e w3 ⟨v3,rfl,ho3,hb⟩
     obtain⟨q1,q2,rfl,hs,_⟩:=Sl.of_bytes ho3
     replace b0:=hide (bthen b0.out hb)
     replace hs:=hide hs
     clear hb ho3 a1 a2 a3 hA
     go_wp2
     go_ret2
     exact BytesOf.yes HM.out lb_text List.length_append (by rw[← List.length_append];exact hs.out) b0.out
    ·go_enter Tryz.func30,Tryz.ntmps30
     go_wp2_with fail
     refine (may_any _ _ _ _ hi).mono ?_
     rintro e w1 ⟨rfl,hb⟩
     rw[HM.out]
     replace b0:=hide (bthen b0.out hb)
     replace hA:=hA.below hb
     obtain⟨a1,a2,a3⟩:=hA.cells
     clear hb
     replace hA:=hide hA
     go_wp2
     go_ret2
     exact BytesOf.yes HM.out (lb_else k1 k2 k3) rfl (Sl.nil _ _) b0.out
def Z.oE (l:List Nat) (kind:Int):Nat:=if kind=0 then 0 else if kind=1 then E.gE l else if kind=2 then (if l.length<8 then 3 else if D.ky (D.bt ((Z.o8 l:Nat):Int))=((Z.o8 l:Nat):Int) then 0 else 4) else if kind=3 then E.xE 1024 l else 1
def Z.oW (l:List Nat) (kind:Int):Z.V:=if kind=1 then ⟨1,E.zag (E.gN l),⟨#[]⟩⟩ else if kind=2 then ⟨2,Z.sg (D.bt ((Z.o8 l:Nat):Int)),⟨#[]⟩⟩ else if kind=3 then ⟨3,0,strOfNums (ints (E.xS l))⟩ else ⟨0,0,⟨#[]⟩⟩
def Z.oS (l:List Nat) (kind:Int):List Nat:=if kind=1 then l.drop (E.gK l) else if kind=2 then l.drop 8 else if kind=3 then E.xR l else l
def Z.oV (l:List Nat) (kind:Int):Z.V:=if Z.oE l kind=0 then Z.oW l kind else ⟨0,0,⟨#[]⟩⟩
def Z.oR (l:List Nat) (kind:Int):List Nat:=if Z.oE l kind=0 then Z.oS l kind else []
theorem str_sb (s:ByteArray):strOfNums (ints (sb s))=s:=by
 cases s with
 | mk d =>
  simp only[strOfNums,ints,sb,List.map_map]
  congr 1
  have:(d.toList.map ((fun n:Int=>UInt8.ofNat n.toNat) ∘ (fun x:Nat=>(x:Int)) ∘ UInt8.toNat))=d.toList:=by
   conv=>rhs;rw[← List.map_id d.toList]
   apply List.map_congr_left
   intro x _
   simp
  rw[this]
theorem sb_str {l:List Nat} (h:∀ x∈l,x<256):sb (strOfNums (ints l))=l:=by
 simp only[strOfNums,ints,sb,List.map_map]
 conv=>rhs;rw[← List.map_id l]
 apply List.map_congr_left
 intro x hx
 have:=h x hx
 simp;omega
theorem may_kind {k i:Int} {s:ByteArray} (h:Z.may ⟨k,i,s⟩=true):k=0∨k=1∨k=2∨k=3:=by
 by_cases h0:k=0
 ·exact .inl h0
 ·by_cases h1:k=1
  ·exact .inr (.inl h1)
  ·by_cases h2:k=2
   ·exact .inr (.inr (.inl h2))
   ·by_cases h3:k=3
    ·exact .inr (.inr (.inr h3))
    ·rw[may_else h0 h1 h2 h3] at h;exact absurd h (by simp)
theorem isEmpty_eq {s:ByteArray} (h:s.toList.isEmpty=true):s=⟨#[]⟩:=by rw[empty_of] at h;exact of_decide_eq_true h
theorem ky_nat {i:Int}:(((D.ky (Z.u i)).toNat:Nat):Int)=D.ky (Z.u i):=Int.toNat_of_nonneg (D.ky_in (Z.u_in i)).1
theorem clean_of {i:Int} {s:ByteArray} (hi:Z.I64 i) (h:Z.may ⟨2,i,s⟩=true):D.cl (Z.u i)=Z.u i∧s=⟨#[]⟩:=by
 unfold Z.may at h
 simp at h
 exact⟨by rw[← Z.u_sg (D.cl_in (Z.u_in i)),h.1],h.2⟩
theorem back_one {k i:Int} {s:ByteArray} (hi:Z.I64 i) (h:Z.may ⟨k,i,s⟩=true) (more:List Nat) :
  Z.oE (Z.lb ⟨k,i,s⟩++more) k=0∧Z.oV (Z.lb ⟨k,i,s⟩++more) k=⟨k,i,s⟩∧Z.oR (Z.lb ⟨k,i,s⟩++more) k=more:=by
 rcases may_kind h with rfl|rfl|rfl|rfl
 ·have e:Z.oE (Z.lb ⟨0,i,s⟩++more) 0=0:=by unfold Z.oE;rw[if_pos rfl]
  have hl:Z.lb ⟨0,i,s⟩=[]:=lb_else (by decide) (by decide) (by decide)
  rw[may_null] at h
  refine⟨e,?_,?_⟩
  ·unfold Z.oV;rw[if_pos e];rw[(Z.same_iff _ _).1 h];rfl
  ·unfold Z.oR;rw[if_pos e,hl];rfl
 ·rw[may_int] at h
  obtain rfl:=isEmpty_eq h
  obtain⟨g1,g2,g3⟩:=E.g_put (E.zig i) (E.zig_lt i hi.1 hi.2) more
  rw[lb_int]
  have e:Z.oE (E.leb (E.zig i)++more) 1=0:=by unfold Z.oE;rw[if_neg (by decide),if_pos rfl,g1]
  refine⟨e,?_,?_⟩
  ·unfold Z.oV;rw[if_pos e];unfold Z.oW;rw[if_pos rfl,g3,E.zag_zig]
  ·unfold Z.oR;rw[if_pos e];unfold Z.oS;rw[if_pos rfl,g2,List.drop_left]
 ·obtain⟨hc,rfl⟩:=clean_of hi h
  rw[lb_float]
  have h8:Z.o8 (Z.k8 (D.ky (Z.u i)).toNat++more)=(D.ky (Z.u i)).toNat:=Z.o8_k8 _ _
  have hb:D.bt (D.ky (Z.u i))=Z.u i:=by rw[D.bt_ky (Z.u_in i),hc]
  have e:Z.oE (Z.k8 (D.ky (Z.u i)).toNat++more) 2=0:=by
   unfold Z.oE;rw[if_neg (by decide),if_neg (by decide),if_pos rfl,if_neg (by simp[Z.k8_length]),if_pos]
   rw[h8,ky_nat,hb]
  refine⟨e,?_,?_⟩
  ·unfold Z.oV;rw[if_pos e];unfold Z.oW;rw[if_neg (by decide),if_pos rfl,h8,ky_nat,hb,Z.sg_u hi]
  ·unfold Z.oR;rw[if_pos e];unfold Z.oS;rw[if_neg (by decide),if_pos rfl]
   exact List.drop_left' (Z.k8_length _)
 ·have hsz:=may_size h
  rw[may_text] at h
  obtain rfl:i=0:=by simp at h;exact h.1
  rw[lb_text]
  obtain⟨g1,g2,g3⟩:=E.g_put s.size (by omega) (sb s++more)
  rw[← List.append_assoc] at g1 g2 g3
  have e0:E.xE 1024 (E.leb s.size++sb s++more)=0:=E.xE_ok g1 (by omega) (by rw[g3];omega) (by rw[g2,g3];simp[sb_length])
  have e:Z.oE (E.leb s.size++sb s++more) 3=0:=by unfold Z.oE;rw[if_neg (by decide),if_neg (by decide),if_neg (by decide),if_pos rfl,e0]
  have ed:(E.leb s.size++sb s++more).drop (E.leb s.size).length=sb s++more:=by rw[List.append_assoc,List.drop_left]
  refine⟨e,?_,?_⟩
  ·unfold Z.oV;rw[if_pos e];unfold Z.oW;rw[if_neg (by decide),if_neg (by decide),if_pos rfl,E.xS,g2,g3,ed,List.take_left' (sb_length s),str_sb]
  ·unfold Z.oR;rw[if_pos e];unfold Z.oS;rw[if_neg (by decide),if_neg (by decide),if_pos rfl,E.xR,g2,g3,ed,List.drop_left' (sb_length s)]
theorem bt_clean (k:Int):D.cl (D.bt k)=D.bt k:=by unfold D.bt;rw[D.cl_cl]
theorem back_two {l:List Nat} (h256:∀ x∈l,x<256) {kind:Int} (h:Z.oE l kind=0):Z.may (Z.oV l kind)=true∧Z.lb (Z.oV l kind)++Z.oR l kind=l:=by
 have ev:Z.oV l kind=Z.oW l kind:=by unfold Z.oV;rw[if_pos h]
 have er:Z.oR l kind=Z.oS l kind:=by unfold Z.oR;rw[if_pos h]
 rw[ev,er]
 unfold Z.oE at h
 by_cases k0:kind=0
 ·subst k0
  exact⟨(by decide:Z.may ⟨0,0,⟨#[]⟩⟩=true),rfl⟩
 ·rw[if_neg k0] at h
  by_cases k1:kind=1
  ·subst k1
   rw[if_pos rfl] at h
   have ew:Z.oW l 1=⟨1,E.zag (E.gN l),⟨#[]⟩⟩:=by unfold Z.oW;rw[if_pos rfl]
   rw[ew,may_int,lb_int,E.zig_zag,E.g_ones h h256]
   refine⟨by rw[empty_of];decide,?_⟩
   unfold Z.oS;rw[if_pos rfl,List.take_append_drop]
  ·rw[if_neg k1] at h
   by_cases k2:kind=2
   ·subst k2
    rw[if_pos rfl] at h
    split at h
    ·exact absurd h (by decide)
    ·rename_i h8
     split at h
     ·rename_i hk
      have hin:D.In64 ((Z.o8 l:Nat):Int):=by have:=Z.o8_lt h256;exact⟨by omega,by omega⟩
      have hb:=D.bt_in hin
      have ew:Z.oW l 2=⟨2,Z.sg (D.bt ((Z.o8 l:Nat):Int)),⟨#[]⟩⟩:=by unfold Z.oW;rw[if_neg (by decide),if_pos rfl]
      rw[ew,lb_float,Z.u_sg hb,hk,Int.toNat_natCast]
      refine⟨?_,?_⟩
      ·unfold Z.may;simp[Z.u_sg hb,bt_clean]
      ·unfold Z.oS;rw[if_neg (by decide),if_pos rfl];exact Z.k8_o8 h256 (by omega)
     ·exact absurd h (by decide)
   ·rw[if_neg k2] at h
    by_cases k3:kind=3
    ·subst k3
     rw[if_pos rfl] at h
     have ew:Z.oW l 3=⟨3,0,strOfNums (ints (E.xS l))⟩:=by unfold Z.oW;rw[if_neg (by decide),if_neg (by decide),if_pos rfl]
     have hx:E.gE l=0∧E.gN l≤1024∧E.gN l≤l.length - E.gK l:=by
      unfold E.xE at h
      split at h
      ·exact absurd h (by assumption)
      ·rename_i hg
       split at h
       ·exact absurd h (by decide)
       ·split at h
        ·exact absurd h (by decide)
        ·refine⟨?_,by omega,by omega⟩
         rcases Nat.eq_zero_or_pos (E.gE l) with hz|hz
         ·exact hz
         ·exact absurd (by omega:E.gE l≠0) hg
     obtain⟨hg,hn,hn2⟩:=hx
     have hlen:(E.xS l).length=E.gN l:=by unfold E.xS;simp;omega
     have hs256:∀ x∈E.xS l,x<256:=fun x hx=>h256 x (List.mem_of_mem_drop (List.mem_of_mem_take hx))
     have hsz:(strOfNums (ints (E.xS l))).size=E.gN l:=by rw[← sb_length,sb_str hs256,hlen]
     rw[ew,may_text,lb_text,sb_str hs256,hsz,E.g_ones hg h256]
     refine⟨by simp;omega,?_⟩
     unfold Z.oS;rw[if_neg (by decide),if_neg (by decide),if_pos rfl]
     unfold E.xS E.xR
     rw[List.append_assoc,List.take_append_drop,List.take_append_drop]
    ·rw[if_neg k3] at h;exact absurd h (by decide)
end Go.Proofs.YtnkpgmibhpmdhaaGreat

/- Contracts and plain facts, one behind the other: TS T3 V12 V16 -/
import Derived.RangeFuncNested
import Derived.Test.YtnkpgmibhpmdhaaGreatBeAI
namespace Go.Proofs.YtnkpgmibhpmdhaaGreat.V
set_option linter.unusedVariables false
open Go.RowKit
variable {ops : Array Oper} {Q : Exit → Act → World → Prop} {tbl : List (Nat × Ent)} {w0 : World} {o : Oper}
def Ent.ownV (B:Nat) (l:List Z.V):Ent:=⟨fun v w=>OwnV w B v l,fun hb h=>h.below hb⟩
def Ent.slV (k:Nat) (l:List Z.V):Ent:=⟨fun v w=>∃ a c,v=.slice a k c∧SlV w a k c l,fun hb ⟨a,c,h1,h2⟩=>⟨a,c,h1,h2.below hb⟩⟩
theorem build_oneV (w:World) (k i:Int) (z:ByteArray):(Instr.buildSlice 42 1 #[(0,.agg #[.int .i64 k,.int .i64 i,.string z])]).run Tryz.prog w=.ok (.slice (some ⟨w.heap.size,0,none⟩) 1 1) (w.alloc (.cells #[.int .i64 k,.int .i64 i,.string z] 25)):=by
 simp[go_sem]
theorem Step.oneV {s:Nat} {k i:Int} {z:ByteArray} (hw:Wants tbl ops o) (ho:o.op=.buildSlice 42 1 #[(0,.tmp s)]) (hs:get tbl s=Ent.is (.agg #[.int .i64 k,.int .i64 i,.string z])) (hd:∀ d,o.dst=some d→get tbl d=Ent.slV 1 [⟨k,i,z⟩]):Step Tryz.prog ops Q tbl w0 o:=by
 refine Step.run hw fun a w hb hk=>⟨.slice (some ⟨w.heap.size,0,none⟩) 1 1,w.alloc (.cells #[.int .i64 k,.int .i64 i,.string z] 25),?_,(Below.refl _ _).alloc (Nat.le_refl _) _,fun d h=>?_⟩
 ·have h1:a.eval (.tmp s)=.agg #[.int .i64 k,.int .i64 i,.string z]:=by
   have:=hk s (looks_op (by rw[ho];simp[Op.operands]))
   rwa [hs] at this
  simp only[execOp,ho]
  simp[h1,build_oneV]
 ·rw[hd d h]
  refine⟨_,_,rfl,rfl,Nat.le_refl _,by decide,by simp,.inr ⟨w.heap.size,0,rfl,by simp,fun j x hx=>?_⟩⟩
  match j,hx with
  | 0,hx=>simp at hx;subst hx;simp
def Ent.box (B:Nat) (t:TypeId) (u:Value):Ent:=⟨fun v w=>∃ b,v=.pointer (some ⟨b,0,none⟩)∧B≤b∧Boxed w b t u,fun hb ⟨b,h1,h2,h3⟩=>⟨b,h1,h2,(hb.block b h3.lt).trans h3⟩⟩
theorem Step.boxVs (hw:Wants tbl ops o) (ho:o.op=.alloc 42) (hd:∀ d,o.dst=some d→get tbl d=Ent.box w0.heap.size 42 (.slice none 0 0)):Step Tryz.prog ops Q tbl w0 o:=by
 refine Step.run hw fun a w hb hk=>⟨.pointer (some ⟨w.heap.size,0,none⟩),w.alloc (.cells #[.slice none 0 0] 42),?_,(Below.refl _ _).alloc (Nat.le_refl _) _,fun d h=>?_⟩
 ·simp only[execOp,ho]
  simp[go_sem]
 ·rw[hd d h]
  exact⟨_,rfl,hb.size,Boxed.new w _ _⟩
theorem Step.lenT {s k:Nat} {t:TypeId} (hw:Wants tbl ops o) (ho:o.op=.call { callee:=.builtin .len,args:=#[.tmp s],argTypes:=#[t] }) (ht:t=42∨t=28) (hs:∀ v w,(get tbl s).p v w→∃ a c,v=.slice a k c) (hd:∀ d,o.dst=some d→get tbl d=Ent.is (.int .i64 (k:Int))):Step Tryz.prog ops Q tbl w0 o:=by
 refine Step.value hw fun a w hb hk=>⟨.int .i64 (k:Int),?_,fun d h=>by rw[hd d h];rfl⟩
 obtain⟨a1,c1,h2⟩:=hs _ _ (hk s (looks_op (by rw[ho];simp[Op.operands,Call.operands])))
 obtain⟨dst,op,type,pos,after,guard⟩:=o
 obtain rfl:op=_:=ho
 have h3:=slot_of h2
 rcases ht with rfl|rfl<;>simp[h3,go_sem,Builtin.len_]
theorem Step.ldT {s g i:Nat} {t:TypeId} {v:Value} (hw:Wants tbl ops o) (ho:o.op=.load t (.tmp s)) (hs:get tbl s=Ent.is (.pointer (some ⟨g,i,none⟩))) (ht:(t=42∧∃ a n c,v=.slice a n c)∨(t=28∧∃ a n c,v=.slice a n c)∨(t=3∧∃ n,v=.int .i64 n)) (hg:g<w0.heap.size) (hc:w0.cell? ⟨g,i,none⟩=some v) (hd:∀ d,o.dst=some d→get tbl d=Ent.is v):Step Tryz.prog ops Q tbl w0 o:=by
 refine Step.value hw fun a w hb hk=>⟨v,?_,fun d h=>by rw[hd d h];rfl⟩
 have e1:a.eval (.tmp s)=.pointer (some ⟨g,i,none⟩):=by
  have:=hk s (looks_op (by rw[ho];simp[Op.operands]))
  rwa [hs] at this
 have hc2:w.cell? ⟨g,i,none⟩=some v:=by rw[hb.cell (p:=⟨g,i,none⟩) hg];exact hc
 simp only[execOp,ho,e1]
 rcases ht with ⟨rfl,a,n,c,rfl⟩|⟨rfl,a,n,c,rfl⟩|⟨rfl,n,rfl⟩<;>simp[go_sem,hc2]
theorem run_idxV (w:World) (g off len cap:Nat) (k:IntKind) (i:Int) (h0:0≤i) (h1:i<(len:Int)):(Instr.indexAt 42 (.slice (some ⟨g,off,none⟩) len cap) (.int k i)).run Tryz.prog w=.ok (.pointer (some ⟨g,off+i.toNat*3,none⟩)) w:=by
 have he:Tryz.prog.elem 42=25:=by kernel_rfl
 have hs:(sizeOf 25).run Tryz.prog w=.ok 3 w:=by
  have h:(Tryz.prog.info? 25).map (·.size)=some 3:=by kernel_rfl
  cases hq:Tryz.prog.info? 25 with
  | none=>rw[hq] at h;simp at h
  | some i=>rw[hq] at h;simp at h;simp[sizeOf,typeInfo,hq,h]
 rw[run_indexAt_slice (w:=w) 42 ⟨g,off,none⟩ len cap k i (by rw[he];exact Tryz.underlying42),if_pos ⟨h0,h1⟩,he,hs]
 simp only[Result.andThen_ok,Addr.add_lit]
theorem Step.idxV {s g off len cap:Nat} {x:Operand} {k:IntKind} {i:Int} {p:Value} (hw:Wants tbl ops o) (ho:o.op=.indexAddr 42 (.tmp s) x) (hs:get tbl s=Ent.is (.slice (some ⟨g,off,none⟩) len cap)) (hx:(∃ t,x=.tmp t)∨∃ v,x=.const v) (hex:ent tbl x=Ent.is (.int k i)) (h0:0≤i) (h1:i<(len:Int)) (hp:.pointer (some ⟨g,off+i.toNat*3,none⟩)=p) (hd:∀ d,o.dst=some d→get tbl d=Ent.is p):Step Tryz.prog ops Q tbl w0 o:=by
 subst hp
 refine Step.value hw fun a w hb hk=>⟨.pointer (some ⟨g,off+i.toNat*3,none⟩),?_,fun d h=>by rw[hd d h];rfl⟩
 have e1:a.eval (.tmp s)=.slice (some ⟨g,off,none⟩) len cap:=by
  have:=hk s (looks_op (by rw[ho];simp[Op.operands]))
  rwa [hs] at this
 have e2:a.eval x=.int k i:=ent_eval hex (.inl (by rw[ho];simp[Op.operands])) hk hx
 simp[execOp,ho,e1,e2,run_idxV w g off len cap k i h0 h1]
theorem Step.ldV {s g j:Nat} {k i:Int} {z:ByteArray} (hw:Wants tbl ops o) (ho:o.op=.load 25 (.tmp s)) (hs:get tbl s=Ent.is (.pointer (some ⟨g,j,none⟩))) (hg:g<w0.heap.size) (h0:w0.cell? ⟨g,j,none⟩=some (.int .i64 k)) (h1:w0.cell? ⟨g,j+1,none⟩=some (.int .i64 i)) (h2:w0.cell? ⟨g,j+2,none⟩=some (.string z)) (hd:∀ d,o.dst=some d→get tbl d=Ent.is (.agg #[.int .i64 k,.int .i64 i,.string z])):Step Tryz.prog ops Q tbl w0 o:=by
 refine Step.value hw fun a w hb hk=>⟨.agg #[.int .i64 k,.int .i64 i,.string z],?_,fun d h=>by rw[hd d h];rfl⟩
 have e1:a.eval (.tmp s)=.pointer (some ⟨g,j,none⟩):=by
  have:=hk s (looks_op (by rw[ho];simp[Op.operands]))
  rwa [hs] at this
 have c0:w.cell? ⟨g,j,none⟩=some (.int .i64 k):=by rw[hb.cell (p:=⟨g,j,none⟩) hg];exact h0
 have c1:w.cell? ⟨g,j+1,none⟩=some (.int .i64 i):=by rw[hb.cell (p:=⟨g,j+1,none⟩) hg];exact h1
 have c2:w.cell? ⟨g,j+2,none⟩=some (.string z):=by rw[hb.cell (p:=⟨g,j+2,none⟩) hg];exact h2
 simp only[execOp,ho,e1]
 simp[go_sem,c0,c1,c2]
theorem Step.makeV {s n:Nat} {i:Int} {c:Value} (hw:Wants tbl ops o) (ho:o.op=.makeSlice 42 (.const c) (.tmp s)) (hc:c=.int .i64 0) (hs:get tbl s=Ent.is (.int .i64 i)) (hi:i=(n:Int)) (hn:n*32≤140737488355328) (hd:∀ d,o.dst=some d→get tbl d=Ent.ownV w0.heap.size []):Step Tryz.prog ops Q tbl w0 o:=by
 subst hc hi
 obtain⟨i0,hi,hz0,hz1,hz2⟩:=info_parts Tryz.infoVal
 refine Step.run hw fun a w hb hk=>?_
 have e1:a.eval (.tmp s)=.int .i64 (n:Int):=by
  have:=hk s (looks_op (by rw[ho];simp[Op.operands]))
  rwa [hs] at this
 have e2:a.eval (.const (.int .i64 0))=.int .i64 0:=rfl
 obtain⟨w',hr,hown,hg⟩:=run_make_own w w0.heap.size 42 25 i0 _ 3 Tryz.underlying42 hi hz0 hz1 .i64 .i64 n (by rw[hz2];omega) (by unfold maxLen;omega) hb.size
 refine⟨.slice (some ⟨w.heap.size,0,none⟩) 0 n,w',?_,?_,fun d h=>?_⟩
 ·simp[execOp,ho,e1,e2,hr]
 ·exact ((Kept.refl (fun _=>False) w).grown hg (by simp)).below (Nat.le_refl _) (by simp)
 ·rw[hd d h]
  exact hown
theorem Step.callF {P:Program} {f g:FuncId} {s:Nat} {ats:Array TypeId} {v:Value} {fn:Func} {c:Code} (hw:Wants tbl ops o) (ho:o.op=.call { callee:=.value (.func f),args:=#[.tmp s,.func g],argTypes:=ats }) (hs:get tbl s=Ent.is v)
  (hf:P.funcs[f]?=some fn) (hname:(fn.name=="runtime.NumGoroutine")=false) (hb:fn.body=some c)
  (h:∀ w:World,Below w0.heap.size w0 w→Calls P f #[v,.func (.func g) #[] #[]] w fun e w'=>∃ v',e=.returned v'∧Below w.heap.size w w'∧∀ d,o.dst=some d→(get tbl d).p v' w'):Step P ops Q tbl w0 o:=by
 refine Step.enter hw fun a w hbw hk=>⟨f,#[v,.func (.func g) #[] #[]],?_,h w hbw⟩
 have h1:=hk s (looks_op (by rw[ho];simp[Op.operands,Call.operands]))
 rw[hs] at h1
 have h2:a.eval (.tmp s)=v:=h1
 have h4:a.eval (.func g)=.func (.func g) #[] #[]:=rfl
 obtain⟨dst,op,type,pos,after,guard⟩:=o
 obtain rfl:op=_:=ho
 have h3:fn.name≠"runtime.NumGoroutine":=by simpa using hname
 simp[execOp_call_go,callFunc,hf,h3,hb,h2,h4]
end Go.Proofs.YtnkpgmibhpmdhaaGreat.V
namespace Go.Proofs.YtnkpgmibhpmdhaaGreat
set_option linter.unusedVariables false
open Go.RowKit
attribute [local go_sem] Oper.semAt_some
def Z.z0:Z.V:=⟨0,0,⟨#[]⟩⟩
def nus (l:List Z.V):List Bool:=l.map fun x=>x.k==0
def oth (l:List Z.V):List Z.V:=l.filter fun x=>!(x.k==0)
theorem nus_length (l:List Z.V):(nus l).length=l.length:=by simp[nus]
theorem nus_get {l:List Z.V} {j:Nat} {x:Z.V} (h:l[j]?=some x):(nus l).getD j false=(x.k==0):=by simp[nus,List.getD,h]
theorem take_snocV {l:List Z.V} {j:Nat} {x:Z.V} (h:l[j]?=some x):l.take (j+1)=l.take j++[x]:=by
 rw[List.take_add_one,h];rfl
def got (l:List Z.V) {len:Nat} (pre:List { i:Nat // i<len }):List Z.V:=pre.map fun x=>l.getD x.1 Z.z0
theorem got_snoc (l:List Z.V) {len:Nat} (pre:List { i:Nat // i<len }) (x:{ i:Nat // i<len }):got l (pre++[x])=got l pre++[l.getD x.1 Z.z0]:=by simp[got]
theorem got_length (l:List Z.V) {len:Nat} (pre:List { i:Nat // i<len }):(got l pre).length=pre.length:=by simp[got]
def HoldsV (W:World) (B n₀:Nat) (m:List Z.V):Prop:=∃ v,Boxed W B 42 v∧OwnV W n₀ v m
theorem holdsV_own {β:Type} (B n₀:Nat) (f:β→List Z.V):Own (fun s W=>HoldsV W B n₀ (f s)):=by
 intro s W W' row h hg hr
 obtain⟨v,h1,h2⟩:=h
 obtain⟨v',g1,g2,_⟩:=holdsRow_own n₀ B 42 25 3 (fun s=>(f s).length) (fun s=>cellsV (f s)) (fun _ _=>True) s W W' row ⟨v,h1,h2,trivial⟩ hg hr
 exact⟨v',g1,g2⟩
theorem plc_oth (l:List Z.V):∀ k,k≤l.length→got l (plc (nus l) l.length k)=oth (l.take k)
 | 0,_=>rfl
 | k+1,h=>by
  have ih:=plc_oth l k (by omega)
  obtain⟨x,hx⟩:∃ x,l[k]?=some x:=⟨l[k]'h,List.getElem?_eq_getElem _⟩
  have hn:=nus_get hx
  rw[take_snocV hx]
  cases hb:(x.k==0) with
  | true =>
   rw[plc_yes _ _ k h (by rw[hn,hb]),ih]
   simp[oth,hb]
  | false =>
   rw[plc_no _ _ k h (by rw[hn,hb]),got_snoc,ih]
   simp[oth,hb,List.getD,hx]
theorem cntT_oth (l:List Z.V):(oth l).length+cntT (nus l)=l.length:=by
 have h1:=plc_oth l l.length (Nat.le_refl _)
 have h2:=plc_all (nus l) (nus_length l)
 rw[List.take_length] at h1
 rw[← h1,got_length]
 exact h2
def soFar (l:List Z.V) (len j:Nat):List Value:=Vb (nus (l.take j))++List.replicate (len - j) (.bool false)
theorem soFar_zero (l:List Z.V) (len:Nat):soFar l len 0=List.replicate len (.bool false):=by simp[soFar,nus,Vb]
theorem soFar_all (l:List Z.V) {len:Nat} (h:l.length=len):soFar l len len=Vb (nus l):=by subst h;simp[soFar]
theorem soFar_set (l:List Z.V) (len j:Nat) (hl:l.length=len) (h:j<len) {x:Z.V} (hx:l[j]?=some x):(soFar l len j).set j (.bool (x.k==0))=soFar l len (j+1):=by
 have h1:(Vb (nus (l.take j))).length=j:=by rw[Vb_length,nus_length,List.length_take];omega
 unfold soFar
 rw[take_snocV hx,show len - j=(len - (j+1))+1 by omega,List.replicate_succ,List.set_append_right _ _ (by omega),h1,Nat.sub_self,List.set_cons_zero]
 simp[nus,Vb]
theorem soFar_at (l:List Z.V) (len j:Nat) (hl:l.length=len) (h:j<len):(soFar l len j)[j]?=some (.bool false):=by
 have h1:(Vb (nus (l.take j))).length=j:=by rw[Vb_length,nus_length,List.length_take];omega
 unfold soFar
 rw[List.getElem?_append_right (by omega),h1,Nat.sub_self,show len - j=(len - (j+1))+1 by omega,List.replicate_succ]
 rfl
theorem owns_below {w w':World} {B:Nat} {e:TypeId} {size:Nat} {v:Value} {n:Nat} {xs:List Value} (h:w.ownsRow B e size v n xs) (hb:Below w.heap.size w w'):w'.ownsRow B e size v n xs:=owns_of_block h fun g hg=>hb.block g (owns_lt h hg).2
theorem others_app {W wa w2:World} {B:Nat} {e:TypeId} {size:Nat} {v:Value} {n:Nat} {xs:List Value} (hwa:Below W.heap.size W wa) (ho:wa.ownsRow B e size v n xs) (hk:Kept (fun k=>v.ownBlock=some k) wa w2):KeepsOthers W w2:=by
 refine⟨Nat.le_trans hwa.size hk.size,fun k o hk0 hc=>?_⟩
 have h1:wa.heap[k]?=some o:=(hwa.block k (lt_of_block hk0)).trans hk0
 rw[hk.block k (lt_of_block h1) (fun hv=>?_)]
 ·exact h1
 ·rcases ho.2 with ⟨h2,_⟩|⟨g,cap,cur,h2,_,hh,_⟩
  ·rw[h2] at hv;simp[Value.ownBlock] at hv
  ·rw[h2] at hv
   simp[Value.ownBlock] at hv
   subst hv
   rw[h1] at hh
   obtain rfl:=Option.some.inj hh
   simp[Obj.isCells] at hc
theorem boxed_app {wa w2:World} {B B':Nat} {t e:TypeId} {size:Nat} {v u:Value} {n:Nat} {xs:List Value} (hb:Boxed wa B t u) (hte:t≠e) (ho:wa.ownsRow B' e size v n xs) (hk:Kept (fun k=>v.ownBlock=some k) wa w2):Boxed w2 B t u :=
 (hk.block B hb.lt (fun h=>hb.not_row hte ho h.symm)).trans hb
theorem zisnull_any (k i:Int) (s:ByteArray) (w:World) :
  Calls Tryz.prog 56 #[.agg #[.int .i64 k,.int .i64 i,.string s]] w fun e w'=>e=.returned (.bool (k==0))∧w'=w.alloc (.cells #[.int .i64 k,.int .i64 i,.string s] 25):=by
 have hal:=At.new w k i s
 obtain⟨c0,c1,c2⟩:=hal.cells
 clear hal
 go_enter Tryz.func56,Tryz.ntmps56
 go_wp2
 go_ret
 exact⟨rfl,rfl⟩
def spTbl (B0 B1 B j:Nat) (ao:Option Addr) (cap c n:Nat):List (Nat × V.Ent) :=
 [(1,V.Ent.is (.pointer (some ⟨B0,0,none⟩))),(4,V.Ent.is (.slice (some ⟨B1,0,none⟩) j j)),(25,V.Ent.is (.slice ao j cap)),(26,V.Ent.is (.int .i64 (j:Int))),(27,V.Ent.is (.slice (some ⟨B1,0,none⟩) j j)),(28,V.Ent.is (.int .i64 (c:Int))),(29,V.Ent.is (.int .i64 (n:Int))),(30,V.Ent.ownV B []),(7,V.Ent.box B 42 (.slice none 0 0))]
def rdTbl (B0 B:Nat) (g off j cap:Nat) (m:Nat) (x:Nat) (v:Value) (k i:Int) (z:ByteArray):List (Nat × V.Ent) :=
 [(1,V.Ent.is (.pointer (some ⟨B0,0,none⟩))),(7,V.Ent.is (.pointer (some ⟨B,0,none⟩))),(8,V.Ent.is (.int .i64 (x:Int))),(34,V.Ent.is v),(35,V.Ent.is (.slice (some ⟨g,off,none⟩) j cap)),(36,V.Ent.is (.int .i64 (x:Int))),(37,V.Ent.is (.pointer (some ⟨g,off+x*3,none⟩))),(38,V.Ent.is (.agg #[.int .i64 k,.int .i64 i,.string z])),(39,V.Ent.slV 1 [⟨k,i,z⟩])]
set_option maxRecDepth 100000 in
set_option maxHeartbeats 4000000 in
theorem zsplit_any (ao:Option Addr) (len cap:Nat) (l:List Z.V) (w:World) (h:SlV w ao len cap l) (hm:len*32≤140737488355328) :
  Calls Tryz.prog 25 #[.slice ao len cap] w fun e w'=>∃ v1 v2,e=.returned (.tuple #[v1,v2])∧w'.ownsRow w.heap.size 4 1 v1 len (Vb (nus l))∧OwnV w' w.heap.size v2 (oth l)∧Below w.heap.size w w':=by
 have H:=hide h
 have hm2:len≤140737488355328:=by omega
 obtain⟨i0,hi0,hz0,hz1,hz2⟩:=info_parts Tryz.infoBool
 clear h
 refine calls_marks Tryz.func25 rfl ?_
 simp only[Tryz.ntmps25,List.size_toArray,List.length_cons,List.length_nil,Nat.reduceAdd,Nat.reduceSub,Array.replicate_succ,Array.replicate_zero,List.push_toArray,List.append_toArray,List.nil_append,List.cons_append]
 go_wp2_with (at_make;refine wpList_make_full _ rfl _ _ 28 rfl w.heap.size 4 i0 (.bool false) 1 Tryz.underlying28 hi0 hz0 hz1 _ _ _ _ len rfl rfl rfl rfl (by rw[hz2];omega) (by unfold maxLen;omega) (by simp) ?_)
 intro w1 ho hg
 have hbx:Boxed w1 w.heap.size 42 (.slice ao len cap):=(Boxed.new w 42 (.slice ao len cap)).kept hg (by simp)
 have hb1:Below w.heap.size w w1:=(below_one w _).grown hg (by simp) (by simp)
 have ho1:w1.ownsRow w.heap.size 4 1 (.slice (some ⟨w.heap.size+1,0,none⟩) len len) len (soFar l len 0):=by
  rw[soFar_zero]
  rw[toList_madeCells_one] at ho
  exact ho
 have hc1:=hbx.cell
 have HBX:=hide hbx
 have HB1:=hide hb1
 have HO1:=hide ho1
 clear hbx hb1 ho1 ho hg
 go_wp2_with fail
 go_loopw [14] (fun i wr=>∃ j:Nat,j≤len∧i=.int .i64 j∧Hid (wr.ownsRow w.heap.size 4 1 (.slice (some ⟨w.heap.size+1,0,none⟩) len len) len (soFar l len j))∧Hid (Boxed wr w.heap.size 42 (.slice ao len cap))∧Hid (Below w.heap.size w wr)) (fun i _=>len - (intOf i).toNat)
 case atStart=>exact⟨0,Nat.zero_le _,rfl,HO1,HBX,HB1⟩
 case round =>
  obtain⟨j,hj,rfl,hor,hbr,hwr⟩:=hrel
  clear HO1 HBX HB1
  by_cases hlt:j<len
  ·obtain⟨⟨xk,xi,xs⟩,hx⟩:∃ x,l[j]?=some x:=⟨l[j]'(by rw[H.out.1];exact hlt),List.getElem?_eq_getElem _⟩
   rcases H.out.2.2.2.2 with h5|⟨b,off,rfl,hlb,h5⟩
   ·omega
   obtain⟨e1,e2,e3⟩:=h5 j _ hx
   have d1:wr.cell? ⟨b,off+j*3,none⟩=some (.int .i64 xk):=by rw[hwr.out.cell (p:=⟨b,off+j*3,none⟩) hlb];exact e1
   have d2:wr.cell? ⟨b,off+j*3+1,none⟩=some (.int .i64 xi):=by rw[hwr.out.cell (p:=⟨b,off+j*3+1,none⟩) hlb];exact e2
   have d3:wr.cell? ⟨b,off+j*3+2,none⟩=some (.string xs):=by rw[hwr.out.cell (p:=⟨b,off+j*3+2,none⟩) hlb];exact e3
   have HX:=hide hx
   clear e1 e2 e3 h5 hx
   go_wp2_with fail
   refine (zisnull_any _ _ _ _).mono ?_
   rintro e w2 ⟨rfl,hw2⟩
   have hbb:Below wr.heap.size wr w2:=by rw[hw2];exact ((Below.refl _ wr).alloc (Nat.le_refl _) _).alloc (by simp) _
   have hor2:=owns_below hor.out hbb
   have hbr2:Boxed w2 w.heap.size 42 (.slice (some ⟨b,off,none⟩) len cap):=(hbb.block _ hbr.out.lt).trans hbr.out
   have hwr2:=bthen hwr.out hbb
   have hc4:=hor2.cellAt j (by omega)
   rw[soFar_at l len j H.out.1 hlt] at hc4
   have hf4:=hor2.frozenAt j
   have HO:=hide (hor2.stored j (.bool (xk==0))).1
   have HBR:=hide hbr2
   have HWR:=hide hwr2
   obtain⟨q,hq⟩:∃ q,(xk==0)=q:=⟨_,rfl⟩
   have HQ:=hide hq
   rw[hq] at HO ⊢
   clear hbb hor2 hbr2 hwr2 hw2 hor hbr hwr d1 d2 d3 hq
   go_wp2
   go_roundw
   case rel =>
    refine⟨j+1,hlt,by go_num,hide ?_,hide ((Below.heap_setCell _ _ _ _ (by simp)).trans HBR.out),hide (HWR.out.setCell (p:=⟨w.heap.size+1,j,none⟩) (by simp) _)⟩
    rw[← soFar_set l len j H.out.1 hlt HX.out]
    show World.ownsRow _ _ _ _ _ _ ((soFar l len j).set j (.bool (xk==0)))
    rw[HQ.out]
    exact HO.out
   case measure=>simp[intOf];omega
  ·obtain rfl:j=len:=by omega
   replace hor:Hid (wr.ownsRow w.heap.size 4 1 (.slice (some ⟨w.heap.size+1,0,none⟩) j j) j (Vb (nus l))):=by
    have:=hor.out
    rwa [soFar_all l H.out.1] at this
   go_wp2_with fail
   obtain⟨c,hc⟩:∃ c,cntT (nus l)=c:=⟨_,rfl⟩
   obtain⟨n,hn⟩:∃ n,(oth l).length=n:=⟨_,rfl⟩
   have hcn:n+c=j:=by rw[← hc,← hn,← H.out.1];exact cntT_oth l
   have hsub:∀ w:World,(binOp .sub 3 (.int .i64 (j:Int)) (.int .i64 (c:Int))).run Tryz.prog w=.ok (.int .i64 (n:Int)) w:=by
    intro w
    have h1:(j:Int) - (c:Int)=(n:Int):=by omega
    simp[go_sem]
    rw[h1]
    rw[IntKind.wrap_i64]
    omega
   have hsn:Sb wr (some ⟨w.heap.size+1,0,none⟩) j j (nus l):=Sb.of_slice (by rw[nus_length];exact H.out.1) hor.out
   have hlr:w.heap.size+1<wr.heap.size:=(owns_lt hor.out rfl).2
   refine V.wp_region_tail (w0:=wr) 7 [25,26,27,28,29,30,7] [1,4] (spTbl w.heap.size (w.heap.size+1) wr.heap.size j ao cap c n) (by decide) rfl (by kernel_rfl) (by kernel_rfl) (by kernel_rfl) (Below.refl _ _) ?hb ?hs ?hd
   case hb =>
    intro d hd
    simp only[List.mem_cons,List.not_mem_nil,or_false] at hd
    rcases hd with rfl|rfl<;>rfl
   case hs =>
    refine⟨?_,?_,?_,?_,?_,?_,?_,trivial⟩
    ·exact V.Step.ldT (.inl rfl) rfl rfl (.inl ⟨rfl,_,_,_,rfl⟩) hbr.out.lt hbr.out.cell (fun _ h=>by cases h;rfl)
    ·exact V.Step.lenT (.inl rfl) rfl (.inl rfl) (fun v w h=>⟨_,_,h⟩) (fun _ h=>by cases h;rfl)
    ·exact V.Step.move (.inl rfl) (.inl rfl) (.inl ⟨_,rfl⟩) (fun _ h=>by cases h;rfl)
    ·refine V.Step.call1 (.inl rfl) rfl rfl Tryz.func57 (by kernel_rfl) rfl fun wa hwa=>?_
     refine (zcount_any _ _ _ (nus l) wa (hsn.below hwa) hm2).mono ?_
     rintro e wb ⟨rfl,hb⟩
     exact⟨_,rfl,hb,fun d h=>by cases h;rw[hc];rfl⟩
    ·exact V.Step.bin (v1:=.int .i64 (j:Int)) (v2:=.int .i64 (c:Int)) (v:=.int .i64 (n:Int)) (.inl rfl) rfl (.inl ⟨_,rfl⟩) (.inl ⟨_,rfl⟩) rfl rfl (fun w=>⟨rfl,hsub w⟩) (fun _ h=>by cases h;rfl)
    ·exact V.Step.makeV (.inl rfl) rfl rfl rfl rfl (by omega) (fun _ h=>by cases h;rfl)
    ·exact V.Step.boxVs (.inl rfl) rfl (fun _ h=>by cases h;rfl)
   case hd =>
   intro vs wz hwz hk
   have v25:vs 25=.slice ao j cap:=hk 0 _ 25 rfl rfl
   have v26:vs 26=.int .i64 (j:Int):=hk 1 _ 26 rfl rfl
   have v27:vs 27=.slice (some ⟨w.heap.size+1,0,none⟩) j j:=hk 2 _ 27 rfl rfl
   have v28:vs 28=.int .i64 (c:Int):=hk 3 _ 28 rfl rfl
   have v29:vs 29=.int .i64 (n:Int):=hk 4 _ 29 rfl rfl
   have h30:OwnV wz wr.heap.size (vs 30) []:=hk 5 _ 30 rfl rfl
   obtain⟨B,v7,hB7,hbx⟩:=hk 6 _ 7 rfl rfl
   obtain⟨a30,c30,v30,s30,_⟩:=SlV.of_own h30
   rw[v30] at h30
   simp only[V.puts,List.foldl_cons,List.foldl_nil,v25,v26,v27,v28,v29,v30,v7,Act.put,List.setIfInBounds_toArray,List.set_cons_zero,List.set_cons_succ]
   clear hk v25 v26 v27 v28 v29 v30 v7
   simp only[List.drop]
   have hcx:=hbx.cell
   have hfx:=hbx.frozen
   simp only[List.length_nil] at h30 ⊢
   have hset:=hbx.set (.slice a30 0 c30)
   have hown:OwnV (wz.setCell ⟨B,0,none⟩ (.slice a30 0 c30)) wr.heap.size (.slice a30 0 c30) []:=World.ownsRow.kept h30 (grownBy_setCell' wz B _) (.inr (hbx.not_row (by decide) h30).symm)
   have hbel:Below wr.heap.size wr (wz.setCell ⟨B,0,none⟩ (.slice a30 0 c30)):=hwz.setCell (p:=⟨B,0,none⟩) hB7 _
   have HSET:=hide hset
   have HOWN:=hide hown
   have HBEL:=hide hbel
   clear hset hown hbel h30 s30 hwz
   go_wp2_with fail
   refine (there_any _ _ _ _).mono ?_
   rintro e w2 ⟨rfl,rfl⟩
   clear hcx hfx hbx
   go_wp2_with fail
   obtain⟨wy,hwy⟩:∃ wy,wz.setCell ⟨B,0,none⟩ (.slice a30 0 c30)=wy:=⟨_,rfl⟩
   have hsy:wz.heap.size=wy.heap.size:=by rw[← hwy];simp
   rw[hwy] at HSET HOWN HBEL ⊢
   rw[hsy]
   have bN:=Boxed.new wy 28 (.slice (some ⟨w.heap.size+1,0,none⟩) j j)
   have hBy:Below wr.heap.size wr (wy.alloc (.cells #[.slice (some ⟨w.heap.size+1,0,none⟩) j j] 28)):=HBEL.out.alloc HBEL.out.size _
   have hsn2:Sb (wy.alloc (.cells #[.slice (some ⟨w.heap.size+1,0,none⟩) j j] 28)) (some ⟨w.heap.size+1,0,none⟩) j j (nus l):=hsn.below hBy
   have hyr:=HBEL.out.size
   have HPL:Hid ((plc (nus l) j j).length=n):=by
    have h1:=plc_oth l l.length (Nat.le_refl _)
    rw[List.take_length,H.out.1] at h1
    show _=_
    rw[← hn,← h1,got_length]
   refine (wpIn_wide (n:=9)).1 (wpIn_rangeFunc_ownG rfl (by decide) (gf:=96) (lb:=#[.pointer (some ⟨wy.heap.size,0,none⟩)]) rfl trivial (enters_of Tryz.func96 (by kernel_rfl) rfl)
    (there_stops wy.heap.size wr.heap.size (some ⟨w.heap.size+1,0,none⟩) j j (nus l) _ (by simp) (by simp;omega) hm2 bN.cell hsn2 (fun x hx _=>by obtain rfl:=Option.some.inj hx;exact hlr)) belowK_t (belowK_b (by simp;omega)) (Below.refl _ _) (fun _=>rfl)
    (fun pre W=>HoldsV W B wr.heap.size (got l pre)∧Below wr.heap.size wr W)
    (fun _ _ _=>False)
    (OwnFrom.and (Own.from (holdsV_own B wr.heap.size (fun pre:List { i:Nat // i<j }=>got l pre)) _) (ownFrom_below (Nat.le_refl _) (by simp;omega)))
    (fun _ _ _ _ _ hs _ _=>hs)
    ⟨⟨_,HSET.out.alloc _,World.ownsRow.alloc HOWN.out _⟩,hBy⟩
    (fun x=>{ tmps:=#[.slice ao j cap,.pointer (some ⟨w.heap.size,0,none⟩),.slice none 0 0,.slice none 0 0,.slice (some ⟨w.heap.size+1,0,none⟩) j j,u5,u6,.pointer (some ⟨B,0,none⟩),.int .i64 ((x.1:Nat):Int),.slice ao j cap,.int .i64 (j:Int),.slice (some ⟨w.heap.size+1,0,none⟩) j j,.slice ao j cap,.int .i64 (j:Int),.int .i64 (j:Int),.bool false,u16,u17,u18,u19,u20,u21,u22,u23,u24,.slice ao j cap,.int .i64 (j:Int),.slice (some ⟨w.heap.size+1,0,none⟩) j j,.int .i64 (c:Int),.int .i64 (n:Int),.slice a30 0 c30,.slice (some ⟨w.heap.size+1,0,none⟩) j j,.func (.func 96) #[] #[.pointer (some ⟨wy.heap.size,0,none⟩)],.int .i64 ((x.1:Nat):Int),undef,undef,undef,undef,undef,undef,undef,undef,undef],defers:=[] }) ?assign ?body ?done ?stop)
   case assign =>
    intro l x W K hK
    gi_wp2
    simpa using hK
   case body =>
    rintro lo pre x W ⟨⟨v,hv,hrow⟩,hB⟩ hlt2
    obtain⟨x,hxj⟩:=x
    obtain⟨y,hy⟩:∃ y,l[x]?=some y:=⟨l[x]'(by rw[H.out.1];exact hxj),List.getElem?_eq_getElem _⟩
    obtain⟨yk,yi,ys⟩:=y
    rcases H.out.2.2.2.2 with h5|⟨g,off,hao,hlb,h5⟩
    ·omega
    subst hao
    obtain⟨e1,e2,e3⟩:=h5 x _ hy
    have hwW:Below w.heap.size w W:=hwr.out.trans (hB.mono (by omega))
    have d1:W.cell? ⟨g,off+x*3,none⟩=some (.int .i64 yk):=by rw[hwW.cell (p:=⟨g,off+x*3,none⟩) hlb];exact e1
    have d2:W.cell? ⟨g,off+x*3+1,none⟩=some (.int .i64 yi):=by rw[hwW.cell (p:=⟨g,off+x*3+1,none⟩) hlb];exact e2
    have d3:W.cell? ⟨g,off+x*3+2,none⟩=some (.string ys):=by rw[hwW.cell (p:=⟨g,off+x*3+2,none⟩) hlb];exact e3
    have hgW:g<W.heap.size:=by have:=hwW.size;omega
    have hb0:Boxed W w.heap.size 42 (.slice (some ⟨g,off,none⟩) j cap):=(hB.block _ hbr.out.lt).trans hbr.out
    have hgd:l.getD x Z.z0=⟨yk,yi,ys⟩:=by simp[List.getD,hy]
    obtain⟨m,hm'⟩:∃ m,got l pre=m:=⟨_,rfl⟩
    have hml:m.length=pre.length:=by rw[← hm',got_length]
    rw[hm'] at hrow
    have hmn:(m.length+1)*32≤140737488355328:=by have:=HPL.out;omega
    obtain⟨av,cv,rfl,sv,_⟩:=SlV.of_own hrow
    refine wpIn_block (region_in (by kernel_rfl) (by kernel_rfl) (by rintro⟨_,_,h⟩;exact h) ?_)
    refine V.any_region_tail (w0:=W) 6 [34,35,36,37,38,39] [1,7,8] (rdTbl w.heap.size B g off j cap m.length x (.slice av m.length cv) yk yi ys) (by decide) rfl (by kernel_rfl) (by kernel_rfl) (Below.refl _ _) ?hb ?hs ?hd
    case hb =>
     intro d hd
     simp only[List.mem_cons,List.not_mem_nil,or_false] at hd
     rcases hd with rfl|rfl|rfl<;>rfl
    case hs =>
     refine⟨?_,?_,?_,?_,?_,?_,trivial⟩
     ·exact V.Step.ldT (.inl rfl) rfl rfl (.inl ⟨rfl,_,_,_,rfl⟩) hv.lt hv.cell (fun _ h=>by cases h;rfl)
     ·exact V.Step.ldT (.inl rfl) rfl rfl (.inl ⟨rfl,_,_,_,rfl⟩) hb0.lt hb0.cell (fun _ h=>by cases h;rfl)
     ·exact V.Step.move (.inl rfl) (.inl rfl) (.inl ⟨_,rfl⟩) (fun _ h=>by cases h;rfl)
     ·exact V.Step.idxV (k:=.i64) (i:=(x:Int)) (p:=.pointer (some ⟨g,off+x*3,none⟩)) (.inl rfl) rfl rfl (.inl ⟨_,rfl⟩) rfl (by omega) (by omega) rfl (fun _ h=>by cases h;rfl)
     ·exact V.Step.ldV (.inl rfl) rfl rfl hgW d1 d2 d3 (fun _ h=>by cases h;rfl)
     ·exact V.Step.oneV (.inl rfl) rfl rfl (fun _ h=>by cases h;rfl)
    case hd =>
    intro vs wa hwa hk
    have v34:vs 34=.slice av m.length cv:=hk 0 _ 34 rfl rfl
    have v35:vs 35=.slice (some ⟨g,off,none⟩) j cap:=hk 1 _ 35 rfl rfl
    have v36:vs 36=.int .i64 (x:Int):=hk 2 _ 36 rfl rfl
    have v37:vs 37=.pointer (some ⟨g,off+x*3,none⟩):=hk 3 _ 37 rfl rfl
    have v38:vs 38=.agg #[.int .i64 yk,.int .i64 yi,.string ys]:=hk 4 _ 38 rfl rfl
    obtain⟨a39,c39,v39,s39⟩:=hk 5 _ 39 rfl rfl
    simp only[V.puts,List.foldl_cons,List.foldl_nil,v34,v35,v36,v37,v38,v39,Act.put,List.setIfInBounds_toArray,List.set_cons_zero,List.set_cons_succ]
    clear hk v34 v35 v36 v37 v38 v39
    simp only[List.drop]
    have hra:=OwnV.below hrow hwa
    have hva:Boxed wa B 42 (.slice av m.length cv):=(hwa.block _ hv.lt).trans hv
    have HRA:=hide hra
    have HVA:=hide hva
    have HWA:=hide hwa
    have HS39:=hide s39
    have HML:=hide hml
    have HBW:=hide hB
    have HMP:=hide hm'
    have HGD:=hide hgd
    have HMN:=hide hmn
    clear hra hva hwa s39 hml hB hm' hgd hmn hrow hv sv hb0 hwW d1 d2 d3 e1 e2 e3 h5 hy
    have hsW:=HBW.out.size
    have hsa:=HWA.out.size
    go_wp2_with (at_builtin;refine wpList_appV rfl (.tmp 34) (.tmp 39) rfl wr.heap.size (.slice av m.length cv) m rfl HRA.out a39 1 c39 [⟨yk,yi,ys⟩] rfl HS39.out HMN.out (by omega) ?_)
    intro v40 w4 ho4 has _
    have hv4:=boxed_app HVA.out (by decide) HRA.out has.1
    have ho5:=others_app HWA.out HRA.out has.1
    have hb4:Below wr.heap.size W w4:=(HWA.out.mono hsW).trans (has.1.below (by omega) (fun k hk=>(owns_lt HRA.out hk).1))
    obtain⟨a40,c40,rfl,_,_⟩:=SlV.of_own ho4
    have hc4:=hv4.cell
    have hf4:=hv4.frozen
    have HO4:=hide ho4
    have HV4:=hide hv4
    have HO5:=hide ho5
    have HB4:=hide hb4
    clear ho4 hv4 ho5 hb4 has
    simp only[List.length_append,List.length_singleton] at HO4 ⊢
    go_wp2
    refine⟨(HO5.out.trans (KeepsOthers.setCell _ _ _)).from _,HB4.out.setCell (p:=⟨B,0,none⟩) hB7 _,⟨⟨_,HV4.out.set _,?_⟩,HBW.out.trans (HB4.out.setCell (p:=⟨B,0,none⟩) hB7 _)⟩⟩
    rw[got_snoc,HMP.out,HGD.out]
    exact World.ownsRow.kept HO4.out (grownBy_setCell' w4 B _) (.inr (HV4.out.not_row (by decide) HO4.out).symm)
   case done =>
    rintro D ys W hD rfl ⟨⟨v,hv,hrow⟩,hB⟩ hK
    have hpo:=plc_oth l l.length (Nat.le_refl _)
    rw[List.take_length,H.out.1] at hpo
    rw[hpo] at hrow
    obtain⟨av,cv,rfl,sv,_⟩:=SlV.of_own hrow
    have hc:=hv.cell
    have HV:=hide hv
    have HROW:=hide hrow
    have HBW:=hide hB
    have HK:=hide hK
    have HD:=hide hD
    clear hv hrow hB hK hD sv hpo
    go_wp2_with fail
    go_region
    go_wp2
    have hK2:W.drew.heap[D]?=some (.deferred (some [])):=HK.out
    have hdd:wr.heap.size≤D:=by have:=HD.out;simp at this;omega
    have hws:=hwr.out.size
    refine⟨by simp,.inl ⟨_,_,rfl,run_takeDeferred hK2,?_⟩⟩
    have hrow:OwnV W.drew wr.heap.size (.slice av n cv) (oth l):=by rw[← hn];exact HROW.out
    have hnul:W.drew.ownsRow w.heap.size 4 1 (.slice (some ⟨w.heap.size+1,0,none⟩) j j) j (Vb (nus l)):=owns_below hor.out HBW.out.drew
    have hrow2:OwnV W.drew w.heap.size (.slice av n cv) (oth l):=owns_base hrow fun g hg=>by have:=(owns_lt hrow hg).1;omega
    exact⟨_,results_tmp2 (t:=2) (u:=3) rfl _ _ _,.slice (some ⟨w.heap.size+1,0,none⟩) j j,.slice av n cv,rfl,ownsRow_putObj hnul _ hK2 rfl,ownsRow_putObj hrow2 _ hK2 rfl,(bthen hwr.out HBW.out).drew.trans (belowK_b (w:=wr) hws W.drew D _ _ hdd hK2 rfl rfl)⟩
   case stop =>
    rintro D c pre W _ _ h _
    exact h.elim
end Go.Proofs.YtnkpgmibhpmdhaaGreat
namespace Go.Proofs.YtnkpgmibhpmdhaaGreat.V
set_option linter.unusedVariables false
open Go.RowKit
variable {ops : Array Oper} {Q : Exit → Act → World → Prop} {tbl : List (Nat × Ent)} {w0 : World} {o : Oper}
theorem Step.loadI {t s B j:Nat} {k:IntKind} {n:Int} (hw:Wants tbl ops o) (ho:o.op=.load t (.tmp s)) (hs:get tbl s=Ent.is (.pointer (some ⟨B,j,none⟩))) (ht:Tryz.prog.underlying t=some (.int k)) (hl:B<w0.heap.size) (hB:w0.cell? ⟨B,j,none⟩=some (.int k n)) (hd:∀ d,o.dst=some d→get tbl d=Ent.is (.int k n)):Step Tryz.prog ops Q tbl w0 o:=by
 refine Step.value hw fun a w hb hk=>⟨.int k n,?_,fun d h=>by rw[hd d h];rfl⟩
 have h1:a.eval (.tmp s)=.pointer (some ⟨B,j,none⟩):=by
  have:=hk s (looks_op (by rw[ho];simp[Op.operands]))
  rwa [hs] at this
 have h2:w.cell? ⟨B,j,none⟩=some (.int k n):=by rw[hb.cell (p:=⟨B,j,none⟩) hl];exact hB
 have ha:∀ w:World,(isAgg t).run Tryz.prog w=.ok false w:=fun w=>by unfold isAgg;rw[Sem.run_bind,run_underlying ht w];rfl
 simp only[execOp,ho,h1]
 simp[go_sem,h2,ha]
theorem At.lt {w:World} {B:Nat} {k i:Int} {z:ByteArray} (h:At w B k i z):B<w.heap.size:=lt_of_block h
end Go.Proofs.YtnkpgmibhpmdhaaGreat.V
namespace Go.Proofs.YtnkpgmibhpmdhaaGreat.V
set_option linter.unusedVariables false
open Go.RowKit
variable {ops : Array Oper} {Q : Exit → Act → World → Prop} {tbl : List (Nat × Ent)} {w0 : World} {o : Oper}
theorem Step.fieldP {s g j i:Nat} (hw:Wants tbl ops o) (ho:o.op=.fieldAddr 25 (.tmp s) i) (hs:get tbl s=Ent.is (.pointer (some ⟨g,j,none⟩))) (hi:i<3) (hd:∀ d,o.dst=some d→get tbl d=Ent.is (.pointer (some ⟨g,j+i,none⟩))):Step Tryz.prog ops Q tbl w0 o:=by
 refine Step.value hw fun a w hb hk=>⟨.pointer (some ⟨g,j+i,none⟩),?_,fun d h=>by rw[hd d h];rfl⟩
 have h1:a.eval (.tmp s)=.pointer (some ⟨g,j,none⟩):=by
  have:=hk s (looks_op (by rw[ho];simp[Op.operands]))
  rwa [hs] at this
 simp only[execOp,ho,h1]
 match i,hi with
 | 0,_=>simp[go_sem]
 | 1,_=>simp[go_sem]
 | 2,_=>simp[go_sem]
theorem sub_of {t:TypeId} {x y d:Int} (h:wrap64 (x - y)=d) (w:World):(binOp .sub t (.int .i64 x) (.int .i64 y)).run Tryz.prog w=.ok (.int .i64 d) w:=by
 have e:wrap64 (x - y)=IntKind.i64.wrap (x - y):=by rw[IntKind.wrap_i64];unfold wrap64;omega
 rw[← h,e]
 simp[go_sem]
theorem wrap_in {n:Int} (h : -9223372036854775808≤n∧n≤9223372036854775807):wrap64 n=n:=IntWalk.wrap64_in n h
def Ent.slU (k:Nat) (l:List Nat):Ent:=⟨fun v w=>∃ a c,v=.slice a k c∧Sl w .u64 a k c (ints l),fun hb ⟨a,c,h1,h2⟩=>⟨a,c,h1,h2.below hb⟩⟩
theorem build_oneU (w:World) (n:Int):(Instr.buildSlice 123 1 #[(0,.int .u64 n)]).run Tryz.prog w=.ok (.slice (some ⟨w.heap.size,0,none⟩) 1 1) (w.alloc (.cells #[.int .u64 n] 49)):=by
 simp[go_sem]
theorem Step.oneU {s:Nat} {z:Nat} (hw:Wants tbl ops o) (ho:o.op=.buildSlice 123 1 #[(0,.tmp s)]) (hs:get tbl s=Ent.is (.int .u64 (z:Int))) (hd:∀ d,o.dst=some d→get tbl d=Ent.slU 1 [z]):Step Tryz.prog ops Q tbl w0 o:=by
 refine Step.run hw fun a w hb hk=>⟨.slice (some ⟨w.heap.size,0,none⟩) 1 1,w.alloc (.cells #[.int .u64 (z:Int)] 49),?_,(Below.refl _ _).alloc (Nat.le_refl _) _,fun d h=>?_⟩
 ·have h1:a.eval (.tmp s)=.int .u64 (z:Int):=by
   have:=hk s (looks_op (by rw[ho];simp[Op.operands]))
   rwa [hs] at this
  simp only[execOp,ho]
  simp[h1,build_oneU]
 ·rw[hd d h]
  exact⟨_,_,rfl,Sl.one w 49 .u64 (z:Int)⟩
end Go.Proofs.YtnkpgmibhpmdhaaGreat.V

/- Contracts and plain facts, one behind the other: V2 V5 V8 -/
import Derived.Test.YtnkpgmibhpmdhaaGreatBeAG
namespace Go.Proofs.YtnkpgmibhpmdhaaGreat.V
set_option linter.unusedVariables false
open Go.RowKit
def ent (tbl:List (Nat × Ent)):Operand→Ent
 | .tmp s=>get tbl s
 | .const v=>Ent.is v
 | _=>Ent.no
def Wants (tbl:List (Nat × Ent)) (ops:Array Oper) (o:Oper):Prop:=o.guard=none∨∃ g b t,o.guard=some (g,b)∧(ops[g]?).bind (·.dst)=some t∧get tbl t=Ent.is (.bool b)
def Skips (tbl:List (Nat × Ent)) (ops:Array Oper) (o:Oper):Prop:=(∃ g t,o.guard=some (g,true)∧(ops[g]?).bind (·.dst)=some t∧(get tbl t=Ent.is (.bool false)∨get tbl t=Ent.is undef))∨∃ g t,o.guard=some (g,false)∧(ops[g]?).bind (·.dst)=some t∧(get tbl t=Ent.is (.bool true)∨get tbl t=Ent.is undef)
theorem looks_guard {ops:Array Oper} {o:Oper} {g t:Nat} {b:Bool} (h:o.guard=some (g,b)) (ht:(ops[g]?).bind (·.dst)=some t):(o.looksAt ops).contains t=true:=by
 simp[Oper.looksAt,h,ht]
theorem looks_op {ops:Array Oper} {o:Oper} {t:Nat} (h:Operand.tmp t∈o.op.operands):(o.looksAt ops).contains t=true:=by
 simp only[Oper.looksAt,List.contains_eq_mem,List.mem_append,decide_eq_true_eq]
 exact .inl (List.mem_filterMap.2 ⟨.tmp t,by simpa using h,rfl⟩)
theorem tmps_of_eval {a:Act} {t:Nat} {b:Bool} (h:a.eval (.tmp t)=.bool b):a.tmps[t]?=some (.bool b):=by
 by_cases ht:t<a.tmps.size
 ·simp[Act.eval,Array.getD,ht] at h
  simp[ht,h]
 ·simp[Act.eval,Array.getD,ht,undef] at h
theorem Wants.wanted {tbl:List (Nat × Ent)} {ops:Array Oper} {o:Oper} (h:Wants tbl ops o) {a:Act} {w:World} (hk:∀ d,(o.looksAt ops).contains d=true→(get tbl d).p (a.eval (.tmp d)) w):Region.wanted o (yielded ops a.tmps)=true:=by
 rcases h with h|⟨g,b,t,hg,ht,he⟩
 ·simp[Region.wanted,h]
 ·have h1:=hk t (looks_guard hg ht)
  rw[he] at h1
  have h2:=tmps_of_eval h1
  simp[Region.wanted,hg,yielded,ht,h2]
theorem Skips.wanted {tbl:List (Nat × Ent)} {ops:Array Oper} {o:Oper} (h:Skips tbl ops o) {a:Act} {w:World} (hk:∀ d,(o.looksAt ops).contains d=true→(get tbl d).p (a.eval (.tmp d)) w):Region.wanted o (yielded ops a.tmps)=false:=by
 rcases h with ⟨g,t,hg,ht,he⟩|⟨g,t,hg,ht,he⟩
 all_goals
  have h1:=hk t (looks_guard hg ht)
  rcases he with he|he
  ·rw[he] at h1
   have h2:=tmps_of_eval h1
   simp[Region.wanted,hg,yielded,ht,h2]
  ·rw[he] at h1
   have h1':a.eval (.tmp t)=undef:=h1
   simp only[Region.wanted,hg,yielded,ht,Option.bind_some]
   by_cases hs:t<a.tmps.size
   ·simp[Act.eval,Array.getD,hs] at h1'
    simp[hs,h1',undef]
   ·simp[hs]
variable {P : Program} {ops : Array Oper} {Q : Exit → Act → World → Prop} {tbl : List (Nat × Ent)} {w0 : World} {o : Oper}
theorem Step.skip (hs:Skips tbl ops o) (hd:∀ d,o.dst=some d→get tbl d=Ent.is undef):Step P ops Q tbl w0 o:=by
 intro a w _ hk
 exact .inr ⟨hs.wanted hk,fun d h=>by rw[hd d h];rfl⟩
theorem Step.value (hw:Wants tbl ops o) (h:∀ (a:Act) (w:World),Below w0.heap.size w0 w→(∀ d,(o.looksAt ops).contains d=true→(get tbl d).p (a.eval (.tmp d)) w)→∃ v,(execOp a.eval o).run P w=.ok (.value v) w∧∀ d,o.dst=some d→(get tbl d).p v w):Step P ops Q tbl w0 o:=by
 intro a w hb hk
 obtain⟨v,hr,hv⟩:=h a w hb hk
 refine .inl ⟨hw.wanted hk,?_⟩
 unfold Oper.wp
 rw[hr]
 exact⟨Below.refl _ _,v,rfl,hv⟩
theorem Step.enter (hw:Wants tbl ops o) (h:∀ (a:Act) (w:World),Below w0.heap.size w0 w→(∀ d,(o.looksAt ops).contains d=true→(get tbl d).p (a.eval (.tmp d)) w)→∃ f args,(execOp a.eval o).run P w=.ok (.enter f args) w∧Calls P f args w fun e w'=>∃ v,e=.returned v∧Below w.heap.size w w'∧∀ d,o.dst=some d→(get tbl d).p v w'):Step P ops Q tbl w0 o:=by
 intro a w hb hk
 obtain⟨f,args,hr,hc⟩:=h a w hb hk
 refine .inl ⟨hw.wanted hk,?_⟩
 unfold Oper.wp
 rw[hr]
 refine Calls.mono hc ?_
 rintro e w' ⟨v,rfl,hb',hv⟩
 exact⟨hb',v,rfl,hv⟩
theorem ent_eval {x:Operand} {a:Act} {w:World} {e:Ent} (he:ent tbl x=e) (hx:x∈o.op.operands∨∃ v,x=.const v) (hk:∀ d,(o.looksAt ops).contains d=true→(get tbl d).p (a.eval (.tmp d)) w):(∃ t,x=.tmp t)∨(∃ v,x=.const v)→e.p (a.eval x) w:=by
 subst he
 rintro (⟨t,rfl⟩|⟨v,rfl⟩)
 ·rcases hx with hx|⟨v,hv⟩
  ·exact hk t (looks_op hx)
  ·cases hv
 ·rfl
theorem Step.move {x:Operand} (hw:Wants tbl ops o) (ho:o.op=.move x∨o.op=.assign x) (hx:(∃ t,x=.tmp t)∨∃ v,x=.const v) (hd:∀ d,o.dst=some d→get tbl d=ent tbl x):Step P ops Q tbl w0 o:=by
 refine Step.value hw fun a w hb hk=>⟨a.eval x,?_,fun d h=>?_⟩
 ·rcases ho with ho|ho<;>simp[execOp,ho]
 ·rw[hd d h]
  refine ent_eval rfl (.inl ?_) hk hx
  rcases ho with ho|ho<;>simp[ho,Op.operands]
theorem Step.pick {c x y:Operand} {b:Bool} (hw:Wants tbl ops o) (ho:o.op=.pick c x y) (hc:∃ t,c=.tmp t∧get tbl t=Ent.is (.bool b)) (hx:(∃ t,(if b then x else y)=.tmp t)∨∃ v,(if b then x else y)=.const v) (hd:∀ d,o.dst=some d→get tbl d=ent tbl (if b then x else y)):Step P ops Q tbl w0 o:=by
 obtain⟨t,rfl,ht⟩:=hc
 refine Step.value hw fun a w hb hk=>⟨a.eval (if b then x else y),?_,fun d h=>?_⟩
 ·have h1:=hk t (looks_op (by rw[ho];simp[Op.operands]))
  rw[ht] at h1
  have h2:a.eval (.tmp t)=.bool b:=h1
  cases b<;>simp[execOp,ho,h2,asBool]
 ·rw[hd d h]
  refine ent_eval rfl (.inl ?_) hk hx
  cases b<;>simp[ho,Op.operands]
theorem Step.same {t t2:TypeId} {x y:Operand} {v:Value} (hw:Wants tbl ops o) (ho:o.op=.binOp .eql t x y t2) (hx:(∃ t,x=.tmp t)∨∃ v,x=.const v) (hy:(∃ t,y=.tmp t)∨∃ v,y=.const v) (hex:ent tbl x=Ent.is v) (hey:ent tbl y=Ent.is v) (hg:∀ w:World,(eqGuard .eql t x y v v).run P w=.ok () w) (hr:∀ w:World,(binOp .eql t v v).run P w=.ok (.bool true) w) (hd:∀ d,o.dst=some d→get tbl d=Ent.is (.bool true)):Step P ops Q tbl w0 o:=by
 refine Step.value hw fun a w hb hk=>⟨.bool true,?_,fun d h=>by rw[hd d h];rfl⟩
 have h1:a.eval x=v:=ent_eval hex (.inl (by rw[ho];simp[Op.operands])) hk hx
 have h2:a.eval y=v:=ent_eval hey (.inl (by rw[ho];simp[Op.operands])) hk hy
 simp[execOp,ho,h1,h2,hr w,hg w]
theorem Step.bin {op:BinOp} {t t2:TypeId} {x y:Operand} {v1 v2 v:Value} (hw:Wants tbl ops o) (ho:o.op=.binOp op t x y t2) (hx:(∃ t,x=.tmp t)∨∃ v,x=.const v) (hy:(∃ t,y=.tmp t)∨∃ v,y=.const v) (hex:ent tbl x=Ent.is v1) (hey:ent tbl y=Ent.is v2) (hr:∀ w:World,(eqGuard op t x y v1 v2).run P w=.ok () w∧(binOp op t v1 v2).run P w=.ok v w) (hd:∀ d,o.dst=some d→get tbl d=Ent.is v):Step P ops Q tbl w0 o:=by
 refine Step.value hw fun a w hb hk=>⟨v,?_,fun d h=>by rw[hd d h];rfl⟩
 have h1:a.eval x=v1:=ent_eval hex (.inl (by rw[ho];simp[Op.operands])) hk hx
 have h2:a.eval y=v2:=ent_eval hey (.inl (by rw[ho];simp[Op.operands])) hk hy
 simp[execOp,ho,h1,h2,(hr w).1,(hr w).2]
theorem Step.call1 {f:FuncId} {s:Nat} {ats:Array TypeId} {v:Value} {fn:Func} {c:Code} (hw:Wants tbl ops o) (ho:o.op=.call { callee:=.value (.func f),args:=#[.tmp s],argTypes:=ats }) (hs:get tbl s=Ent.is v)
  (hf:P.funcs[f]?=some fn) (hname:(fn.name=="runtime.NumGoroutine")=false) (hb:fn.body=some c)
  (h:∀ w:World,Below w0.heap.size w0 w→Calls P f #[v] w fun e w'=>∃ v',e=.returned v'∧Below w.heap.size w w'∧∀ d,o.dst=some d→(get tbl d).p v' w'):Step P ops Q tbl w0 o:=by
 refine Step.enter hw fun a w hb' hk=>⟨f,#[v],?_,h w hb'⟩
 have h1:=hk s (looks_op (by rw[ho];simp[Op.operands,Call.operands]))
 rw[hs] at h1
 have h2:a.eval (.tmp s)=v:=h1
 obtain⟨dst,op,type,pos,after,guard⟩:=o
 obtain rfl:op=_:=ho
 have h3:fn.name≠"runtime.NumGoroutine":=by simpa using hname
 simp[execOp_call_go,callFunc,hf,h3,hb,h2]
theorem Step.head {s i k len cap:Nat} {a0:Option Addr} (hw:Wants tbl ops o) (ho:o.op=.slice 22 (.tmp s) none (some (.tmp i)) none) (hs:get tbl s=Ent.is (.slice a0 len cap)) (hi:get tbl i=Ent.is (.int .i64 (k:Int))) (hk:k≤cap) (hd:∀ d,o.dst=some d→get tbl d=Ent.is (.slice a0 k cap)):Step Tryz.prog ops Q tbl w0 o:=by
 refine Step.value hw fun a w hb hk=>⟨.slice a0 k cap,?_,fun d h=>by rw[hd d h];rfl⟩
 have h1:a.eval (.tmp s)=.slice a0 len cap:=by
  have:=hk s (looks_op (by rw[ho];simp[Op.operands]))
  rwa [hs] at this
 have h2:a.eval (.tmp i)=.int .i64 (k:Int):=by
  have:=hk i (looks_op (by rw[ho];simp[Op.operands]))
  rwa [hi] at this
 have h3:(k:Int)≤(cap:Int):=by omega
 simp only[execOp,ho,h1,h2,Option.map_some,Option.map_none]
 simp[go_sem,h3]
theorem Step.conv {t1 t2:TypeId} {s:Nat} {v1 v:Value} (hw:Wants tbl ops o) (ho:o.op=.convert t1 t2 (.tmp s)) (hs:get tbl s=Ent.is v1) (hr:∀ w:World,(convert t1 t2 v1).run P w=.ok v w) (hd:∀ d,o.dst=some d→get tbl d=Ent.is v):Step P ops Q tbl w0 o:=by
 refine Step.value hw fun a w hb hk=>⟨v,?_,fun d h=>by rw[hd d h];rfl⟩
 have h1:a.eval (.tmp s)=v1:=by
  have:=hk s (looks_op (by rw[ho];simp[Op.operands]))
  rwa [hs] at this
 simp[execOp,ho,h1,hr w]
theorem slot_of {a:Act} {d:Nat} {v:Value} (h:a.eval (.tmp d)=v):a.tmps[d]?.getD undef=v:=by
 rw[← h];simp[Act.eval]
end Go.Proofs.YtnkpgmibhpmdhaaGreat.V
namespace Go.Proofs.YtnkpgmibhpmdhaaGreat.V
set_option linter.unusedVariables false
open Go.RowKit
variable {P : Program} {ops : Array Oper} {Q : Exit → Act → World → Prop} {tbl : List (Nat × Ent)} {w0 : World} {o : Oper}
theorem Step.run (hw:Wants tbl ops o) (h:∀ (a:Act) (w:World),Below w0.heap.size w0 w→(∀ d,(o.looksAt ops).contains d=true→(get tbl d).p (a.eval (.tmp d)) w)→∃ v w',(execOp a.eval o).run P w=.ok (.value v) w'∧Below w.heap.size w w'∧∀ d,o.dst=some d→(get tbl d).p v w'):Step P ops Q tbl w0 o:=by
 intro a w hb hk
 obtain⟨v,w',hr,hb',hv⟩:=h a w hb hk
 refine .inl ⟨hw.wanted hk,?_⟩
 unfold Oper.wp
 rw[hr]
 exact⟨hb',v,rfl,hv⟩
theorem Step.len {s k:Nat} (hw:Wants tbl ops o) (ho:o.op=.call { callee:=.builtin .len,args:=#[.tmp s],argTypes:=#[22] }) (hs:∀ v w,(get tbl s).p v w→∃ a c,v=.slice a k c) (hd:∀ d,o.dst=some d→get tbl d=Ent.is (.int .i64 (k:Int))):Step Tryz.prog ops Q tbl w0 o:=by
 refine Step.value hw fun a w hb hk=>⟨.int .i64 (k:Int),?_,fun d h=>by rw[hd d h];rfl⟩
 obtain⟨a1,c1,h2⟩:=hs _ _ (hk s (looks_op (by rw[ho];simp[Op.operands,Call.operands])))
 obtain⟨dst,op,type,pos,after,guard⟩:=o
 obtain rfl:op=_:=ho
 have h3:=slot_of h2
 simp[h3,go_sem,Builtin.len_]
theorem Step.callR {f:FuncId} {s:Nat} {ats:Array TypeId} {fn:Func} {c:Code} (hw:Wants tbl ops o) (ho:o.op=.call { callee:=.value (.func f),args:=#[.tmp s],argTypes:=ats })
  (hf:P.funcs[f]?=some fn) (hname:(fn.name=="runtime.NumGoroutine")=false) (hb:fn.body=some c)
  (h:∀ (w:World) (v:Value),Below w0.heap.size w0 w→(get tbl s).p v w→Calls P f #[v] w fun e w'=>∃ v',e=.returned v'∧Below w.heap.size w w'∧∀ d,o.dst=some d→(get tbl d).p v' w'):Step P ops Q tbl w0 o:=by
 refine Step.enter hw fun a w hb' hk=>⟨f,#[a.eval (.tmp s)],?_,h w _ hb' (hk s (looks_op (by rw[ho];simp[Op.operands,Call.operands])))⟩
 obtain⟨dst,op,type,pos,after,guard⟩:=o
 obtain rfl:op=_:=ho
 have h3:fn.name≠"runtime.NumGoroutine":=by simpa using hname
 simp[execOp_call_go,callFunc,hf,h3,hb]
theorem Step.callR2 {f:FuncId} {s s2:Nat} {ats:Array TypeId} {fn:Func} {c:Code} (hw:Wants tbl ops o) (ho:o.op=.call { callee:=.value (.func f),args:=#[.tmp s,.tmp s2],argTypes:=ats })
  (hf:P.funcs[f]?=some fn) (hname:(fn.name=="runtime.NumGoroutine")=false) (hb:fn.body=some c)
  (h:∀ (w:World) (v v2:Value),Below w0.heap.size w0 w→(get tbl s).p v w→(get tbl s2).p v2 w→Calls P f #[v,v2] w fun e w'=>∃ v',e=.returned v'∧Below w.heap.size w w'∧∀ d,o.dst=some d→(get tbl d).p v' w'):Step P ops Q tbl w0 o:=by
 refine Step.enter hw fun a w hb' hk=>⟨f,#[a.eval (.tmp s),a.eval (.tmp s2)],?_,h w _ _ hb' (hk s (looks_op (by rw[ho];simp[Op.operands,Call.operands]))) (hk s2 (looks_op (by rw[ho];simp[Op.operands,Call.operands])))⟩
 obtain⟨dst,op,type,pos,after,guard⟩:=o
 obtain rfl:op=_:=ho
 have h3:fn.name≠"runtime.NumGoroutine":=by simpa using hname
 simp[execOp_call_go,callFunc,hf,h3,hb]
theorem Step.call0 {f:FuncId} {ats:Array TypeId} {fn:Func} {c:Code} (hw:Wants tbl ops o) (ho:o.op=.call { callee:=.value (.func f),args:=#[],argTypes:=ats })
  (hf:P.funcs[f]?=some fn) (hname:(fn.name=="runtime.NumGoroutine")=false) (hb:fn.body=some c)
  (h:∀ (w:World),Below w0.heap.size w0 w→Calls P f #[] w fun e w'=>∃ v',e=.returned v'∧Below w.heap.size w w'∧∀ d,o.dst=some d→(get tbl d).p v' w'):Step P ops Q tbl w0 o:=by
 refine Step.enter hw fun a w hb' hk=>⟨f,#[],?_,h w hb'⟩
 obtain⟨dst,op,type,pos,after,guard⟩:=o
 obtain rfl:op=_:=ho
 have h3:fn.name≠"runtime.NumGoroutine":=by simpa using hname
 simp[execOp_call_go,callFunc,hf,h3,hb]
theorem Step.arr4 {s B:Nat} (hw:Wants tbl ops o) (ho:o.op=.slice 81 (.tmp s) none none none) (hs:get tbl s=Ent.is (.pointer (some ⟨B,0,none⟩))) (hd:∀ d,o.dst=some d→get tbl d=Ent.is (.slice (some ⟨B,0,none⟩) 4 4)):Step Tryz.prog ops Q tbl w0 o:=by
 refine Step.value hw fun a w hb hk=>⟨.slice (some ⟨B,0,none⟩) 4 4,?_,fun d h=>by rw[hd d h];rfl⟩
 have h1:a.eval (.tmp s)=.pointer (some ⟨B,0,none⟩):=by
  have:=hk s (looks_op (by rw[ho];simp[Op.operands]))
  rwa [hs] at this
 simp only[execOp,ho,h1,Option.map_none]
 simp[go_sem]
theorem run_build3 (w:World) (a1 a2 a3:Option Addr) (l1 l2 l3 c1 c2 c3:Nat):(Instr.buildSlice 121 3 #[(0,.slice a1 l1 c1),(1,.slice a2 l2 c2),(2,.slice a3 l3 c3)]).run Tryz.prog w=.ok (.slice (some ⟨w.heap.size,0,none⟩) 3 3) (w.alloc (.cells #[.slice a1 l1 c1,.slice a2 l2 c2,.slice a3 l3 c3] 22)):=by
 simp[go_sem]
theorem wp_of_list {P:Program} {ops:Array Oper} {o:Oper} {a:Act} {w:World} {K:Act→World→Prop} {Q:Exit→Act→World→Prop} (hg:o.guard=none) (h:wpList P ops (fun e a w=>e=.normal∧K a w) [o] a w):o.wp P a w K Q:=by
 unfold wpList at h
 have hw:Region.wanted o (yielded ops a.tmps)=true:=by simp[Region.wanted,hg]
 rw[hw] at h
 simp only[if_true] at h
 rcases h with h|⟨_,a',w',he,_⟩
 ·unfold Oper.wp at *
  generalize (execOp a.eval o).run P w=r at *
  cases r with
  |ok n w' =>
   cases n<;>simp only[Oper.upon,wpList] at h ⊢<;>first
    |exact h.2
    |exact Rows.mono h fun _ _ he=>he.2
    |exact Calls.mono h fun e w'' he=>by
      cases e with
      |returned v=>exact he.2
      |panicked c=>exact absurd he.1 (by simp)
      |outgrown=>obtain⟨_,_,he,_⟩:=he;exact absurd he (by simp)
  |halt x w' =>
   cases x<;>simp only[Oper.upon] at h ⊢
   exact absurd h.1 (by simp)
 ·exact absurd he (by simp)
end Go.Proofs.YtnkpgmibhpmdhaaGreat.V
namespace Go.Proofs.YtnkpgmibhpmdhaaGreat.V
set_option linter.unusedVariables false
open Go.RowKit
variable {P : Program}
def lastWaits (pre:List Oper) (s:Oper):Bool:=s.dst==none&&(List.range pre.length).all fun i=>s.after.toList.any fun e=>Region.binds .any e&&e.on==i
theorem wpAny_all {ops:Array Oper} {Q:Exit→Act→World→Prop} {listed:Array Bool} {a:Act} {w:World} (h:∀ i,i<ops.size→listed.getD i false=true) (hq:Q .normal a w):∀ fuel,wpAny P .any ops Q fuel listed a w:=by
 have hr:Region.ready .any ops listed=[]:=by
  apply List.filter_eq_nil_iff.2
  intro i hi
  have hi':i<ops.size:=by simpa using hi
  have h1:=h i hi'
  have h2:listed.getD i true=true:=by
   simp only[Array.getD] at h1 ⊢
   split at h1<;>simp_all
  simp[h2]
 intro fuel
 cases fuel with
 | zero=>exact⟨hr,hq⟩
 | succ fuel =>
  refine⟨fun _=>hq,fun i hi=>?_⟩
  rw[hr] at hi
  simp at hi
theorem wpAny_last {pre:List Oper} {s:Oper} {ops:Array Oper} (hops:ops=(pre++[s]).toArray) {bs:List Nat} {tbl:List (Nat × Ent)} {w0:World} {a0:Act} {Q:Exit→Act→World→Prop} (hok:ok bs ops a0.tmps.size=true) (hlast:lastWaits pre s=true) (hs:Steps P ops Q tbl w0 pre)
  (hd:∀ a w,Below w0.heap.size w0 w→a.defers=a0.defers→a.tmps.size=a0.tmps.size→(∀ d,V.base ops d=true→a.eval (.tmp d)=a0.eval (.tmp d))→(∀ (i:Nat) (o:Oper) (d:Nat),ops[i]?=some o→o.dst=some d→(V.get tbl d).p (a.eval (.tmp d)) w)→Region.wanted s (yielded ops a.tmps)=true∧s.wp P a w (fun a' w'=>Q .normal a' w') Q) :
  ∀ (fuel:Nat) (listed:Array Bool) (a:Act) (w:World),Inv ops bs tbl w0 a0 listed a w→listed.getD pre.length false=false→listed.toList.count false≤fuel→wpAny P .any ops Q fuel listed a w:=by
 have hok':=hok
 simp only[ok,Bool.and_eq_true] at hok'
 obtain⟨⟨hnd,hl⟩,hbase⟩:=hok'
 have hsz:ops.size=pre.length+1:=by rw[hops];simp
 have hsl:ops[pre.length]?=some s:=by rw[hops];simp
 simp only[lastWaits,Bool.and_eq_true,beq_iff_eq] at hlast
 obtain⟨hsd,hlast⟩:=hlast
 intro fuel
 induction fuel with
 | zero =>
  intro listed a w hI hn hc
  exfalso
  have hlt:pre.length<listed.size:=by rw[hI.sz,hsz];omega
  have h1:listed[pre.length]=false:=by simpa [Array.getD,hlt] using hn
  have:false∈listed.toList:=by rw[← h1];simp
  have:=List.count_pos_iff.2 this
  omega
 | succ fuel ih =>
  intro listed a w hI hn hc
  have hlt:pre.length<listed.size:=by rw[hI.sz,hsz];omega
  refine⟨fun hr=>?_,fun i hi=>?_⟩
  ·exfalso
   have:=all_listed hl hI.sz hr pre.length (by rw[hsz];omega)
   rw[this] at hn
   exact absurd hn (by simp)
  ·obtain⟨o,ho,hi1,hi2,hi3⟩:=ready_get hi
   have hil:i<listed.size:=by rw[hI.sz];exact hi1
   by_cases hip:i=pre.length
   ·-- the last one: all others are listed
    subst hip
    rw[hsl] at ho
    obtain rfl:=Option.some.inj ho
    have hall:∀ j,j<pre.length→listed.getD j false=true:=by
     intro j hj
     have h1:=List.all_eq_true.1 hlast j (by simpa using hj)
     obtain⟨e,he,h2⟩:=List.any_eq_true.1 h1
     simp only[Bool.and_eq_true,beq_iff_eq] at h2
     have h3:=hi3 e (by simpa using he) h2.1
     rw[h2.2] at h3
     exact h3
    have hfacts:=hd a w hI.bel hI.defers hI.tsize hI.others (fun j p d hp hpd=>by
     by_cases hj:j<pre.length
     ·exact hI.known j p d hp (hall j hj) hpd
     ·have hj2:j=pre.length:=by
       rcases Nat.lt_or_ge j ops.size with h|h
       ·omega
       ·simp[h] at hp
      subst hj2
      rw[hsl] at hp
      obtain rfl:=Option.some.inj hp
      rw[hsd] at hpd
      cases hpd)
    unfold wpOp
    rw[hsl]
    simp only[hfacts.1,if_true]
    refine .inl (Oper.wp_mono (fun a' w' h=>?_) hfacts.2)
    refine wpAny_all (fun j hj=>?_) h fuel
    by_cases hjp:j=pre.length
    ·subst hjp;simp[Array.getD,hlt]
    ·have h1:=hall j (by omega)
     simpa [Array.getD_eq_getD_getElem?,Array.getElem?_setIfInBounds_ne (fun e=>hjp e.symm)] using h1
   ·have hcnt:(listed.setIfInBounds i true).toList.count false≤fuel:=by
     have hf:listed[i]=false:=by simpa [Array.getD,hil] using hi2
     have h1:(listed.setIfInBounds i true).toList=listed.toList.set i true:=by simp
     have h2:=List.count_set (a:=true) (b:=false) (l:=listed.toList) (i:=i) (h:=by simpa using hil)
     rw[h1,h2]
     simp[hf]
     have:false∈listed.toList:=by rw[← hf];simp
     have:=List.count_pos_iff.2 this
     simp at this hc
     omega
    have hoi:ops.toList[i]?=some o:=by simpa using ho
    have hpi:pre[i]?=some o:=by
     rw[hops] at ho
     simp only[List.getElem?_toArray] at ho
     rwa [List.getElem?_append_left (by omega)] at ho
    have hoo:=okL_get hl hoi
    simp only[okO,Bool.and_eq_true] at hoo
    have hk:∀ d,(o.looksAt ops).contains d=true→(V.get tbl d).p (a.eval (.tmp d)) w:=by
     intro d hd
     have h1:=List.all_eq_true.1 hoo.1.1 d (by simpa using hd)
     simp only[Bool.or_eq_true,Bool.and_eq_true] at h1
     rcases h1 with ⟨h1,_⟩|h1
     ·exact hI.bases d (by simpa using h1)
     ·simp only[edge,List.any_eq_true,Bool.and_eq_true,beq_iff_eq] at h1
      obtain⟨e,he,hbd,hx⟩:=h1
      cases hp:ops[e.on]? with
      | none=>rw[hp] at hx;simp at hx
      | some p =>
       rw[hp] at hx
       exact hI.known _ p d hp (hi3 e (by simpa using he) hbd) hx
    have hn':(listed.setIfInBounds i true).getD pre.length false=false:=by
     simpa [Array.getD_eq_getD_getElem?,Array.getElem?_setIfInBounds_ne hip] using hn
    unfold wpOp
    rw[ho]
    rcases hs.get hpi a w hI.bel hk with ⟨hw,hwp⟩|⟨hw,hv⟩
    ·simp only[hw,if_true]
     refine .inl (Oper.wp_mono (fun a' w' h=>?_) hwp)
     obtain⟨hb,v,rfl,hv⟩:=h
     exact ih _ _ _ (hI.step hok ho hb hv) hn' hcnt
    ·simp only[hw]
     exact ih _ _ _ (hI.step hok ho (Below.refl _ _) hv) hn' hcnt
theorem wp_region_st {id:Nat} {pre:List Oper} {s:Oper} {Q:Exit→Act→World→Prop} {a:Act} {w w0:World} (ds bs:List Nat) (tbl:List (Nat × Ent)) (hds:pre.filterMap (·.dst)=ds) (hm:P.follows .mixedOrders=true) (hok:ok bs (pre++[s]).toArray a.tmps.size=true) (hlast:lastWaits pre s=true) (hg:s.guard=none) (hw:Below w0.heap.size w0 w) (hb:∀ d,d∈bs→(V.get tbl d).p (a.eval (.tmp d)) w.drew) (hs:Steps P (pre++[s]).toArray Q tbl w0 pre)
  (hd:∀ (vs:Nat→Value) w',Below w0.heap.size w0 w'→(∀ (i:Nat) (o:Oper) (d:Nat),pre[i]?=some o→o.dst=some d→(V.get tbl d).p (vs d) w')→s.wp P (puts a ds vs) w' (fun a' w''=>Q .normal a' w'') Q):(Code.region id (pre++[s]).toArray true).wp P Q a w:=by
 have hsd:s.dst=none:=by
  simp only[lastWaits,Bool.and_eq_true,beq_iff_eq] at hlast
  exact hlast.1
 refine wp_region_any hm ?_
 refine wpAny_last (pre:=pre) (s:=s) rfl (bs:=bs) (tbl:=tbl) (w0:=w0) (a0:=a) hok hlast hs (fun a' w' h1 h2 h4 h5 h3=>⟨by simp[Region.wanted,hg],?_⟩) _ _ _ _ ?_ ?_ ?_
 ·have e:a'=puts a ds (fun d=>a'.eval (.tmp d)):=by
   obtain⟨p1,p2,p3⟩:=puts_get (fun d=>a'.eval (.tmp d)) ds a
   refine act_ext (Array.ext_getElem? fun d=>?_) (by rw[h2,p1])
   rw[p3 d]
   by_cases hl:d<a.tmps.size
   ·rw[eval_get (by rw[h4];exact hl),eval_get hl]
    by_cases hd:d∈ds
    ·rw[if_pos ⟨hd,hl⟩]
    ·rw[if_neg (fun h=>hd h.1),h5 d]
     simp only[base,List.all_eq_true]
     intro o ho
     have:d ∉ pre.filterMap (·.dst):=by rw[hds];exact hd
     simp only[List.mem_filterMap,not_exists,not_and] at this
     simp only[List.mem_append,List.mem_singleton] at ho
     rcases ho with ho|rfl
     ·simpa using this o ho
     ·simp[hsd]
   ·rw[if_neg (fun h=>hl h.2),Array.getElem?_eq_none (by omega),Array.getElem?_eq_none (by omega)]
  have:=hd (fun d=>a'.eval (.tmp d)) w' h1 fun i o d ho=>h3 i o d (by
   have hi:=(List.getElem?_eq_some_iff.1 ho).1
   simp only[List.getElem?_toArray]
   rw[List.getElem?_append_left hi];exact ho)
  rw[← e] at this
  exact this
 ·exact⟨by simp,hw.drew,rfl,rfl,hb,fun _ _=>rfl,fun i o d _ h=>by simp[Array.getD] at h⟩
 ·simp[Array.getD]
 ·simp
theorem wp_region_st2 {id:Nat} {l:List Oper} {s:Oper} {Q:Exit→Act→World→Prop} {a:Act} {w w0:World} (ds bs:List Nat) (tbl:List (Nat × Ent)) (hsl:l.getLast?=some s) (hds:l.dropLast.filterMap (·.dst)=ds) (hm:P.follows .mixedOrders=true) (hok:ok bs l.toArray a.tmps.size=true) (hlast:lastWaits l.dropLast s=true) (hg:s.guard=none) (hw:Below w0.heap.size w0 w) (hb:∀ d,d∈bs→(V.get tbl d).p (a.eval (.tmp d)) w.drew) (hs:Steps P l.toArray Q tbl w0 l.dropLast)
  (hd:∀ (vs:Nat→Value) w',Below w0.heap.size w0 w'→(∀ (i:Nat) (o:Oper) (d:Nat),l.dropLast[i]?=some o→o.dst=some d→(V.get tbl d).p (vs d) w')→s.wp P (puts a ds vs) w' (fun a' w''=>Q .normal a' w'') Q):(Code.region id l.toArray true).wp P Q a w:=by
 have hl:l=l.dropLast++[s]:=by
  have hne:l≠[]:=by rintro rfl;simp at hsl
  rw[List.getLast?_eq_some_getLast hne] at hsl
  rw[← Option.some.inj hsl,List.dropLast_concat_getLast]
 have key:=wp_region_st (P:=P) (id:=id) (pre:=l.dropLast) (s:=s) (Q:=Q) (a:=a) (w:=w) (w0:=w0) ds bs tbl hds hm (by rw[← hl];exact hok) hlast hg hw hb (by rw[← hl];exact hs) hd
 rwa [← hl] at key
theorem wp_store_u8 {o:Oper} {a:Act} {w:World} {K:Act→World→Prop} {Q:Exit→Act→World→Prop} (x y:Operand) (ho:o.op=.store 5 x y) (g i:Nat) (n m:Int) (hx:a.eval x=.pointer (some ⟨g,i,none⟩)) (hy:a.eval y=.int .u8 n) (hc:w.cell? ⟨g,i,none⟩=some (.int .u8 m)) (hf:w.frozen? ⟨g,i,none⟩=false) (hd:o.dst=none)
  (h:K a (w.setCell ⟨g,i,none⟩ (.int .u8 n))):o.wp Tryz.prog a w K Q:=by
 unfold Oper.wp execOp
 simp only[ho,hx,hy]
 simp[go_sem,hc,hf,hd,Act.put]
 exact h
theorem puts_eval {a:Act} {ds:List Nat} {vs:Nat→Value} {d:Nat} (h:d∈ds) (hl:d<a.tmps.size):(puts a ds vs).eval (.tmp d)=vs d:=by
 obtain⟨_,p2,p3⟩:=puts_get vs ds a
 have:=p3 d
 rw[if_pos ⟨h,hl⟩] at this
 simp[Act.eval,this]
theorem wp_region_byte {id:Nat} {l:List Oper} {s:Oper} {Q:Exit→Act→World→Prop} {a:Act} {w w0:World} (ds bs:List Nat) (tbl:List (Nat × Ent)) (p q g i:Nat) (n m:Int) (hsl:l.getLast?=some s) (hds:l.dropLast.filterMap (·.dst)=ds) (hm:Tryz.prog.follows .mixedOrders=true) (hok:ok bs l.toArray a.tmps.size=true) (hlast:lastWaits l.dropLast s=true) (hg:s.guard=none) (ho:s.op=.store 5 (.tmp p) (.tmp q))
  (hpq:(ds.contains p&&ds.contains q&&decide (p<a.tmps.size)&&decide (q<a.tmps.size))=true) (hp:get tbl p=Ent.is (.pointer (some ⟨g,i,none⟩))) (hq:get tbl q=Ent.is (.int .u8 n)) (hgs:g<w0.heap.size) (hc:w0.cell? ⟨g,i,none⟩=some (.int .u8 m)) (hf:w0.frozen? ⟨g,i,none⟩=false)
  (hw:Below w0.heap.size w0 w) (hb:∀ d,d∈bs→(V.get tbl d).p (a.eval (.tmp d)) w.drew) (hs:Steps Tryz.prog l.toArray Q tbl w0 l.dropLast)
  (hd:∀ (vs:Nat→Value) w',Below w0.heap.size w0 w'→(∀ (i:Nat) (o:Oper) (d:Nat),l.dropLast[i]?=some o→o.dst=some d→(V.get tbl d).p (vs d) w')→Q .normal (puts a ds vs) (w'.setCell ⟨g,i,none⟩ (.int .u8 n))):(Code.region id l.toArray true).wp Tryz.prog Q a w:=by
 refine wp_region_st2 ds bs tbl hsl hds hm hok hlast hg hw hb hs fun vs w' hbw hk=>?_
 simp only[Bool.and_eq_true,decide_eq_true_eq,List.contains_eq_mem] at hpq
 obtain⟨⟨⟨m1,m2⟩,m3⟩,m4⟩:=hpq
 have look:∀ d,d∈ds→(V.get tbl d).p (vs d) w':=by
  intro d hd
  rw[← hds] at hd
  obtain⟨o,ho1,ho2⟩:=List.mem_filterMap.1 hd
  obtain⟨j,hj⟩:=List.getElem?_of_mem ho1
  exact hk j o d hj ho2
 have e1:=look p m1
 have e2:=look q m2
 rw[hp] at e1
 rw[hq] at e2
 have hsd:s.dst=none:=by
  simp only[lastWaits,Bool.and_eq_true,beq_iff_eq] at hlast
  exact hlast.1
 refine wp_store_u8 (.tmp p) (.tmp q) ho g i n m ?_ ?_ ?_ ?_ hsd (hd vs w' hbw hk)
 ·rw[puts_eval m1 m3];exact e1
 ·rw[puts_eval m2 m4];exact e2
 ·rw[hbw.cell (p:=⟨g,i,none⟩) hgs];exact hc
 ·have:=hbw.block g hgs
  unfold World.frozen? at hf ⊢
  rw[this];exact hf
end Go.Proofs.YtnkpgmibhpmdhaaGreat.V

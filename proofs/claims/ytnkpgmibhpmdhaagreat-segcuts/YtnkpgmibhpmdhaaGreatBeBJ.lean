/- Contracts and plain facts, one behind the other: V17 V15 V18 MO -/
import Derived.Test.YtnkpgmibhpmdhaaGreatBeBI
namespace Go.Proofs.YtnkpgmibhpmdhaaGreat.V
set_option linter.unusedVariables false
set_option maxRecDepth 10000
open Go.RowKit
variable {ops : Array Oper} {Q : Exit → Act → World → Prop} {tbl : List (Nat × Ent)} {w0 : World} {o : Oper}
theorem Step.fieldG {t s i:Nat} {p q:Value} (hw:Wants tbl ops o) (ho:o.op=.fieldAddr t (.tmp s) i) (hs:get tbl s=Ent.is p) (hr:∀ w,(Instr.fieldAt t p i).run Tryz.prog w=.ok q w) (hd:∀ d,o.dst=some d→get tbl d=Ent.is q):Step Tryz.prog ops Q tbl w0 o:=by
 refine Step.value hw fun a w hb hk=>⟨q,?_,fun d h=>by rw[hd d h];rfl⟩
 have h1:a.eval (.tmp s)=p:=by
  have:=hk s (looks_op (by rw[ho];simp[Op.operands]))
  rwa [hs] at this
 simp only[execOp,ho,h1]
 simp[hr,Result.andThen]
theorem Step.ldS {t s g i:Nat} {v:Value} (hw:Wants tbl ops o) (ho:o.op=.load t (.tmp s)) (hs:get tbl s=Ent.is (.pointer (some ⟨g,i,none⟩))) (ha:∀ w,(isAgg t).run Tryz.prog w=.ok false w) (hv:∃ a n c,v=.slice a n c) (hg:g<w0.heap.size) (hc:w0.cell? ⟨g,i,none⟩=some v) (hd:∀ d,o.dst=some d→get tbl d=Ent.is v):Step Tryz.prog ops Q tbl w0 o:=by
 refine Step.value hw fun a w hb hk=>⟨v,?_,fun d h=>by rw[hd d h];rfl⟩
 have e1:a.eval (.tmp s)=.pointer (some ⟨g,i,none⟩):=by
  have:=hk s (looks_op (by rw[ho];simp[Op.operands]))
  rwa [hs] at this
 have hc2:w.cell? ⟨g,i,none⟩=some v:=by rw[hb.cell (p:=⟨g,i,none⟩) hg];exact hc
 simp only[execOp,ho,e1]
 obtain⟨b,n,c,rfl⟩:=hv
 simp[go_sem,hc2,ha]
theorem isAgg_of {t:TypeId} {d:TypeDesc} (h:Tryz.prog.underlying t=some d) (hd:(match d with|.struct _|.array _ _=>true|_=>false)=false) (w:World):(isAgg t).run Tryz.prog w=.ok false w:=by
 unfold isAgg
 rw[Sem.run_bind,run_underlying h w]
 cases d<;>first|rfl|(simp at hd)
end Go.Proofs.YtnkpgmibhpmdhaaGreat.V
namespace Go.Proofs.YtnkpgmibhpmdhaaGreat.V
set_option linter.unusedVariables false
open Go.RowKit
def Ent.own (B:Nat) (l:List Nat):Ent:=⟨fun v w=>w.ownsRow B 5 1 v l.length (B8 l),fun hb h=>owns_of_block h fun g hg=>hb.block g (owns_lt h hg).2⟩
def Ent.cell (B:Nat) (k i:Int) (s:ByteArray):Ent:=⟨fun v w=>∃ b,v=.pointer (some ⟨b,0,none⟩)∧B≤b∧At w b k i s,fun hb ⟨b,h1,h2,h3⟩=>⟨b,h1,h2,h3.below hb⟩⟩
def Safe (B:Nat) (e:Ent):Prop:=∀ (v:Value) (w w':World) (u:Value) (l:List Nat),w.ownsRow B 5 1 u l.length (B8 l)→Kept (fun k=>u.ownBlock=some k) w w'→e.p v w→e.p v w'
theorem Safe.is (B:Nat) (x:Value):Safe B (Ent.is x):=fun _ _ _ _ _ _ _ h=>h
theorem Safe.cell (B:Nat) (k i:Int) (s:ByteArray):Safe B (Ent.cell B k i s):=by
 rintro v w w' u l ho hk ⟨b,h1,h2,h3⟩
 refine⟨b,h1,h2,?_⟩
 unfold At at *
 rw[hk.block b (lt_of_block h3) (owns_ne_block ho h3 (by decide))]
 exact h3
theorem Touch.app {ops:Array Oper} {Q:Exit→Act→World→Prop} {tbl:List (Nat × Ent)} {bs al:List Nat} {w0:World} {X:Act→World→Prop} {jx j:Nat} {o:Oper} {s x:Nat} {l news:List Nat} {ao:Option Addr} {m c:Nat} (hg:o.guard=none) (ho:o.op=.call { callee:=.builtin .append,args:=#[.tmp s,.tmp x],argTypes:=#[22,22] })
  (hs:get tbl s=Ent.own w0.heap.size l) (hx:get tbl x=Ent.is (.slice ao m c)) (hsl:Sl w0 .u8 ao m c (ints news)) (hlim:l.length+m≤140737488355328) (hd:∀ d,o.dst=some d→get tbl d=Ent.own w0.heap.size (l++news)) (hj:j≠jx) (hfr:∀ d,d∈bs∨d∈al→Safe w0.heap.size (get tbl d)) :
  Touch Tryz.prog ops Q tbl bs al w0 X jx j o:=by
 intro a w hb hk
 have h1:w.ownsRow w0.heap.size 5 1 (a.eval (.tmp s)) l.length (B8 l):=by
  have:=hk s (looks_op (by rw[ho];simp[Op.operands,Call.operands]))
  rwa [hs] at this
 have h2:a.eval (.tmp x)=.slice ao m c:=by
  have:=hk x (looks_op (by rw[ho];simp[Op.operands,Call.operands]))
  rwa [hx] at this
 refine⟨hg,wp_of_list (ops:=ops) hg (wpList_app hg (.tmp s) (.tmp x) ho w0.heap.size _ l rfl h1 ao m c news h2 (hsl.below hb) hlim hb.size (l++news) rfl ?_)⟩
 intro v' w' ho' has
 refine⟨rfl,has.below hb.size (fun k hk=>(owns_lt h1 hk).1),⟨v',rfl,fun d hdd=>by rw[hd d hdd];exact ho'⟩,fun d hdd v hp=>hfr d hdd v w w' _ l h1 has.1 hp,fun h=>absurd h hj⟩
theorem Step.empty {ops:Array Oper} {Q:Exit→Act→World→Prop} {tbl:List (Nat × Ent)} {w0:World} {o:Oper} (hw:Wants tbl ops o) (ho:o.op=.buildSlice 22 0 #[]) (hd:∀ d,o.dst=some d→get tbl d=Ent.own w0.heap.size []):Step Tryz.prog ops Q tbl w0 o:=by
 refine Step.run hw fun a w hb hk=>⟨.slice (some ⟨w.heap.size,0,none⟩) 0 0,w.alloc (.cells #[] 5),?_,(Below.refl _ _).alloc (Nat.le_refl _) _,fun d h=>?_⟩
 ·simp only[execOp,ho]
  simp[go_sem]
 ·rw[hd d h]
  exact owns_base (owns_none w) fun g hg=>by have:=(owns_lt (owns_none w) hg).1;have:=hb.size;omega
theorem Step.cell {ops:Array Oper} {Q:Exit→Act→World→Prop} {tbl:List (Nat × Ent)} {w0:World} {o:Oper} (hw:Wants tbl ops o) (ho:o.op=.alloc 25) (hd:∀ d,o.dst=some d→get tbl d=Ent.cell w0.heap.size 0 0 ⟨#[]⟩):Step Tryz.prog ops Q tbl w0 o:=by
 refine Step.run hw fun a w hb hk=>⟨.pointer (some ⟨w.heap.size,0,none⟩),w.alloc (.cells #[.int .i64 0,.int .i64 0,.string ⟨#[]⟩] 25),?_,(Below.refl _ _).alloc (Nat.le_refl _) _,fun d h=>?_⟩
 ·simp only[execOp,ho]
  simp[go_sem]
 ·rw[hd d h]
  exact⟨_,rfl,hb.size,At.new w 0 0 ⟨#[]⟩⟩
def SafeV (e:Ent):Prop:=∀ (v:Value) (w:World) (b:Nat) (k i k' i':Int) (s s':ByteArray),At w b k i s→e.p v w→e.p v (putV w b k' i' s')
theorem SafeV.sl (k:Nat) (l:List Nat):SafeV (Ent.sl k l):=by
 rintro v w b k i k' i' s s' hA ⟨a,c,h1,h2⟩
 exact⟨a,c,h1,h2.putV hA k' i' s'⟩
def Laid (d B:Nat) (k i:Int) (s:ByteArray) (a:Act) (w:World):Prop:=∃ b,a.eval (.tmp d)=.pointer (some ⟨b,0,none⟩)∧B≤b∧At w b k i s
theorem Laid.put {d B:Nat} {k i:Int} {s:ByteArray} {a:Act} {w w':World} {x:Option Nat} {v:Value} (h:Laid d B k i s a w) (hb:Below w.heap.size w w') (hx:x≠some d):Laid d B k i s (a.put x v) w':=by
 obtain⟨b,h1,h2,h3⟩:=h
 refine⟨b,?_,h2,h3.below hb⟩
 rw[Act.eval_put (fun y hy e=>?_)]
 ·exact h1
 ·injection e with e
  subst e
  exact hx hy
def once (l:List Oper) (jx d:Nat):Bool:=(List.range l.length).all fun i=>i==jx||waits l.toArray l.length jx i||(l[i]?).bind (·.dst) != some d
theorem once_get {l:List Oper} {jx d:Nat} (h:once l jx d=true) {i:Nat} {o:Oper} (ho:l[i]?=some o) (hw:waits l.toArray l.length jx i=false) (hne:i≠jx):o.dst≠some d:=by
 intro hd
 have hi:i<l.length:=(List.getElem?_eq_some_iff.1 ho).1
 have h1:=List.all_eq_true.1 h i (List.mem_range.2 hi)
 rw[ho,hw] at h1
 simp[hne,hd] at h1
end Go.Proofs.YtnkpgmibhpmdhaaGreat.V
namespace Go.Proofs.YtnkpgmibhpmdhaaGreat.V
set_option linter.unusedVariables false
set_option maxRecDepth 10000
open Go.RowKit Go.Maps
def CodecV (w:World) (kind c:Int) (v:Value):Prop:=∃ x y,v=.agg #[x,y]∧x.oneCell'=true∧y.oneCell'=true∧(c=1→∃ b,OfK w b kind 103 104 v)∧(c=2→∃ b,OfK w b kind 105 106 v)∧(c=3→∃ b,OfK w b kind 107 108 v)∧(c=4∧kind=1→v=Z.c4)
theorem CodecV.kept {w w':World} {kind c:Int} {v:Value} (h:CodecV w kind c v) (hk:∀ b f g,OfK w b kind f g v→OfK w' b kind f g v):CodecV w' kind c v:=by
 obtain⟨x,y,h1,h2,h3,h4,h5,h6,h7⟩:=h
 exact⟨x,y,h1,h2,h3,fun e=>(h4 e).elim fun b hb=>⟨b,hk b _ _ hb⟩,fun e=>(h5 e).elim fun b hb=>⟨b,hk b _ _ hb⟩,fun e=>(h6 e).elim fun b hb=>⟨b,hk b _ _ hb⟩,h7⟩
theorem CodecV.below {w w':World} {kind c:Int} {v:Value} (h:CodecV w kind c v) (hb:Below w.heap.size w w'):CodecV w' kind c v:=h.kept fun _ _ _ h=>h.below hb
def NewC (w:World) (b:Nat):Prop:=w.heap[b]?=some (.cells #[.nilFunc,.nilFunc] 114 (0,0))
def putC (w:World) (b:Nat) (x y:Value):World:=(w.setCell ⟨b,0,none⟩ x).setCell ⟨b,1,none⟩ y
theorem putC_kept (w:World) (b:Nat) (x y:Value):Kept (fun k=>k=b) w (putC w b x y) :=
 Kept.setCell (F:=fun k=>k=b) (p:=⟨b,1,none⟩) (Kept.setCell (F:=fun k=>k=b) (p:=⟨b,0,none⟩) (Kept.refl _ w) (.inl rfl) _) (.inl rfl) _
theorem OfK.putC {w:World} {b B:Nat} {kind:Int} {f g:FuncId} {v x y:Value} (h:OfK w b kind f g v) (hB:NewC w B):OfK (putC w B x y) b kind f g v:=by
 obtain⟨h1,h2,h3,h4⟩:=h
 unfold NewC at hB
 refine⟨h1,?_,?_,?_⟩
 ·rw[(putC_kept w B x y).block b (lt_of_block h2) (fun e=>by subst e;rw[h2] at hB;simp at hB)];exact h2
 ·rw[(putC_kept w B x y).block (b+1) (lt_of_block h3) (fun e=>by subst e;rw[h3] at hB;simp at hB)];exact h3
 ·rw[(putC_kept w B x y).block (b+2) (lt_of_block h4) (fun e=>by subst e;rw[h4] at hB;simp at hB)];exact h4
theorem CodecV.putC {w:World} {B:Nat} {kind c:Int} {v x y:Value} (h:CodecV w kind c v) (hB:NewC w B):CodecV (putC w B x y) kind c v:=h.kept fun _ _ _ h=>OfK.putC h hB
def Ent.mapC (kind:Int):Ent:=⟨fun v w=>∃ B b1 b2 b3 c1 c2 c3,v=.map (some B)∧w.ownsMap Tryz.prog 3 heldR B 4 (Z.cD kind c1 c2 c3)∧OfK w b1 kind 103 104 c1∧OfK w b2 kind 105 106 c2∧OfK w b3 kind 107 108 c3,
 fun hb ⟨B,b1,b2,b3,c1,c2,c3,h1,h2,h3,h4,h5⟩=>⟨B,b1,b2,b3,c1,c2,c3,h1,ownsMap_below h2 hb,h3.below hb,h4.below hb,h5.below hb⟩⟩
def Ent.lookC (kind c:Int) (q:Bool):Ent:=⟨fun v w=>∃ cv,v=.tuple #[cv,.bool q]∧CodecV w kind c cv,fun hb ⟨cv,h1,h2⟩=>⟨cv,h1,h2.below hb⟩⟩
def Ent.codC (kind c:Int):Ent:=⟨fun v w=>CodecV w kind c v,fun hb h=>h.below hb⟩
def Ent.newC (B:Nat):Ent:=⟨fun v w=>∃ b,v=.pointer (some ⟨b,0,none⟩)∧B≤b∧NewC w b,fun hb ⟨b,h1,h2,h3⟩=>⟨b,h1,h2,by unfold NewC at *;rw[hb.block b (lt_of_block h3)];exact h3⟩⟩
def LaidC (d B:Nat) (kind c:Int) (a:Act) (w:World):Prop:=∃ b x y,a.eval (.tmp d)=.pointer (some ⟨b,0,none⟩)∧B≤b∧w.heap[b]?=some (.cells #[x,y] 114 (0,0))∧CodecV w kind c (.agg #[x,y])
theorem LaidC.put {d B:Nat} {kind c:Int} {a:Act} {w w':World} {x:Option Nat} {v:Value} (h:LaidC d B kind c a w) (hb:Below w.heap.size w w') (hx:x≠some d):LaidC d B kind c (a.put x v) w':=by
 obtain⟨b,y,z,h1,h2,h3,h4⟩:=h
 refine⟨b,y,z,?_,h2,by rw[hb.block b (lt_of_block h3)];exact h3,h4.below hb⟩
 rw[Act.eval_put (fun y hy e=>?_)]
 ·exact h1
 ·injection e with e
  subst e
  exact hx hy
def SafeC (e:Ent):Prop:=∀ (v:Value) (w:World) (b:Nat) (x y:Value),NewC w b→e.p v w→e.p v (putC w b x y)
theorem SafeC.is (x:Value):SafeC (Ent.is x):=fun _ _ _ _ _ _ h=>h
theorem SafeC.codC (kind c:Int):SafeC (Ent.codC kind c):=fun _ _ _ _ _ hB h=>CodecV.putC h hB
theorem SafeC.lookC (kind c:Int) (q:Bool):SafeC (Ent.lookC kind c q):=fun _ _ _ _ _ hB ⟨cv,h1,h2⟩=>⟨cv,h1,h2.putC hB⟩
theorem SafeC.mapC (kind:Int):SafeC (Ent.mapC kind):=by
 rintro v w b x y hB ⟨B,b1,b2,b3,c1,c2,c3,h1,h2,h3,h4,h5⟩
 refine⟨B,b1,b2,b3,c1,c2,c3,h1,?_,OfK.putC h3 hB,OfK.putC h4 hB,OfK.putC h5 hB⟩
 have hlt:=h2.lt
 obtain⟨es,clock,hes,F,hs,hD⟩:=h2
 refine⟨es,clock,?_,F,hs,hD⟩
 rw[(putC_kept w b x y).block B hlt (fun e=>by subst e;unfold NewC at hB;rw[hes] at hB;simp at hB)]
 exact hes
variable {ops : Array Oper} {Q : Exit → Act → World → Prop} {tbl : List (Nat × Ent)} {w0 : World} {o : Oper}
theorem Step.codecs {s:Nat} {kind:Int} {ats:Array TypeId} (hw:Wants tbl ops o) (ho:o.op=.call { callee:=.value (.func 66),args:=#[.tmp s],argTypes:=ats }) (hs:get tbl s=Ent.is (.int .i64 kind)) (hd:∀ d,o.dst=some d→get tbl d=Ent.mapC kind):Step Tryz.prog ops Q tbl w0 o :=
 Step.call1 hw ho hs Tryz.func66 (by decide +kernel) rfl fun w1 hw1=>(codecs_any kind w1).mono (by
  rintro e w' ⟨B,b1,b2,b3,c1,c2,c3,rfl,hm,o1,o2,o3,hb⟩
  exact⟨_,rfl,hb,fun d h=>by rw[hd d h];exact⟨B,b1,b2,b3,c1,c2,c3,rfl,hm,o1,o2,o3⟩⟩)
theorem Step.lookC {m s:Nat} {kind c:Int} {q:Bool} (hw:Wants tbl ops o) (ho:o.op=.lookup 110 (.tmp m) (.tmp s) true) (hm:get tbl m=Ent.mapC kind) (hs:get tbl s=Ent.is (.int .i64 c)) (hc:Z.I64 c) (hq:q=(decide (c=1)||decide (c=2)||decide (c=3)||(decide (c=4)&&decide (kind=1))))
  (hd:∀ d,o.dst=some d→get tbl d=Ent.lookC kind c q):Step Tryz.prog ops Q tbl w0 o:=by
 refine Step.run hw fun a w hb hk=>?_
 have h1:=hk m (looks_op (by rw[ho];simp[Op.operands]))
 rw[hm] at h1
 obtain⟨B,b1,b2,b3,c1,c2,c3,h1,h2,o1,o2,o3⟩:=h1
 have h3:a.eval (.tmp s)=.int .i64 c:=by
  have:=hk s (looks_op (by rw[ho];simp[Op.operands]))
  rwa [hs] at this
 obtain⟨v,ps,hrun,hv⟩:=h2.look_ok (t:=110) lawInt Tryz.underlying110 (zeroCodec w) (zd:=.held (.agg #[.nilFunc,.nilFunc])) (zp:=[]) rfl (keyI hc)
 rw[has_if,← hq] at hrun
 refine⟨.tuple #[v,.bool q],w,?_,Below.refl _ _,fun d h=>?_⟩
 ·simp only[execOp,ho,h1,h3]
  simp[hrun,Result.andThen]
 ·rw[hd d h]
  refine⟨v,rfl,?_⟩
  by_cases e1:c=1
  ·subst e1
   obtain rfl:=held_inj hv (cD_1 kind c1 c2 c3 _).1
   have ov:=o1.1
   exact⟨_,_,ov,rfl,rfl,fun _=>⟨b1,o1⟩,fun e=>by omega,fun e=>by omega,fun e=>by omega⟩
  ·by_cases e2:c=2
   ·subst e2
    obtain rfl:=held_inj hv (cD_2 kind c1 c2 c3 _).1
    have ov:=o2.1
    exact⟨_,_,ov,rfl,rfl,fun e=>by omega,fun _=>⟨b2,o2⟩,fun e=>by omega,fun e=>by omega⟩
   ·by_cases e3:c=3
    ·subst e3
     obtain rfl:=held_inj hv (cD_3 kind c1 c2 c3 _).1
     have ov:=o3.1
     exact⟨_,_,ov,rfl,rfl,fun e=>by omega,fun e=>by omega,fun _=>⟨b3,o3⟩,fun e=>by omega⟩
    ·by_cases e4:c=4∧kind=1
     ·obtain⟨rfl,rfl⟩:=e4
      obtain rfl:=held_inj hv (cD_4 c1 c2 c3 _).1
      exact⟨_,_,rfl,rfl,rfl,fun e=>by omega,fun e=>by omega,fun e=>by omega,fun _=>rfl⟩
     ·obtain rfl:=held_inj hv (cD_none e1 e2 e3 e4 c1 c2 c3 _)
      exact⟨_,_,rfl,rfl,rfl,fun e=>absurd e e1,fun e=>absurd e e2,fun e=>absurd e e3,fun e=>absurd e e4⟩
theorem Step.ext0C {s:Nat} {kind c:Int} {q:Bool} (hw:Wants tbl ops o) (ho:o.op=.extract (.tmp s) 0) (hs:get tbl s=Ent.lookC kind c q) (hd:∀ d,o.dst=some d→get tbl d=Ent.codC kind c):Step Tryz.prog ops Q tbl w0 o:=by
 refine Step.run hw fun a w hb hk=>?_
 have h1:=hk s (looks_op (by rw[ho];simp[Op.operands]))
 rw[hs] at h1
 obtain⟨cv,h1,h2⟩:=h1
 refine⟨cv,w,?_,Below.refl _ _,fun d h=>by rw[hd d h];exact h2⟩
 simp only[execOp,ho,h1]
 simp[go_sem]
theorem Step.ext1C {s:Nat} {kind c:Int} {q:Bool} (hw:Wants tbl ops o) (ho:o.op=.extract (.tmp s) 1) (hs:get tbl s=Ent.lookC kind c q) (hd:∀ d,o.dst=some d→get tbl d=Ent.is (.bool q)):Step Tryz.prog ops Q tbl w0 o:=by
 refine Step.value hw fun a w hb hk=>⟨.bool q,?_,fun d h=>by rw[hd d h];rfl⟩
 have h1:=hk s (looks_op (by rw[ho];simp[Op.operands]))
 rw[hs] at h1
 obtain⟨cv,h1,h2⟩:=h1
 simp only[execOp,ho,h1]
 simp[go_sem]
theorem Step.newC (hw:Wants tbl ops o) (ho:o.op=.alloc 114) (hd:∀ d,o.dst=some d→get tbl d=Ent.newC w0.heap.size):Step Tryz.prog ops Q tbl w0 o:=by
 refine Step.run hw fun a w hb hk=>⟨.pointer (some ⟨w.heap.size,0,none⟩),w.alloc (.cells #[.nilFunc,.nilFunc] 114),?_,(Below.refl _ _).alloc (Nat.le_refl _) _,fun d h=>?_⟩
 ·simp only[execOp,ho]
  simp[go_sem]
 ·rw[hd d h]
  exact⟨_,rfl,hb.size,heap_alloc_new w _⟩
theorem Touch.layC {bs al:List Nat} {j:Nat} {s x:Nat} {kind c:Int} (hg:o.guard=none) (ho:o.op=.store 114 (.tmp s) (.tmp x)) (hn:o.dst=none)
  (hs:get tbl s=Ent.newC w0.heap.size) (hx:get tbl x=Ent.codC kind c) (hfr:∀ d,d∈bs∨d∈al→SafeC (get tbl d)) :
  Touch Tryz.prog ops Q tbl bs al w0 (LaidC s w0.heap.size kind c) j j o:=by
 intro a w hb hk
 have h1:=hk s (looks_op (by rw[ho];simp[Op.operands]))
 rw[hs] at h1
 obtain⟨b,h1,hB,hN⟩:=h1
 have h2:=hk x (looks_op (by rw[ho];simp[Op.operands]))
 rw[hx] at h2
 have h3:CodecV w kind c (a.eval (.tmp x)):=h2
 have h3':=h3
 obtain⟨y,z,e1,e2,e3,_⟩:=h3'
 have hN':=hN
 unfold NewC at hN'
 have r0:w.cell? ⟨b,0,none⟩=some .nilFunc:=by simp[World.cell?,hN']
 have r1:w.cell? ⟨b,1,none⟩=some .nilFunc:=by simp[World.cell?,hN']
 have f0:w.frozen? ⟨b,0,none⟩=false:=by simp[World.frozen?,hN']
 have f1:w.frozen? ⟨b,1,none⟩=false:=by simp[World.frozen?,hN']
 refine⟨hg,?_⟩
 have hr:(execOp a.eval o).run Tryz.prog w=.ok .skip (putC w b y z):=by
  simp only[execOp,ho,h1,e1]
  simp[go_sem,run_store _ _ _ _ _ e2,run_store _ _ _ _ _ e3,r0,r1,f0,f1,putC]
 unfold Oper.wp
 rw[hr]
 refine⟨((Below.refl w0.heap.size w).setCell (p:=⟨b,0,Option.none⟩) hB _).setCell (p:=⟨b,1,Option.none⟩) hB _,⟨undef,rfl,fun d h=>by rw[hn] at h;cases h⟩,fun d hdd v hp=>hfr d hdd v w b y z hN hp,fun _=>?_⟩
 rw[hn]
 refine⟨b,y,z,h1,hB,?_,?_⟩
 ·simp only[putC,World.setCell,Array.getElem?_modify,hN'];simp
 ·rw[← e1];exact CodecV.putC h3 hN
end Go.Proofs.YtnkpgmibhpmdhaaGreat.V
namespace Go.Proofs.YtnkpgmibhpmdhaaGreat.V
set_option linter.unusedVariables false
set_option maxRecDepth 10000
open Go.RowKit
def Ent.tupB (x:Int) (m:Nat) (bs:List Bool):Ent:=⟨fun v w=>∃ a c,v=.tuple #[.slice a m c,.int .i64 x]∧Sb w a m c bs,fun hb ⟨a,c,h1,h2⟩=>⟨a,c,h1,h2.below hb⟩⟩
def Ent.slB (m:Nat) (bs:List Bool):Ent:=⟨fun v w=>∃ a c,v=.slice a m c∧Sb w a m c bs,fun hb ⟨a,c,h1,h2⟩=>⟨a,c,h1,h2.below hb⟩⟩
variable {ops : Array Oper} {Q : Exit → Act → World → Prop} {tbl : List (Nat × Ent)} {w0 : World} {o : Oper}
theorem Step.ext0B {s:Nat} {x:Int} {m:Nat} {bs:List Bool} (hw:Wants tbl ops o) (ho:o.op=.extract (.tmp s) 0) (hs:get tbl s=Ent.tupB x m bs) (hd:∀ d,o.dst=some d→get tbl d=Ent.slB m bs):Step Tryz.prog ops Q tbl w0 o:=by
 refine Step.run hw fun a w hb hk=>?_
 have h1:=hk s (looks_op (by rw[ho];simp[Op.operands]))
 rw[hs] at h1
 obtain⟨qa,qc,h1,h2⟩:=h1
 refine⟨.slice qa m qc,w,?_,Below.refl _ _,fun d h=>by rw[hd d h];exact⟨qa,qc,rfl,h2⟩⟩
 simp only[execOp,ho,h1]
 simp[go_sem]
theorem Step.ext1B {s:Nat} {x:Int} {m:Nat} {bs:List Bool} (hw:Wants tbl ops o) (ho:o.op=.extract (.tmp s) 1) (hs:get tbl s=Ent.tupB x m bs) (hd:∀ d,o.dst=some d→get tbl d=Ent.is (.int .i64 x)):Step Tryz.prog ops Q tbl w0 o:=by
 refine Step.value hw fun a w hb hk=>⟨.int .i64 x,?_,fun d h=>by rw[hd d h];rfl⟩
 have h1:=hk s (looks_op (by rw[ho];simp[Op.operands]))
 rw[hs] at h1
 obtain⟨qa,qc,h1,h2⟩:=h1
 simp only[execOp,ho,h1]
 simp[go_sem]
end Go.Proofs.YtnkpgmibhpmdhaaGreat.V
namespace Go.Proofs.YtnkpgmibhpmdhaaGreat
set_option linter.unusedVariables false
set_option maxRecDepth 10000
open Go.RowKit
def NullsAns (rows nulls:Nat) (b:List Nat) (w:World) (e:Ending) (w':World):Prop :=
 Below w.heap.size w w'∧((Z.nE rows nulls b≠0∧e=.returned (.tuple #[.slice none 0 0,.slice none 0 0,.int .i64 ((Z.nE rows nulls b:Nat):Int)])) ∨
  (Z.nE rows nulls b=0∧∃ an cn ab nb cb,e=.returned (.tuple #[.slice an (Z.nL rows nulls b).length cn,.slice ab nb cb,.int .i64 0])∧Sb w' an (Z.nL rows nulls b).length cn (Z.nL rows nulls b)∧Sl w' .u8 ab nb cb (ints (Z.nR rows nulls b))))
theorem nulls_E {rows nulls S:Nat} {b:List Nat} (h0:nulls≠0) (hS:min ((rows+7) / 8) b.length=S):Z.nE rows nulls b=jb (b.take S) rows:=by
 unfold Z.nE
 rw[if_neg h0]
 split
 ·rename_i h
  have:S=b.length:=by omega
  subst this
  rw[List.take_length]
  unfold jb
  rw[if_pos h]
 ·have:S=(rows+7) / 8:=by omega
  rw[this]
theorem nulls_ok {rows nulls S:Nat} {b:List Nat} (h0:nulls≠0) (hS:min ((rows+7) / 8) b.length=S) (h:jb (b.take S) rows=0):Z.nL rows nulls b=ofL (b.take S) (rows:Int)∧Z.nR rows nulls b=b.drop S:=by
 have h1:=(jb_zero h).1
 rw[List.length_take] at h1
 have:S=(rows+7) / 8:=by omega
 unfold Z.nL Z.nR
 rw[if_neg h0,if_neg h0,← this]
 exact⟨rfl,rfl⟩
def nullsTbl (B:Nat) (ao:Option Addr) (len cap K:Nat) (rows x m:Nat) (bs:List Bool):List (Nat × V.Ent) :=
 [(0,V.Ent.is (.slice ao len cap)),(7,V.Ent.is (.int .i64 (K:Int))),(3,V.Ent.is (.pointer (some ⟨B,0,none⟩))),(23,V.Ent.is (.slice ao len cap)),(24,V.Ent.is (.int .i64 (K:Int))),(25,V.Ent.is (.slice ao K cap)),(26,V.Ent.is (.pointer (some ⟨B,0,none⟩))),(27,V.Ent.is (.int .i64 (rows:Int))),(28,V.Ent.tupB (x:Int) m bs),(22,V.Ent.tupB (x:Int) m bs),(29,V.Ent.slB m bs),(30,V.Ent.is (.int .i64 (x:Int))),(8,V.Ent.slB m bs),(9,V.Ent.is (.int .i64 (x:Int)))]
set_option maxHeartbeats 2000000 in
theorem tonulls_any (ao:Option Addr) (len cap:Nat) (b:List Nat) (rows nulls:Nat) (ak ai:Int) (az:ByteArray) (bk bi:Int) (bz:ByteArray) (w:World) (h:Sl w .u8 ao len cap (ints b)) (h256:∀ x∈b,x<256) (hm:len≤140737488355328) (hr:rows≤4096) :
  Calls Tryz.prog 46 #[.slice ao len cap,.agg #[.int .i64 (rows:Int),.int .i64 (nulls:Int),.int .i64 ak,.int .i64 ai,.string az,.int .i64 bk,.int .i64 bi,.string bz]] w (NullsAns rows nulls b w):=by
 have hl:b.length=len:=by rw[← h.1,ints_length]
 obtain⟨w1,hw1⟩:∃ w1,w.alloc (.cells #[.int .i64 (rows:Int),.int .i64 (nulls:Int),.int .i64 ak,.int .i64 ai,.string az,.int .i64 bk,.int .i64 bi,.string bz] 27)=w1:=⟨_,rfl⟩
 have hb1:Below w.heap.size w w1:=by rw[← hw1];exact below_one w _
 have hB:Blk w1 w.heap.size #[.int .i64 (rows:Int),.int .i64 (nulls:Int),.int .i64 ak,.int .i64 ai,.string az,.int .i64 bk,.int .i64 bi,.string bz] 27:=by rw[← hw1];exact Blk.new w _ _
 obtain⟨B,hBB⟩:∃ B,w.heap.size=B:=⟨_,rfl⟩
 rw[hBB] at hB
 have hBl:=hB.lt
 have c0:w1.cell? ⟨B,0,none⟩=some (.int .i64 (rows:Int)):=hB.cell (i:=0) rfl
 have c1:w1.cell? ⟨B,1,none⟩=some (.int .i64 (nulls:Int)):=hB.cell (i:=1) rfl
 have HW1:=hide hw1
 have HS:=hide (h.below hb1)
 have HB1:=hide hb1
 have H256:=hide h256
 have HL:=hide hl
 clear hw1 hb1 hB h h256 hl
 by_cases hn0:nulls=0
 ·subst hn0
  go_enter Tryz.func46,Tryz.ntmps46
  go_wp2_with fail
  go_ret3
  rw[show ((0:Nat):Int)=0 from rfl] at HW1
  rw[HW1.out]
  exact⟨HB1.out,.inr ⟨rfl,none,0,ao,len,cap,rfl,Sb.nil _,HS.out⟩⟩
 ·have hnb:((nulls:Int)==0)=false:=by simp;omega
  have HN0:=hide hn0
  clear hn0
  obtain⟨S,hS⟩:∃ S,min ((rows+7) / 8) len=S:=⟨_,rfl⟩
  have hmin:min (((rows:Int)+8 - 1) / 8) (len:Int)=(S:Int):=by omega
  have HSS:=hide hS
  clear hS
  go_enter Tryz.func46,Tryz.ntmps46
  go_wp2_with fail
  rw[HW1.out]
  go_wp2_with fail
  have hSl:S≤len:=by have:=HSS.out;omega
  obtain⟨X,hX⟩:∃ X,jb (b.take S) rows=X:=⟨_,rfl⟩
  obtain⟨bs,hbs⟩:∃ bs,ofL (b.take S) (rows:Int)=bs:=⟨_,rfl⟩
  obtain⟨m,hbm⟩:∃ m,bs.length=m:=⟨_,rfl⟩
  have HX:=hide hX
  have HBS:=hide hbs
  have HBM:=hide hbm
  clear hX hbs hbm
  refine V.wp_region2 (w0:=w1) [23,24,25,26,27,28,22,29,30,8,9] [0,7,3] (nullsTbl B ao len cap S rows X m bs) rfl (by kernel_rfl) (by kernel_rfl) (Below.refl _ _) ?hb ?hs ?hd
  case hb =>
   intro d hd
   simp only[List.mem_cons,List.not_mem_nil,or_false] at hd
   rcases hd with rfl|rfl|rfl<;>rfl
  case hs =>
   refine⟨?_,?_,?_,?_,?_,?_,?_,?_,?_,?_,?_,trivial⟩
   ·exact V.Step.move (.inl rfl) (.inl rfl) (.inl ⟨_,rfl⟩) (fun _ h=>by cases h;rfl)
   ·exact V.Step.move (.inl rfl) (.inl rfl) (.inl ⟨_,rfl⟩) (fun _ h=>by cases h;rfl)
   ·exact V.Step.head (.inl rfl) rfl rfl rfl (by have:=HS.out.2.1;omega) (fun _ h=>by cases h;rfl)
   ·exact V.Step.fieldG (p:=.pointer (some ⟨B,0,none⟩)) (q:=.pointer (some ⟨B,0,none⟩)) (.inl rfl) rfl rfl (fun w=>by simp[go_sem]) (fun _ h=>by cases h;rfl)
   ·exact V.Step.loadI (.inl rfl) rfl rfl Tryz.underlying3 hBl c0 (fun _ h=>by cases h;rfl)
   ·refine V.Step.callR2 (.inl rfl) rfl Tryz.func80 (by decide +kernel) rfl (fun wc v v2 hwc hv hv2=>?_)
    obtain rfl:v=.slice ao S cap:=hv
    obtain rfl:v2=.int .i64 (rows:Int):=hv2
    have hsl:=(HS.out.below hwc).head S cap hSl (by have:=HS.out.2.1;omega) (Nat.le_refl _)
    rw[← ints_take] at hsl
    refine (zof_any ao S cap (b.take S) (rows:Int) wc hsl (fun y hy=>H256.out y (List.mem_of_mem_take hy)) (by omega)).mono ?_
    rintro e w9 ⟨v,rfl,hv,hb9⟩
    rw[HBS.out] at hv
    obtain⟨qa,qc,rfl,hsb,_⟩:=Sb.of_owns hv
    have hu:=(unp_of (m:=rows) (M:=1) (b.take S) (by omega) (by omega)).1
    rw[Nat.mul_one,HX.out] at hu
    rw[show unpC (b.take S) (rows:Int) 1=(X:Int) from hu]
    rw[HBM.out] at hsb ⊢
    exact⟨_,rfl,hb9,fun d h=>by cases h;exact⟨qa,qc,rfl,hsb⟩⟩
   ·exact V.Step.move (.inl rfl) (.inl rfl) (.inl ⟨_,rfl⟩) (fun _ h=>by cases h;rfl)
   ·exact V.Step.ext0B (.inl rfl) rfl rfl (fun _ h=>by cases h;rfl)
   ·exact V.Step.ext1B (.inl rfl) rfl rfl (fun _ h=>by cases h;rfl)
   ·exact V.Step.move (.inl rfl) (.inr rfl) (.inl ⟨_,rfl⟩) (fun _ h=>by cases h;rfl)
   ·exact V.Step.move (.inl rfl) (.inr rfl) (.inl ⟨_,rfl⟩) (fun _ h=>by cases h;rfl)
  case hd =>
  intro vs w2 hb2 hk
  obtain⟨qa,qc,h8,hsb⟩:=hk 9 _ 8 rfl rfl
  have h9:vs 9=.int .i64 (X:Int):=hk 10 _ 9 rfl rfl
  obtain⟨y0,hy0⟩:∃ u,vs 23=u:=⟨_,rfl⟩
  obtain⟨y1,hy1⟩:∃ u,vs 24=u:=⟨_,rfl⟩
  obtain⟨y2,hy2⟩:∃ u,vs 25=u:=⟨_,rfl⟩
  obtain⟨y3,hy3⟩:∃ u,vs 26=u:=⟨_,rfl⟩
  obtain⟨y4,hy4⟩:∃ u,vs 27=u:=⟨_,rfl⟩
  obtain⟨y5,hy5⟩:∃ u,vs 28=u:=⟨_,rfl⟩
  obtain⟨y6,hy6⟩:∃ u,vs 22=u:=⟨_,rfl⟩
  obtain⟨y7,hy7⟩:∃ u,vs 29=u:=⟨_,rfl⟩
  obtain⟨y8,hy8⟩:∃ u,vs 30=u:=⟨_,rfl⟩
  simp only[V.puts,List.foldl_cons,List.foldl_nil,h8,h9,hy0,hy1,hy2,hy3,hy4,hy5,hy6,hy7,hy8,Act.put,List.setIfInBounds_toArray,List.set_cons_zero,List.set_cons_succ]
  have HB2:=hide (bthen HB1.out hb2)
  have HS2:=hide (HS.out.below hb2)
  have HSB:=hide hsb
  have HE:Hid (Z.nE rows nulls b=X):=by show _=_;rw[nulls_E (S:=S) HN0.out (by rw[HL.out];exact HSS.out)];exact HX.out
  clear hk h8 h9 hb2 hsb hy0 hy1 hy2 hy3 hy4 hy5 hy6 hy7 hy8 hmin c0 c1
  by_cases hX0:X=0
  ·subst hX0
   have hok:=nulls_ok (S:=S) HN0.out (by rw[HL.out];exact HSS.out) HX.out
   rw[HBS.out] at hok
   have HOK:=hide hok
   clear hok
   obtain⟨ra,hrs,hr1,hr2⟩:=rest_of HS2.out hSl
   have HRS:=hide hrs
   clear hrs
   go_wp2_with fail
   go_quiet (fail)
   have HB3:=hide (below_drewN HB2.out nq)
   go_wp2
   go_ret3
   refine⟨HB3.out,.inr ⟨HE.out,qa,qc,ra,len - S,cap - S,?_,?_,?_⟩⟩
   ·rw[HOK.out.1,HBM.out];rfl
   ·rw[HOK.out.1,HBM.out];exact HSB.out.below (below_drewN (Below.refl _ _) nq)
   ·rw[HOK.out.2];exact HRS.out.below (below_drewN (Below.refl _ _) nq)
  ·have hX0':(((X:Nat):Int) != 0)=true:=by simp;omega
   have HX0:=hide hX0
   clear hX0
   go_wp2_with fail
   go_ret3
   exact⟨HB2.out,.inl ⟨by rw[HE.out];exact HX0.out,by rw[HE.out];rfl⟩⟩
end Go.Proofs.YtnkpgmibhpmdhaaGreat

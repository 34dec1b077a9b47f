/- Steps on segments in a region that draws its order. -/
import Derived.Test.YtnkpgmibhpmdhaaGreatBeNJ
namespace Go.Proofs.YtnkpgmibhpmdhaaGreat.V
set_option maxRecDepth 10000
set_option linter.unusedVariables false
open Go.RowKit
def Ent.segV (s:Z.S):Ent:=⟨fun v w=>SegAt w v s,fun hb h=>h.below hb⟩
def Ent.segT (s:Z.S) (k:Nat) (l:List Nat) (z:Value):Ent:=⟨fun v w=>∃ x a c,v=.tuple #[x,.slice a k c,z]∧SegAt w x s∧Sl w .u8 a k c (ints l),fun hb ⟨x,a,c,h1,h2,h3⟩=>⟨x,a,c,h1,h2.below hb,h3.below hb⟩⟩
def Ent.newS (B:Nat) (t:TypeId) (C:Array Value):Ent:=⟨fun v w=>∃ b,v=.pointer (some ⟨b,0,none⟩)∧B≤b∧Blk w b C t,fun hb ⟨b,h1,h2,h3⟩=>⟨b,h1,h2,h3.below hb⟩⟩
theorem Safe.newS (B B':Nat) (C:Array Value):Safe B (Ent.newS B' 30 C):=by
 rintro v w w' u l ho hk ⟨b,h1,h2,h3⟩
 refine⟨b,h1,h2,?_⟩
 unfold Blk at *
 rw[hk.block b (lt_of_block h3) (owns_ne_block ho h3 (by decide))]
 exact h3
def SafeS (e:Ent):Prop:=∀ (v:Value) (w:World) (b:Nat) (D:Array Value),Blk w b segZ 30→e.p v w→e.p v (w.setRow b D)
theorem SafeS.is (x:Value):SafeS (Ent.is x):=fun _ _ _ _ _ h=>h
theorem SafeS.sl (k:Nat) (l:List Nat):SafeS (Ent.sl k l):=by
 rintro v w b D hB ⟨a,c,h1,h2⟩
 exact⟨a,c,h1,h2.row hB segZ_u8 D⟩
theorem SafeS.segV (s:Z.S):SafeS (Ent.segV s):=fun v w b D hB h=>SegAt.row h hB D
theorem SafeS.segT (s:Z.S) (k:Nat) (l:List Nat) (z:Value):SafeS (Ent.segT s k l z):=by
 rintro v w b D hB ⟨x,a,c,h1,h2,h3⟩
 exact⟨x,a,c,h1,h2.row hB D,h3.row hB segZ_u8 D⟩
section
variable {ops : Array Oper} {Q : Exit → Act → World → Prop} {tbl : List (Nat × Ent)} {w0 : World} {o : Oper}
theorem Step.newS (hw:Wants tbl ops o) (ho:o.op=.alloc 30) (hd:∀ d,o.dst=some d→get tbl d=Ent.newS w0.heap.size 30 segZ):Step Tryz.prog ops Q tbl w0 o:=by
 refine Step.run hw fun a w hb hk=>⟨.pointer (some ⟨w.heap.size,0,none⟩),w.alloc (.cells segZ 30),?_,(Below.refl _ _).alloc (Nat.le_refl _) _,fun d h=>?_⟩
 ·simp only[execOp,ho]
  simp[go_sem,segZ]
 ·rw[hd d h]
  exact⟨_,rfl,hb.size,Blk.new w _ _⟩
theorem Step.ldRow {s B:Nat} {C:Array Value} (hw:Wants tbl ops o) (ho:o.op=.load 30 (.tmp s)) (hs:get tbl s=Ent.is (.pointer (some ⟨B,0,none⟩))) (hB:Blk w0 B C 30) (hC:(Tryz.prog.info? 30).map (·.size)=some C.size) (hd:∀ d,o.dst=some d→get tbl d=Ent.is (.agg C)):Step Tryz.prog ops Q tbl w0 o:=by
 refine Step.value hw fun a w hb hk=>⟨.agg C,?_,fun d h=>by rw[hd d h];rfl⟩
 have h1:a.eval (.tmp s)=.pointer (some ⟨B,0,none⟩):=by
  have:=hk s (looks_op (by rw[ho];simp[Op.operands]))
  rwa [hs] at this
 have h2:=hB.below hb
 unfold Blk at h2
 unfold execOp
 simp only[ho,h1,Instr.loadAt,Instr.sureAddr,Sem.run_bind,Sem.run_pure,Result.andThen_ok,run_loadVar_row w B 30 30 C (0,0) _ h2 Tryz.underlying30 rfl hC]
theorem Step.ext0S {s k:Nat} {S:Z.S} {l:List Nat} {z:Value} (hw:Wants tbl ops o) (ho:o.op=.extract (.tmp s) 0) (hs:get tbl s=Ent.segT S k l z) (hd:∀ d,o.dst=some d→get tbl d=Ent.segV S):Step Tryz.prog ops Q tbl w0 o:=by
 refine Step.run hw fun a w hb hk=>?_
 have h1:=hk s (looks_op (by rw[ho];simp[Op.operands]))
 rw[hs] at h1
 obtain⟨x,qa,qc,h1,h2,h3⟩:=h1
 refine⟨x,w,?_,Below.refl _ _,fun d h=>by rw[hd d h];exact h2⟩
 simp only[execOp,ho,h1]
 simp[go_sem]
theorem Step.ext1S {s k:Nat} {S:Z.S} {l:List Nat} {z:Value} (hw:Wants tbl ops o) (ho:o.op=.extract (.tmp s) 1) (hs:get tbl s=Ent.segT S k l z) (hd:∀ d,o.dst=some d→get tbl d=Ent.sl k l):Step Tryz.prog ops Q tbl w0 o:=by
 refine Step.run hw fun a w hb hk=>?_
 have h1:=hk s (looks_op (by rw[ho];simp[Op.operands]))
 rw[hs] at h1
 obtain⟨x,qa,qc,h1,h2,h3⟩:=h1
 refine⟨.slice qa k qc,w,?_,Below.refl _ _,fun d h=>by rw[hd d h];exact⟨qa,qc,rfl,h3⟩⟩
 simp only[execOp,ho,h1]
 simp[go_sem]
theorem Step.ext2S {s k:Nat} {S:Z.S} {l:List Nat} {z:Value} (hw:Wants tbl ops o) (ho:o.op=.extract (.tmp s) 2) (hs:get tbl s=Ent.segT S k l z) (hd:∀ d,o.dst=some d→get tbl d=Ent.is z):Step Tryz.prog ops Q tbl w0 o:=by
 refine Step.run hw fun a w hb hk=>?_
 have h1:=hk s (looks_op (by rw[ho];simp[Op.operands]))
 rw[hs] at h1
 obtain⟨x,qa,qc,h1,h2,h3⟩:=h1
 refine⟨z,w,?_,Below.refl _ _,fun d h=>by rw[hd d h];rfl⟩
 simp only[execOp,ho,h1]
 simp[go_sem]
theorem Touch.appS {bs al:List Nat} {X:Act→World→Prop} {jx j:Nat} {s x:Nat} {l news:List Nat} {m:Nat} (hg:o.guard=none) (ho:o.op=.call { callee:=.builtin .append,args:=#[.tmp s,.tmp x],argTypes:=#[22,22] })
  (hs:get tbl s=Ent.own w0.heap.size l) (hx:get tbl x=Ent.sl m news) (hlim:l.length+m≤140737488355328) (hd:∀ d,o.dst=some d→get tbl d=Ent.own w0.heap.size (l++news)) (hj:j≠jx) (hfr:∀ d,d∈bs∨d∈al→Safe w0.heap.size (get tbl d)) :
  Touch Tryz.prog ops Q tbl bs al w0 X jx j o:=by
 intro a w hb hk
 have h1:w.ownsRow w0.heap.size 5 1 (a.eval (.tmp s)) l.length (B8 l):=by
  have:=hk s (looks_op (by rw[ho];simp[Op.operands,Call.operands]))
  rwa [hs] at this
 have h2:=hk x (looks_op (by rw[ho];simp[Op.operands,Call.operands]))
 rw[hx] at h2
 obtain⟨ao,c,h2,hsl⟩:=h2
 refine⟨hg,wp_of_list (ops:=ops) hg (wpList_app hg (.tmp s) (.tmp x) ho w0.heap.size _ l rfl h1 ao m c news h2 hsl hlim hb.size (l++news) rfl ?_)⟩
 intro v' w' ho' has
 refine⟨rfl,has.below hb.size (fun k hk=>(owns_lt h1 hk).1),⟨v',rfl,fun d hdd=>by rw[hd d hdd];exact ho'⟩,fun d hdd v hp=>hfr d hdd v w w' _ l h1 has.1 hp,fun h=>absurd h hj⟩
theorem Touch.layS {bs al:List Nat} {j:Nat} {s x:Nat} {S:Z.S} (hg:o.guard=none) (ho:o.op=.store 30 (.tmp s) (.tmp x)) (hn:o.dst=none)
  (hs:get tbl s=Ent.newS w0.heap.size 30 segZ) (hx:get tbl x=Ent.segV S) (hfr:∀ d,d∈bs∨d∈al→SafeS (get tbl d)) :
  Touch Tryz.prog ops Q tbl bs al w0 (fun _ _=>True) j j o:=by
 intro a w hb hk
 have h1:=hk s (looks_op (by rw[ho];simp[Op.operands]))
 rw[hs] at h1
 obtain⟨b,h1,hB,hN⟩:=h1
 have h2:=hk x (looks_op (by rw[ho];simp[Op.operands]))
 rw[hx] at h2
 have h3:SegAt w (a.eval (.tmp x)) S:=h2
 obtain⟨an,cn,ab,cb,e1,_,_⟩:=h3
 refine⟨hg,wp_of_list (ops:=ops) hg (wpList_store_row hg 30 (.tmp s) (.tmp x) ho b _ h1 e1 30 segZ hN (by rw[segC_size];exact Tryz.sizeSeg) (by rw[segC_size];rfl) (segC_one _ _ _ _ _ _ _ _ _ _ _ _) ?_)⟩
 refine⟨rfl,below_setRow (Below.refl _ _) hB _,⟨undef,by rw[hn],fun d h=>by rw[hn] at h;cases h⟩,fun d hdd v hp=>hfr d hdd v w b _ hN hp,fun _=>trivial⟩
end
end Go.Proofs.YtnkpgmibhpmdhaaGreat.V

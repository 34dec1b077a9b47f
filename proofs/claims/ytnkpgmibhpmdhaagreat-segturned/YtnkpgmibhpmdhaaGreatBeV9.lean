/- Steps on bytes of a slice in a region that draws its order. -/
import Derived.Test.YtnkpgmibhpmdhaaGreatBeBP
namespace Go.Proofs.YtnkpgmibhpmdhaaGreat.V
set_option linter.unusedVariables false
open Go.RowKit
variable {ops : Array Oper} {Q : Exit → Act → World → Prop} {tbl : List (Nat × Ent)} {w0 : World} {o : Oper}
theorem run_at (w:World) (g off len cap:Nat) (k:IntKind) (i:Int) (h0:0≤i) (h1:i<(len:Int)):(Instr.indexAt 22 (.slice (some ⟨g,off,none⟩) len cap) (.int k i)).run Tryz.prog w=.ok (.pointer (some ⟨g,off+i.toNat,none⟩)) w:=by
 rw[run_indexAt_slice (w:=w) 22 ⟨g,off,none⟩ len cap k i under_bytes,if_pos ⟨h0,h1⟩,elem_bytes,size_u8]
 simp only[Result.andThen_ok,Nat.mul_one,Addr.add_lit]
theorem Step.at {s g off len cap:Nat} {x:Operand} {k:IntKind} {i:Int} (hw:Wants tbl ops o) (ho:o.op=.indexAddr 22 (.tmp s) x) (hs:get tbl s=Ent.is (.slice (some ⟨g,off,none⟩) len cap)) (hx:(∃ t,x=.tmp t)∨∃ v,x=.const v) (hex:ent tbl x=Ent.is (.int k i)) (h0:0≤i) (h1:i<(len:Int)) (hd:∀ d,o.dst=some d→get tbl d=Ent.is (.pointer (some ⟨g,off+i.toNat,none⟩))):Step Tryz.prog ops Q tbl w0 o:=by
 refine Step.value hw fun a w hb hk=>⟨.pointer (some ⟨g,off+i.toNat,none⟩),?_,fun d h=>by rw[hd d h];rfl⟩
 have e1:a.eval (.tmp s)=.slice (some ⟨g,off,none⟩) len cap:=by
  have:=hk s (looks_op (by rw[ho];simp[Op.operands]))
  rwa [hs] at this
 have e2:a.eval x=.int k i:=ent_eval hex (.inl (by rw[ho];simp[Op.operands])) hk hx
 simp[execOp,ho,e1,e2,run_at w g off len cap k i h0 h1]
theorem Step.byte {s g i:Nat} {n:Int} (hw:Wants tbl ops o) (ho:o.op=.load 5 (.tmp s)) (hs:get tbl s=Ent.is (.pointer (some ⟨g,i,none⟩))) (hg:g<w0.heap.size) (hc:w0.cell? ⟨g,i,none⟩=some (.int .u8 n)) (hd:∀ d,o.dst=some d→get tbl d=Ent.is (.int .u8 n)):Step Tryz.prog ops Q tbl w0 o:=by
 refine Step.value hw fun a w hb hk=>⟨.int .u8 n,?_,fun d h=>by rw[hd d h];rfl⟩
 have e1:a.eval (.tmp s)=.pointer (some ⟨g,i,none⟩):=by
  have:=hk s (looks_op (by rw[ho];simp[Op.operands]))
  rwa [hs] at this
 have hc2:w.cell? ⟨g,i,none⟩=some (.int .u8 n):=by rw[hb.cell (p:=⟨g,i,none⟩) hg];exact hc
 simp only[execOp,ho,e1]
 simp[go_sem,hc2]
theorem row_set (L:List Nat) (i v:Nat):(B8 L).toArray.setIfInBounds i (.int .u8 ((v:Nat):Int))=(B8 (L.set i v)).toArray:=by
 simp[B8,List.map_set]
end Go.Proofs.YtnkpgmibhpmdhaaGreat.V

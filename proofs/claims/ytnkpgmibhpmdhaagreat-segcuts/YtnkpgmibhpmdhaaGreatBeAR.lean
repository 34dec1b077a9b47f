/- Contracts and plain facts, one behind the other: PG PH T6 T7 PJ RU RV RX QC QR XKa -/
import Derived.ProofKit
import Derived.OpenShut
import Derived.ShutString
import Derived.ChangeOld
import Derived.Below
import Derived.SizedLaws
import Derived.Lib.SmallJoins
import Derived.Test.YtnkpgmibhpmdhaaGreatBeAQ
namespace Go.Proofs.YtnkpgmibhpmdhaaGreat
set_option linter.unusedVariables false
open Go.RowKit
theorem results_val1 {fn:Func} {p u:Tmp} (h:fn.results=#[.cell p 25,.tmp u]) (tmps:Array Value) (w:World) (g:Nat) {k i:Int} {s:ByteArray} (hp:tmps.getD p undef=.pointer (some ⟨g,0,none⟩)) (hA:At w g k i s) :
  (results fn tmps).run Tryz.prog w=.ok (.tuple #[.agg #[.int .i64 k,.int .i64 i,.string s],tmps.getD u undef]) w:=by
 have hp':tmps[p]?.getD undef=.pointer (some ⟨g,0,none⟩):=by simpa using hp
 unfold At at hA
 simp[results,h,hp',asAddr,run_loadVar_row w g 25 25 _ (0,0) _ hA Tryz.underlying25 rfl (by kernel_rfl)]
def NextAns (B:Nat) (l:List Nat) (kind:Int) (w:World) (e:Ending) (w':World):Prop :=
 e=.returned (.tuple #[(Z.oV l kind).v,.int .i64 ((Z.oE l kind:Nat):Int)])∧(∃ a n c,w'.heap[B]?=some (.cells #[.slice a n c] 22 (0,0))∧(Z.oE l kind=0→n=(Z.oR l kind).length∧Sl w' .u8 a n c (ints (Z.oR l kind))))∧Kept (fun k=>k=B) w w'
set_option maxHeartbeats 1000000 in
theorem next_any (B0 B1 B2:Nat) (ao:Option Addr) (len cap:Nat) (l:List Nat) (kind:Int) (w:World) (h0:w.heap[B0]?=some (.cells #[.slice ao len cap] 22 (0,0))) (h1:w.heap[B1]?=some (.cells #[.int .i64 ((Z.most kind:Nat):Int)] 3 (0,0))) (h2:w.heap[B2]?=some (.cells #[.int .i64 kind] 3 (0,0)))
  (h:Sl w .u8 ao len cap (ints l)) (h256:∀ x∈l,x<256) (hm:len≤140737488355328) (hk:kind=1∨kind=2∨kind=3) :
  Calls Tryz.prog 150 #[.pointer (some ⟨B0,0,none⟩),.pointer (some ⟨B1,0,none⟩),.pointer (some ⟨B2,0,none⟩)] w (NextAns B0 l kind w):=by
 have hl:l.length=len:=by rw[← h.1,ints_length]
 obtain⟨M,hM⟩:∃ M,Z.most kind=M:=⟨_,rfl⟩
 rw[hM] at h1
 have hM2:M≤1034:=by rw[← hM];unfold Z.most;split<;>omega
 obtain⟨o1,o2,o3,o4⟩:=o_ahead hk l
 rw[hM] at o1 o2 o3 o4
 obtain⟨K,hK⟩:∃ K,min M len=K:=⟨_,rfl⟩
 have hKl:(l.take M).length=K:=by rw[List.length_take,hl,hK]
 have hKlen:K≤len:=by omega
 have hlt:l.take K=l.take M:=by
  rw[← hK]
  by_cases h5:M≤len
  ·rw[Nat.min_eq_left h5]
  ·rw[Nat.min_eq_right (by omega),List.take_of_length_le (by omega),List.take_of_length_le (by omega)]
 have hb0:=hide (below_one w (.cells #[.int .i64 0,.int .i64 0,.string ⟨#[]⟩] 25))
 have hA:=At.new w 0 0 ⟨#[]⟩
 obtain⟨qa,hq,hr1,hr2⟩:=head_of h hKlen
 rw[hlt] at hq
 have hmin:∀ (ts:Array TypeId) (t:TypeId) (w:World),(Builtin.min_ ts t #[.int .i64 ((M:Nat):Int),.int .i64 ((len:Nat):Int)]).run Tryz.prog w=.ok (.int .i64 ((K:Nat):Int)) w:=fun ts t w=>by
  rw[run_min_int2]
  congr 2
  split<;>omega
 have k0:=heap_alloc_keep (.cells #[.int .i64 0,.int .i64 0,.string ⟨#[]⟩] 25) h0
 have k1:=heap_alloc_keep (.cells #[.int .i64 0,.int .i64 0,.string ⟨#[]⟩] 25) h1
 have k2:=heap_alloc_keep (.cells #[.int .i64 0,.int .i64 0,.string ⟨#[]⟩] 25) h2
 obtain⟨c0,f0⟩:=cell_of_heap k0
 obtain⟨c1,_⟩:=cell_of_heap k1
 obtain⟨c2,_⟩:=cell_of_heap k2
 have HS:=hide (hq.below hb0.out)
 have HSL:=hide (h.below hb0.out)
 have K0:=hide k0
 have HO1:=hide o1
 have HO2:=hide o2
 have HO3:=hide o3
 have HO4:=hide o4
 have HKL:=hide hKl
 have HA:=hide hA
 have H256:=hide h256
 have HLL:=hide hl
 have HB0:=hide (lt_of_block h0)
 clear hq h k0 k1 k2 h0 h1 h2 o1 o2 o3 o4 hKl hA h256 hl hlt hK hM hk
 go_enter Tryz.func150,Tryz.ntmps150
 go_wp2_with fail
 refine (vof_any _ _ _ (l.take M) kind _ HS.out (fun x hx=>H256.out x (List.mem_of_mem_take hx)) (by omega)).mono ?_
 rintro e w1 ⟨ra,rc,rfl,_,hb1⟩
 rw[HO1.out,HO2.out]
 obtain⟨n,hn⟩:∃ n,(Z.oR (l.take M) kind).length=n:=⟨_,rfl⟩
 obtain⟨⟨vk,vi,vs⟩,hv⟩:∃ x,Z.oV l kind=x:=⟨_,rfl⟩
 obtain⟨E,hE⟩:∃ E:Int,((Z.oE l kind:Nat):Int)=E:=⟨_,rfl⟩
 have hnK:n≤K:=by have:=HO4.out;rw[hn,HKL.out] at this;exact this
 obtain⟨D,hD⟩:∃ D,K - n=D:=⟨_,rfl⟩
 have hDl:D≤len:=by omega
 have hKD:(K:Int) - (n:Int)=(D:Int):=by omega
 obtain⟨qb,hqb,hr3,hr4⟩:=rest_of HSL.out hDl
 rw[← hKD] at hr3 hr4
 have HD:Hid (Z.oE l kind=0→l.drop D=Z.oR l kind):=by
  have:=HO3.out
  rw[hn,HKL.out,hD] at this
  exact this
 rw[hn,hv,hE,show (Z.V.v ⟨vk,vi,vs⟩)=.agg #[.int .i64 vk,.int .i64 vi,.string vs] from rfl]
 have HV:=hide hv
 have HE:=hide hE
 have b1:=below_one w1 (.cells #[.int .i64 vk,.int .i64 vi,.string vs] 25)
 have hA1:=(HA.out.below hb1).below b1
 have k1:(w1.alloc (.cells #[.int .i64 vk,.int .i64 vi,.string vs] 25)).heap[B0]?=some (.cells #[.slice ao len cap] 22 (0,0)):=heap_alloc_keep _ (by rw[hb1.block B0 (lt_of_block K0.out)];exact K0.out)
 have hv1:=At.new w1 vk vi vs
 have hbb:Below w.heap.size w (w1.alloc (.cells #[.int .i64 vk,.int .i64 vi,.string vs] 25)):=bthen (bthen hb0.out hb1) b1
 have hqb2:Sl (w1.alloc (.cells #[.int .i64 vk,.int .i64 vi,.string vs] 25)) .u8 qb (len - D) (cap - D) (ints (l.drop D)):=(hqb.below hb1).below b1
 obtain⟨d0,g0⟩:=cell_of_heap k1
 have hne1:B0≠w1.heap.size:=by
  have:=lt_of_block K0.out
  have:=hb1.size
  omega
 have hne0:B0≠w.heap.size:=by have:=HB0.out;omega
 have hv3:At ((w1.alloc (.cells #[.int .i64 vk,.int .i64 vi,.string vs] 25)).setCell ⟨B0,0,none⟩ (.slice qb (len - D) (cap - D))) w1.heap.size vk vi vs:=(Below.heap_setCell _ _ _ _ (fun e=>hne1 e.symm)).trans hv1
 have hA3:At ((w1.alloc (.cells #[.int .i64 vk,.int .i64 vi,.string vs] 25)).setCell ⟨B0,0,none⟩ (.slice qb (len - D) (cap - D))) w.heap.size 0 0 ⟨#[]⟩:=(Below.heap_setCell _ _ _ _ (fun e=>hne0 e.symm)).trans hA1
 obtain⟨v0,v1,v2⟩:=hv3.cells
 obtain⟨a0,a1,a2⟩:=hA3.cells
 obtain⟨t0,t1,t2⟩:=hA3.thawed
 have HA3:=hide hA3
 have HBB:=hide hbb
 have HQB:=hide hqb2
 have HK1:=hide k1
 have HN0:=hide hne0
 clear hKD hv3 hA3 hv1 hA1 k1 hqb hqb2 hbb b1 hb1 hn hv hE hD HS HSL HO3 HO4 HKL hr1 hr2 hmin c0 c1 c2 f0 HA K0
 go_wp2
 have hkp:=putV_kept ((w1.alloc (.cells #[.int .i64 vk,.int .i64 vi,.string vs] 25)).setCell ⟨B0,0,none⟩ (.slice qb (len - D) (cap - D))) w.heap.size vk vi vs
 have hb3:=heap_setCell_one HK1.out (.slice qb (len - D) (cap - D))
 refine bodyPost_ret (results_val1 Tryz.results150 _ _ w.heap.size rfl (HA3.out.set vk vi vs)) rfl ⟨by rw[HV.out,HE.out];rfl,⟨qb,len - D,cap - D,(hkp.block B0 (lt_of_block hb3) HN0.out).trans hb3,fun h0=>?_⟩,?_⟩
 ·have h1:=HD.out h0
  refine⟨by rw[← h1,List.length_drop,HLL.out],?_⟩
  rw[← h1]
  exact (HQB.out.set HK1.out (fun n=>by simp) _).putV HA3.out vk vi vs
 ·exact (Kept.setCell (F:=fun k=>k=B0) (p:=⟨B0,0,none⟩) (Kept.of_below HBB.out _) (.inl rfl) _).trans' hkp (fun x hx=>.inr (by omega))
def Z.cE (b:List Nat) (n kind:Int):Int:=if Z.kindOk kind=false then 1 else if n<0∨4096<n then 2 else if Z.pE kind n.toNat b≠0 then ((Z.pE kind n.toNat b:Nat):Int) else if Z.pR kind n.toNat b≠[] then 4 else 0
def Z.cL (b:List Nat) (n kind:Int):List Z.V:=if Z.cE b n kind=0 then Z.pL kind n.toNat b else []
theorem cE_kind {b:List Nat} {n kind:Int} (h:Z.kindOk kind=false):Z.cE b n kind=1:=by unfold Z.cE;rw[if_pos h]
theorem cE_many {b:List Nat} {n kind:Int} (h:Z.kindOk kind=true) (h1:n<0∨4096<n):Z.cE b n kind=2:=by unfold Z.cE;rw[h,if_neg (by decide),if_pos h1]
theorem cE_bad {b:List Nat} {N:Nat} {kind:Int} (h:Z.kindOk kind=true) (h1:N≤4096) (h2:Z.pE kind N b≠0):Z.cE b (N:Int) kind=((Z.pE kind N b:Nat):Int):=by
 unfold Z.cE;rw[h,if_neg (by decide),if_neg (by omega),Int.toNat_natCast,if_pos h2]
theorem cE_behind {b:List Nat} {N:Nat} {kind:Int} (h:Z.kindOk kind=true) (h1:N≤4096) (h2:Z.pE kind N b=0) (h3:Z.pR kind N b≠[]):Z.cE b (N:Int) kind=4:=by
 unfold Z.cE;rw[h,if_neg (by decide),if_neg (by omega),Int.toNat_natCast,if_neg (by rw[h2];simp),if_pos h3]
theorem cE_ok {b:List Nat} {N:Nat} {kind:Int} (h:Z.kindOk kind=true) (h1:N≤4096) (h2:Z.pE kind N b=0) (h3:Z.pR kind N b=[]):Z.cE b (N:Int) kind=0:=by
 unfold Z.cE;rw[h,if_neg (by decide),if_neg (by omega),Int.toNat_natCast,if_neg (by rw[h2];simp),if_neg (by rw[h3];simp)]
theorem kind_cases {kind:Int} (h:Z.kindOk kind=true):kind=1∨kind=2∨kind=3:=by
 unfold Z.kindOk at h
 simp only[Bool.or_eq_true,beq_iff_eq] at h
 rcases h with (h|h)|h
 ·exact .inl h
 ·exact .inr (.inl h)
 ·exact .inr (.inr h)
def ColOf (b:List Nat) (n kind:Int) (w:World) (e:Ending) (w':World):Prop:=∃ a c,e=.returned (.tuple #[.slice a (Z.cL b n kind).length c,.int .i64 (Z.cE b n kind)])∧SlV w' a (Z.cL b n kind).length c (Z.cL b n kind)∧Below w.heap.size w w'
theorem SlV.nil (w:World):SlV w none 0 0 []:=⟨rfl,Nat.le_refl _,by simp[maxLen],fun _=>rfl,.inl rfl⟩
theorem ColOf.no {b:List Nat} {n kind E:Int} {w w':World} (h:Z.cE b n kind=E) (h0:E≠0) (hb:Below w.heap.size w w'):ColOf b n kind w (.returned (.tuple #[.slice none 0 0,.int .i64 E])) w':=by
 have h1:Z.cL b n kind=[]:=by unfold Z.cL;rw[if_neg (by rw[h];exact h0)]
 unfold ColOf;rw[h1,h]
 exact⟨none,0,rfl,SlV.nil _,hb⟩
theorem ColOf.yes {b:List Nat} {N:Nat} {kind:Int} {w w':World} {B:Nat} {v:Value} (h:Z.cE b (N:Int) kind=0) (ho:OwnV w' B v (Z.pL kind N b)) (hb:Below w.heap.size w w'):ColOf b (N:Int) kind w (.returned (.tuple #[v,.int .i64 0])) w':=by
 have h1:Z.cL b (N:Int) kind=Z.pL kind N b:=by unfold Z.cL;rw[if_pos h,Int.toNat_natCast]
 obtain⟨a,c,rfl,hs,_⟩:=SlV.of_own ho
 unfold ColOf;rw[h1,h]
 exact⟨a,c,rfl,hs,hb⟩
theorem most_any (kind:Int) (w:World):Calls Tryz.prog 149 #[.int .i64 kind] w fun e w'=>e=.returned (.int .i64 ((Z.most kind:Nat):Int))∧w'=w:=by
 by_cases k3:kind=3
 ·subst k3
  go_enter Tryz.func149,Tryz.ntmps149
  go_wp2
  go_ret
  exact⟨rfl,rfl⟩
 ·have HM:Hid (Z.most kind=10):=by show _=_;unfold Z.most;rw[if_neg k3]
  have e3:(kind==3)=false:=by simpa using k3
  go_enter Tryz.func149,Tryz.ntmps149
  go_wp2
  go_ret
  exact⟨by rw[HM.out];rfl,rfl⟩
def Z.pF (kind:Int) (b:List Nat) (N j:Nat):List Z.V:=Z.pL kind j b++List.replicate (N - j) Z.z0
theorem pF_length {kind:Int} {b:List Nat} {N j:Nat} (h:j≤N):(Z.pF kind b N j).length=N:=by
 unfold Z.pF;rw[List.length_append,pL_length,List.length_replicate];omega
theorem pF_set {kind:Int} {b:List Nat} {N j:Nat} (h:j<N) {x:Z.V} (hx:Z.oV (Z.pR kind j b) kind=x):(Z.pF kind b N j).set j x=Z.pF kind b N (j+1):=by
 have h1:=pL_length kind j b
 unfold Z.pF
 rw[pL_succ,hx,show N - j=(N - (j+1))+1 by omega,List.replicate_succ,List.set_append_right _ _ (by omega),h1,Nat.sub_self,List.set_cons_zero]
 simp
theorem pF_at {kind:Int} {b:List Nat} {N j:Nat} (h:j<N):(Z.pF kind b N j)[j]?=some Z.z0:=by
 have h1:=pL_length kind j b
 unfold Z.pF
 rw[List.getElem?_append_right (by omega),h1,Nat.sub_self,show N - j=(N - (j+1))+1 by omega,List.replicate_succ]
 rfl
theorem sl_off_row {w:World} {a:Option Addr} {n c:Nat} {l:List Int} (h:Sl w .u8 a n c l) {B R N:Nat} {m:List Z.V} (ho:OwnV w B (.slice (some ⟨R,0,none⟩) N N) m):n=0∨∀ x,a=some x→x.block≠R:=by
 by_cases h0:n=0
 ·exact .inl h0
 ·refine .inr fun x hx hB=>?_
  rcases h.2.2.2.2 with h5|⟨b,off,hao,hlt,h5⟩
  ·exact h0 h5
  ·rw[hao] at hx
   obtain rfl:=Option.some.inj hx
   have hB':b=R:=hB
   subst hB'
   have h6:=h5 0 (by omega)
   rw[Nat.add_zero] at h6
   rcases ho.2 with ⟨h7,_⟩|⟨g,cap,cur,h7,_,hh,hc,_,hcs,ht⟩
   ·simp at h7
   ·injection h7 with e1 e2 e3
    simp at e1
    subst e1 e2 e3
    simp only[World.cell?,hh] at h6
    simp at h6
    have h8:cur[off]?=some (.int .u8 (l.getD 0 0)):=by simpa using h6
    have h9:off<cur.size:=by
     rcases Nat.lt_or_ge off cur.size with h9|h9
     ·exact h9
     ·rw[Array.getElem?_eq_none h9] at h8;simp at h8
    have h10:(cellsV m)[off]?=some (.int .u8 (l.getD 0 0)):=by
     rw[← ht,List.getElem?_take,if_pos (by omega)]
     simpa using h8
    obtain⟨y,_,hy⟩:=List.mem_flatMap.1 (List.mem_of_getElem? h10)
    simp at hy
theorem pR_len (kind:Int):∀ (n:Nat) (b:List Nat),(Z.pR kind n b).length≤b.length
 | 0,_=>Nat.le_refl _
 | n+1,b=>by
  have h1:=pR_len kind n (Z.oR b kind)
  have h2:(Z.oR b kind).length≤b.length:=by
   unfold Z.oR
   split
   ·unfold Z.oS
    split
    ·rw[List.length_drop];omega
    ·split
     ·rw[List.length_drop];omega
     ·split
      ·unfold E.xR;rw[List.length_drop,List.length_drop];omega
      ·exact Nat.le_refl _
   ·simp
  rw[Z.pR]
  omega
structure OfLoop (w:World) (B R N:Nat) (b:List Nat) (kind:Int) (j:Nat) (wr:World):Prop where
 low:Below w.heap.size w wr
 left:∃ a n c,wr.heap[B]?=some (.cells #[.slice a n c] 22 (0,0))∧Sl wr .u8 a n c (ints (Z.pR kind j b))∧n≤b.length
 most:wr.heap[B+1+1]?=some (.cells #[.int .i64 ((Z.most kind:Nat):Int)] 3 (0,0))
 knd:wr.heap[B+1]?=some (.cells #[.int .i64 kind] 3 (0,0))
 row:OwnV wr w.heap.size (.slice (some ⟨R,0,none⟩) N N) (Z.pF kind b N j)
 ok:Z.pE kind j b=0
set_option maxHeartbeats 2000000 in
theorem pof_some (ao:Option Addr) (len cap:Nat) (b:List Nat) (N:Nat) (kind:Int) (w:World) (h:Sl w .u8 ao len cap (ints b)) (h256:∀ x∈b,x<256) (hm:len≤140737488355328) (hN:N≤4096) (hk:Z.kindOk kind=true) :
  Calls Tryz.prog 104 #[.slice ao len cap,.int .i64 (N:Int),.int .i64 kind] w (ColOf b (N:Int) kind w):=by
 have hmf:∀ (fn:Fn) (first cap:Array Value) (w:World),(Instr.makeFunc fn first cap).run Tryz.prog w=.ok (.func fn first cap) w:=fun _ _ _ _=>rfl
 have hl:b.length=len:=by rw[← h.1,ints_length]
 have hd1:decide ((N:Int)<0)=false:=by simp
 have hd2:decide ((4096:Int)<(N:Int))=false:=by simp;omega
 have q0:=heap_alloc_new w (.cells #[.slice ao len cap] 22)
 have q1:=heap_alloc_new (w.alloc (.cells #[.slice ao len cap] 22)) (.cells #[.int .i64 kind] 3)
 have q2:=heap_alloc_new ((w.alloc (.cells #[.slice ao len cap] 22)).alloc (.cells #[.int .i64 kind] 3)) (.cells #[.int .i64 ((Z.most kind:Nat):Int)] 3)
 have hbel:Below w.heap.size w (((w.alloc (.cells #[.slice ao len cap] 22)).alloc (.cells #[.int .i64 kind] 3)).alloc (.cells #[.int .i64 ((Z.most kind:Nat):Int)] 3)) :=
  (((Below.refl _ _).alloc (Nat.le_refl _) _).alloc (by simp) _).alloc (by simp;omega) _
 have r0:=heap_alloc_keep (.cells #[.int .i64 ((Z.most kind:Nat):Int)] 3) (heap_alloc_keep (.cells #[.int .i64 kind] 3) q0)
 have r1:=heap_alloc_keep (.cells #[.int .i64 ((Z.most kind:Nat):Int)] 3) q1
 simp only[World.size_alloc] at r1 q2
 have HR0:=hide r0
 have HR1:=hide r1
 have HR2:=hide q2
 have HBEL:=hide hbel
 obtain⟨c0,_⟩:=cell_of_heap (heap_alloc_keep (.cells #[.int .i64 kind] 3) q0)
 obtain⟨c1,_⟩:=cell_of_heap q1
 simp only[World.size_alloc] at c1
 have HH:=hide h
 have H256:=hide h256
 have HK:=hide hk
 have HL:=hide hl
 clear h h256 hk hl q0 q1 q2 r0 r1 hbel
 obtain⟨i0,hi0,hz0,hz1,hz2⟩:=info_parts Tryz.infoVal
 go_enter Tryz.func104,Tryz.ntmps104
 go_wp2_with fail
 refine (iscol_any _ _).mono ?_
 rintro e w2 ⟨rfl,rfl⟩
 rw[HK.out]
 go_wp2_with fail
 refine (most_any _ _).mono ?_
 rintro e w3 ⟨rfl,rfl⟩
 go_wp2_with (at_make;refine wpList_make_full _ rfl _ _ 42 rfl w.heap.size 25 i0 _ 3 Tryz.underlying42 hi0 hz0 hz1 _ _ _ _ N rfl rfl rfl rfl (by rw[hz2];omega) (by unfold maxLen;omega) HBEL.out.size ?_)
 intro w4 ho hg
 obtain⟨w3,hw3⟩:∃ w3,((w.alloc (.cells #[.slice ao len cap] 22)).alloc (.cells #[.int .i64 kind] 3)).alloc (.cells #[.int .i64 ((Z.most kind:Nat):Int)] 3)=w3:=⟨_,rfl⟩
 rw[hw3] at hg HR0 HR1 HR2 HBEL
 have hb4:Below w3.heap.size w3 w4:=(Below.refl _ _).grown hg (Nat.le_refl _) (by simp)
 have hstart:OfLoop w w.heap.size (w.heap.size+1+1+1) N b kind 0 w4:=by
  refine⟨bthen HBEL.out hb4,⟨ao,len,cap,(hb4.block _ (lt_of_block HR0.out)).trans HR0.out,(HH.out.below HBEL.out).below hb4,by rw[HL.out];exact Nat.le_refl _⟩,(hb4.block _ (lt_of_block HR2.out)).trans HR2.out,(hb4.block _ (lt_of_block HR1.out)).trans HR1.out,?_,rfl⟩
  unfold OwnV
  rw[pF_length (Nat.zero_le _)]
  unfold Z.pF
  rw[show Z.pL kind 0 b=[] from rfl,List.nil_append,Nat.sub_zero,cellsV_replicate]
  exact ho
 obtain⟨R,hR⟩:∃ R,w.heap.size+1+1+1=R:=⟨_,rfl⟩
 rw[hR] at hstart ⊢
 have HST:=hide hstart
 obtain⟨M,hM⟩:∃ M:Int,((Z.most kind:Nat):Int)=M:=⟨_,rfl⟩
 rw[hM]
 clear hstart ho hg hb4 hw3 hR HR0 HR1 HR2 HBEL c0 c1 hi0 hz0 hz1 hz2 hM
 go_wp2_with fail
 go_loopw [30] (fun i wr=>∃ j:Nat,j≤N∧i=.int .i64 j∧Hid (OfLoop w w.heap.size R N b kind j wr)) (fun i _=>N - (intOf i).toNat)
 case atStart=>exact⟨0,Nat.zero_le _,rfl,HST⟩
 case round =>
  obtain⟨j,hj,rfl,HO⟩:=hrel
  by_cases hjl:j<N
  ·obtain⟨a,n,c,hbx,hs,hn⟩:=HO.out.left
   have hcl:=next_any w.heap.size (w.heap.size+1+1) (w.heap.size+1) a n c (Z.pR kind j b) kind wr hbx HO.out.most HO.out.knd hs (pR_lt j b H256.out) (by rw[HL.out] at hn;omega) (kind_cases HK.out)
   have HCL:=hide hcl
   clear hcl hbx hs hn
   go_wp2_with fail
   refine HCL.out.mono ?_
   rintro e w5 ⟨rfl,hleft,hkp⟩
   obtain⟨E,hE⟩:∃ E:Nat,Z.oE (Z.pR kind j b) kind=E:=⟨_,rfl⟩
   obtain⟨⟨vk,vi,vs⟩,hv⟩:∃ x,Z.oV (Z.pR kind j b) kind=x:=⟨_,rfl⟩
   rw[hE,hv,show (Z.V.v ⟨vk,vi,vs⟩)=.agg #[.int .i64 vk,.int .i64 vi,.string vs] from rfl]
   rw[hE] at hleft
   have hb5:Below w.heap.size w w5:=HO.out.low.trans (hkp.below HO.out.low.size (by rintro k rfl;exact Nat.le_refl _))
   have hsz5:=hb5.size
   have hb6:Below w.heap.size w (w5.alloc (.cells #[.int .i64 vk,.int .i64 vi,.string vs] 25)):=hb5.alloc hsz5 _
   have HB6:=hide hb6
   by_cases hE0:E=0
   ·subst hE0
    have hA:=At.new w5 vk vi vs
    obtain⟨v0,v1,v2⟩:=hA.cells
    obtain⟨a',n',c',hbx,hs⟩:=hleft
    obtain⟨hn',hs⟩:=hs rfl
    have hlo:∀ g,(Value.slice (some ⟨R,0,none⟩) N N).ownBlock=some g→g≠w.heap.size:=fun g hg e=>by
     subst e
     obtain⟨a,n,c,hbx,_⟩:=HO.out.left
     exact owns_ne_block HO.out.row hbx (by decide) hg
    have hrow5:OwnV w5 w.heap.size (.slice (some ⟨R,0,none⟩) N N) (Z.pF kind b N j):=owns_of_block HO.out.row fun g hg=>hkp.block g (owns_lt HO.out.row hg).2 (hlo g hg)
    have hrow:OwnV (w5.alloc (.cells #[.int .i64 vk,.int .i64 vi,.string vs] 25)) w.heap.size (.slice (some ⟨R,0,none⟩) N N) (Z.pF kind b N j):=World.ownsRow.alloc hrow5 _
    have hRB:R≠w.heap.size:=hlo R rfl
    have hs6:Sl (w5.alloc (.cells #[.int .i64 vk,.int .i64 vi,.string vs] 25)) .u8 a' n' c' (ints (Z.oR (Z.pR kind j b) kind)):=hs.below (below_one w5 _)
    have hbx6:=heap_alloc_keep (.cells #[.int .i64 vk,.int .i64 vi,.string vs] 25) hbx
    have hm6:(w5.alloc (.cells #[.int .i64 vk,.int .i64 vi,.string vs] 25)).heap[w.heap.size+1+1]?=some (.cells #[.int .i64 ((Z.most kind:Nat):Int)] 3 (0,0)):=heap_alloc_keep _ ((hkp.block _ (lt_of_block HO.out.most) (by omega)).trans HO.out.most)
    have hk6:(w5.alloc (.cells #[.int .i64 vk,.int .i64 vi,.string vs] 25)).heap[w.heap.size+1]?=some (.cells #[.int .i64 kind] 3 (0,0)):=heap_alloc_keep _ ((hkp.block _ (lt_of_block HO.out.knd) (by omega)).trans HO.out.knd)
    have hoff:=sl_off_row hs6 hrow
    have hRm:R≠w.heap.size+1+1:=fun e=>owns_ne_block hrow hm6 (by decide) (by rw[e];rfl)
    have hRk:R≠w.heap.size+1:=fun e=>owns_ne_block hrow hk6 (by decide) (by rw[e];rfl)
    have hr6:=hrow
    unfold OwnV at hr6
    rw[pF_length hj] at hr6
    obtain⟨z0,z1,z2⟩:=cellsV_get _ j _ (pF_at (kind:=kind) (b:=b) hjl)
    have c0:=(hr6.cellAt (j*3) (by omega)).trans z0
    have c1:=(hr6.cellAt (j*3+1) (by omega)).trans z1
    have c2:=(hr6.cellAt (j*3+2) (by omega)).trans z2
    have f0:=hr6.frozenAt (j*3)
    have f1:=hr6.frozenAt (j*3+1)
    have f2:=hr6.frozenAt (j*3+2)
    have hlow:w.heap.size≤R:=(owns_lt hrow (k:=R) rfl).1
    have HR6:=hide hr6
    have HS6:=hide hs6
    have HX6:=hide hbx6
    have HM6:=hide hm6
    have HK6:=hide hk6
    have HOFF:=hide hoff
    have HE:=hide hE
    have HV:=hide hv
    have HNL:=hide (show n'≤b.length by
     have h2:=pR_len kind (j+1) b
     rw[pR_succ] at h2
     omega)
    clear hr6 hs6 hbx6 hm6 hk6 hoff hE hv hrow hrow5 hlo hbx hs hn' hkp hb5 hb6 z0 z1 z2 hA HCL
    go_wp2
    go_roundw
    case rel =>
     have hk3:Kept (fun k=>k=R) (w5.alloc (.cells #[.int .i64 vk,.int .i64 vi,.string vs] 25)) ((((w5.alloc (.cells #[.int .i64 vk,.int .i64 vi,.string vs] 25)).setCell ⟨R,j*3,none⟩ (.int .i64 vk)).setCell ⟨R,j*3+1,none⟩ (.int .i64 vi)).setCell ⟨R,j*3+2,none⟩ (.string vs)) :=
      Kept.setCell (F:=fun k=>k=R) (p:=⟨R,j*3+2,none⟩) (Kept.setCell (F:=fun k=>k=R) (p:=⟨R,j*3+1,none⟩) (Kept.setCell (F:=fun k=>k=R) (p:=⟨R,j*3,none⟩) (Kept.refl _ _) (.inl rfl) _) (.inl rfl) _) (.inl rfl) _
     have hrb:=((((HR6.out.stored (j*3) (.int .i64 vk)).1.stored (j*3+1) (.int .i64 vi)).1).stored (j*3+2) (.string vs)).1
     refine⟨j+1,hjl,by go_num,hide ⟨HB6.out.trans (hk3.below HB6.out.size (by rintro k rfl;exact hlow)),⟨a',n',c',(hk3.block _ (lt_of_block HX6.out) (fun e=>hRB e.symm)).trans HX6.out,?_,HNL.out⟩,(hk3.block _ (lt_of_block HM6.out) (fun e=>hRm e.symm)).trans HM6.out,(hk3.block _ (lt_of_block HK6.out) (fun e=>hRk e.symm)).trans HK6.out,?_,?_⟩⟩
     ·rw[pR_succ]
      exact HS6.out.kept0 hk3 HOFF.out
     ·unfold OwnV
      rw[← pF_set hjl HV.out,cellsV_set _ _ _ (by rw[pF_length hj];exact hjl),List.length_set,pF_length hj]
      exact hrb
     ·rw[pE_succ kind j b HO.out.ok]
      exact HE.out
    case measure=>simp[intOf];omega
   ·have hEi:((E:Nat):Int)≠0:=by omega
    obtain⟨e,he⟩:∃ e:Int,((E:Nat):Int)=e:=⟨_,rfl⟩
    rw[he] at hEi ⊢
    have HP:Hid (Z.cE b (N:Int) kind=e):=by
     show _=_
     have h1:=pE_stop HO.out.ok hjl (by rw[hE];exact hE0)
     rw[cE_bad HK.out hN (by rw[h1,hE];exact hE0),h1,hE,he]
    have HEI:=hide hEi
    clear hE hv hleft hkp hb5 hb6 hE0 he HCL
    go_wp2
    go_ret2
    exact ColOf.no HP.out HEI.out HB6.out
  ·obtain rfl:j=N:=by omega
   obtain⟨a,n,c,hbx,hs,hn⟩:=HO.out.left
   have hnl:(Z.pR kind j b).length=n:=by rw[← hs.1,ints_length]
   obtain⟨c0,_⟩:=cell_of_heap hbx
   have hnm:n≤140737488355328:=by rw[HL.out] at hn;omega
   have HROW:Hid (OwnV wr w.heap.size (.slice (some ⟨R,0,none⟩) j j) (Z.pL kind j b)):=by
    have h1:=HO.out.row
    unfold Z.pF at h1
    rw[Nat.sub_self,List.replicate_zero,List.append_nil] at h1
    exact h1
   by_cases h0:n=0
   ·subst h0
    have HP:Hid (Z.cE b (j:Int) kind=0):=cE_ok HK.out hN HO.out.ok (List.eq_nil_of_length_eq_zero hnl)
    have HLOW:=hide HO.out.low
    clear HO hs hbx hn hnl
    go_wp2
    go_ret2
    exact ColOf.yes HP.out HROW.out HLOW.out
   ·have HP:Hid (Z.cE b (j:Int) kind=4):=cE_behind HK.out hN HO.out.ok (fun e=>by rw[e] at hnl;exact h0 hnl.symm)
    have HLOW:=hide HO.out.low
    have hpos:0<n:=by omega
    clear HO hs hbx hn hnl
    go_wp2
    go_ret2
    exact ColOf.no HP.out (by decide) HLOW.out
theorem pof_any (ao:Option Addr) (len cap:Nat) (b:List Nat) (n kind:Int) (w:World) (h:Sl w .u8 ao len cap (ints b)) (h256:∀ x∈b,x<256) (hm:len≤140737488355328) :
  Calls Tryz.prog 104 #[.slice ao len cap,.int .i64 n,.int .i64 kind] w (ColOf b n kind w):=by
 cases hk:Z.kindOk kind with
 | false =>
  have HK:=hide hk
  have hbel:Below w.heap.size w ((w.alloc (.cells #[.slice ao len cap] 22)).alloc (.cells #[.int .i64 kind] 3)):=((Below.refl _ _).alloc (Nat.le_refl _) _).alloc (by simp) _
  have HB:=hide hbel
  have q1:=heap_alloc_new (w.alloc (.cells #[.slice ao len cap] 22)) (.cells #[.int .i64 kind] 3)
  obtain⟨c1,_⟩:=cell_of_heap q1
  simp only[World.size_alloc] at c1
  clear hbel hk h h256 q1
  go_enter Tryz.func104,Tryz.ntmps104
  go_wp2_with fail
  refine (iscol_any _ _).mono ?_
  rintro e w2 ⟨rfl,rfl⟩
  rw[HK.out]
  go_wp2
  go_ret2
  exact ColOf.no (cE_kind HK.out) (by decide) HB.out
 | true =>
  by_cases hn:n<0∨4096<n
  ·have HK:=hide hk
   have HN:=hide hn
   have hbel:Below w.heap.size w ((w.alloc (.cells #[.slice ao len cap] 22)).alloc (.cells #[.int .i64 kind] 3)):=((Below.refl _ _).alloc (Nat.le_refl _) _).alloc (by simp) _
   have HB:=hide hbel
   have q1:=heap_alloc_new (w.alloc (.cells #[.slice ao len cap] 22)) (.cells #[.int .i64 kind] 3)
   obtain⟨c1,_⟩:=cell_of_heap q1
   simp only[World.size_alloc] at c1
   clear hbel hk h h256 q1
   rcases hn with hn|hn
   ·have hd1:decide (n<0)=true:=by simpa using hn
    go_enter Tryz.func104,Tryz.ntmps104
    go_wp2_with fail
    refine (iscol_any _ _).mono ?_
    rintro e w2 ⟨rfl,rfl⟩
    rw[HK.out]
    go_wp2
    go_ret2
    exact ColOf.no (cE_many HK.out HN.out) (by decide) HB.out
   ·have hd1:decide (n<0)=false:=by simp;omega
    have hd2:decide (4096<n)=true:=by simpa using hn
    go_enter Tryz.func104,Tryz.ntmps104
    go_wp2_with fail
    refine (iscol_any _ _).mono ?_
    rintro e w2 ⟨rfl,rfl⟩
    rw[HK.out]
    go_wp2
    go_ret2
    exact ColOf.no (cE_many HK.out HN.out) (by decide) HB.out
  ·obtain⟨N,rfl⟩:∃ N:Nat,n=(N:Int):=⟨n.toNat,by omega⟩
   exact pof_some ao len cap b N kind w h h256 hm (by omega) hk
theorem bsame_none (ao bo:Option Addr) (ca cb:Nat) (w:World) :
  Calls Tryz.prog 24 #[.slice ao 0 ca,.slice bo 0 cb] w fun e w'=>e=.returned (.bool true)∧Below w.heap.size w w':=by
 go_enter Tryz.func24,Tryz.ntmps24
 go_wp2_with fail
 go_rounds 1
 go_ret
 exact⟨rfl,Below.refl _ _⟩
set_option maxHeartbeats 1000000 in
theorem bsame_some (b1 o1 b2 o2 len ca cb:Nat) (l:List Bool) (w:World) (hm:len≤140737488355328) (h1:b1<w.heap.size) (h2:b2<w.heap.size) (hc1:∀ i,i<len→w.cell? ⟨b1,o1+i,none⟩=some (.bool (l.getD i false))) (hc2:∀ i,i<len→w.cell? ⟨b2,o2+i,none⟩=some (.bool (l.getD i false))) :
  Calls Tryz.prog 24 #[.slice (some ⟨b1,o1,none⟩) len ca,.slice (some ⟨b2,o2,none⟩) len cb] w fun e w'=>e=.returned (.bool true)∧Below w.heap.size w w':=by
 have hb:((len:Int) != (len:Int))=false:=by simp
 go_enter Tryz.func24,Tryz.ntmps24
 go_wp2_with fail
 go_loopw [5] (fun i wr=>∃ k:Nat,k≤len∧i=.int .i64 k∧Hid (Below w.heap.size w wr)) (fun i _=>len - (intOf i).toNat)
 case atStart=>exact⟨0,Nat.zero_le _,rfl,hide (Below.refl _ _)⟩
 case round =>
  obtain⟨k,hk,rfl,hkr⟩:=hrel
  by_cases hlt:k<len
  ·have e1:wr.cell? ⟨b1,o1+k,none⟩=some (.bool (l.getD k false)):=by rw[hkr.out.cell (p:=⟨b1,o1+k,none⟩) h1];exact hc1 k hlt
   have e2:wr.cell? ⟨b2,o2+k,none⟩=some (.bool (l.getD k false)):=by rw[hkr.out.cell (p:=⟨b2,o2+k,none⟩) h2];exact hc2 k hlt
   obtain⟨x,hxe⟩:∃ x,l.getD k false=x:=⟨_,rfl⟩
   rw[hxe] at e1 e2
   have hx:(x != x)=false:=by simp
   clear hc1 hc2 hxe
   go_wp2
   go_region
   all_goals go_wp2
   all_goals
    go_roundw
    case rel=>exact⟨k+1,by omega,by go_num,hide hkr.out.drew⟩
    case measure=>simp[intOf];omega
  ·clear hc1 hc2
   go_wp2
   go_ret
   exact⟨rfl,hkr.out⟩
theorem bsame_yes (ao bo:Option Addr) (len ca cb:Nat) (l:List Bool) (w:World) (h1:Sb w ao len ca l) (h2:Sb w bo len cb l) (hm:len≤140737488355328) :
  Calls Tryz.prog 24 #[.slice ao len ca,.slice bo len cb] w fun e w'=>e=.returned (.bool true)∧Below w.heap.size w w':=by
 by_cases h0:len=0
 ·subst h0;exact bsame_none ao bo ca cb w
 ·rcases h1.2.2.2.2 with h|⟨b1,o1,rfl,hb1,hc1⟩
  ·omega
  ·rcases h2.2.2.2.2 with h|⟨b2,o2,rfl,hb2,hc2⟩
   ·omega
   ·exact bsame_some b1 o1 b2 o2 len ca cb l w hm hb1 hb2 hc1 hc2
theorem slV_one (w:World) (k i:Int) (s:ByteArray):SlV (w.alloc (.cells #[.int .i64 k,.int .i64 i,.string s] 25)) (some ⟨w.heap.size,0,none⟩) 1 1 [⟨k,i,s⟩]:=by
 refine⟨rfl,Nat.le_refl _,by decide,by simp,.inr ⟨w.heap.size,0,rfl,by simp,fun j x hx=>?_⟩⟩
 match j,hx with
 | 0,hx=>simp at hx;subst hx;simp
def FewAns (len:Nat) (w:World) (e:Ending) (w':World):Prop:=∃ q,e=.returned (.bool q)∧(q=true→len≤1000)∧w'=w
theorem FewAns.mk {len:Nat} {w:World} {v:Value} (q:Bool) (h0:v=.bool q) (h:q=true→len≤1000):FewAns len w (.returned v) w:=⟨q,by rw[h0],h,rfl⟩
end Go.Proofs.YtnkpgmibhpmdhaaGreat
namespace Go.Proofs.YtnkpgmibhpmdhaaGreat
set_option linter.unusedVariables false
open Go.ChangeShapes Go.WideShapes Go.ChangeAt Go.RowKit
theorem own:ownKnob Tryz.prog.godebug=none:=by kernel_rfl
theorem laidOut:laidOutB Tryz.prog=true:=by kernel_rfl
theorem wf_u64 {n:Int} (h:(Lit.int .u64 n).wf=true):0≤n∧n<18446744073709551616:=by
 have:=bounds_u64 h;omega
theorem wf_i64 {n:Int} (h:(Lit.int .i64 n).wf=true) : -9223372036854775808≤n∧n<9223372036854775808:=by
 have:=bounds_i64 h;omega
theorem wf_u16 {n:Int} (h:(Lit.int .u16 n).wf=true):0≤n∧n<65536:=by
 have:=bounds_u16 h;omega
def Heavy {H:Type} (d:DataW H) (cap:Nat):Prop:=cap=0∨∃ elems spare,d=.slice elems spare∧elems.length+spare.length=cap
theorem reach_came {H:Type} {ts:List TypeId} {ds:List (DataW H)} {j:Nat} {t e:TypeId} {d:DataW H} {cap:Nat} (hsz:(DataW.weightsEach Tryz.prog ts ds).all (·≤reachBytes)=true)
  (ht:ts[j]?=some t) (hdj:ds[j]?=some d) (hu:Tryz.prog.underlying t=some (.slice e)) (hd:Heavy d cap):cap*Tryz.prog.bytesOf e≤140737488351232:=by
 rcases hd with rfl|⟨el,sp,rfl,rfl⟩
 ·simp
 ·have:=sized_slice hsz ht hdj hu
  simpa [reachBytes] using this
theorem Tryz.cellsVal:Tryz.prog.cellsOf 25=3:=by kernel_rfl
end Go.Proofs.YtnkpgmibhpmdhaaGreat
namespace Go.Proofs.YtnkpgmibhpmdhaaGreat
set_option linter.unusedVariables false
open Go.ChangeShapes Go.WideShapes Go.ChangeAt Go.RowKit Go.Deep
def Z.Wf (x:Z.V):Prop:=Z.I64 x.k∧Z.I64 x.i∧x.s.size≤maxLen
set_option maxRecDepth 10000 in
theorem open_valsI {H:Type} {enc:TypeId × Value→H} {W:World} {a:Option Addr} {len cap:Nat} {d:DataW H} {p:List MemPlace}
  (h:DataW.Trod enc Tryz.prog W 0 (fun _=>true) true 42 (.slice a len cap) d p):(∃ l:List Z.V,SlV W a len cap l∧∀ x∈l,Z.Wf x)∧Heavy d cap:=by
 obtain⟨fuel,hf⟩:=h
 rcases open_slice Tryz.underlying42 hf with ⟨hcs,_⟩|⟨x,l,c,m,n,D,Pl,hcs,_,hl,hm,hmm,hd,hx⟩
 ·simp[Value.cells] at hcs
  obtain⟨rfl,rfl,rfl⟩:=hcs
  exact⟨⟨[],⟨rfl,Nat.le_refl _,by decide,fun _=>rfl,.inl rfl⟩,by simp⟩,.inl rfl⟩
 ·simp[Value.cells] at hcs
  obtain⟨rfl,rfl,rfl⟩:=hcs
  simp only[if_true] at hmm
  subst hmm
  have each:∀ i,i<m→∃ q:Z.V,W.cell? (x.add (i*3))=some (.int .i64 q.k)∧W.cell? (x.add (i*3+1))=some (.int .i64 q.i)∧W.cell? (x.add (i*3+2))=some (.string q.s)∧Z.Wf q:=by
   intro i hi
   obtain⟨cs',h1,h2⟩:=hx i hi
   rw[Tryz.cellsVal] at h1
   obtain⟨_,hlen,hcell⟩:=World.cells?_some h1
   obtain⟨xs,k,hk,hxy,_,hxl,hf⟩:=DataW.trod_struct Tryz.underlying25 h2
   match xs,hxl,cs',hlen with
   | [y0,y1,y2],_,[v0,v1,v2],_ =>
    have k0:Tryz.prog.cellsOf 3=1:=by kernel_rfl
    have k1:Tryz.prog.cellsOf 2=1:=by kernel_rfl
    have k2:Tryz.prog.cellsOf 9=1:=by kernel_rfl
    have g0:=hf 0 _ rfl
    have g1:=hf 1 _ rfl
    have g2:=hf 2 _ rfl
    simp[k0,k1,k2] at g0 g1 g2
    obtain⟨n0,e0,_,wx⟩:=DataW.trod_int Tryz.underlying3 g0
    obtain⟨n1,e1,_,wy⟩:=DataW.trod_int Tryz.underlying2 g1
    obtain⟨s2,e2,_,ws⟩:=DataW.trod_string Tryz.underlying9 g2
    simp at e0 e1 e2
    subst e0 e1 e2
    have c0:=hcell 0 (by omega)
    have c1:=hcell 1 (by omega)
    have c2:=hcell 2 (by omega)
    rw[add_add] at c0 c1 c2
    exact⟨⟨n0,n1,s2⟩,by simpa using c0,by simpa using c1,by simpa using c2,wf_i64 wx,wf_i64 wy,ws⟩
  obtain⟨q,hq⟩:=@choose_lt Z.V ⟨⟨0,0,⟨#[]⟩⟩⟩ _ _ each
  refine⟨⟨(List.range len).map q,⟨by simp,hl,hm,by simp,?_⟩,fun y hy=>?_⟩,.inr ⟨_,_,(Prod.mk.inj hd).1,by simp;omega⟩⟩
  rotate_left
  ·obtain⟨j,hj,rfl⟩:=List.mem_map.1 hy
   exact (hq j (by have:=List.mem_range.1 hj;omega)).2.2.2
  by_cases h0:len=0
  ·exact .inl h0
  ·obtain⟨b,off,spot⟩:=x
   have h1:=(hq 0 (by omega)).1
   have hspot:spot=none:=by simpa [Addr.add] using World.cell?_spot h1
   subst hspot
   refine .inr ⟨b,off,rfl,?_,fun j y hy=>?_⟩
   ·have:=cell_lt h1
    simpa [Addr.add] using this
   ·have hj:j<len:=by have:=(List.getElem?_eq_some_iff.1 hy).1;simpa using this
    obtain rfl:q j=y:=by simpa [hj] using hy
    obtain⟨c0,c1,c2,_⟩:=hq j (by omega)
    rw[Addr.add_lit] at c0 c1 c2
    exact⟨c0,by rw[← Nat.add_assoc] at c1;exact c1,by rw[← Nat.add_assoc] at c2;exact c2⟩
end Go.Proofs.YtnkpgmibhpmdhaaGreat
namespace Go.Proofs.YtnkpgmibhpmdhaaGreat
set_option linter.unusedVariables false
open Go.RowKit
theorem fits {l:List Z.V} {kind:Int} (h:Z.chk l kind=0) (hwf:∀ x∈l,Z.Wf x):∀ x∈l,Z.Fit kind x:=fun x hx=>⟨(chk_zero h).2.2.1 x hx,(chk_zero h).2.2.2 x hx,(hwf x hx).2.1⟩
theorem kindOk_of {l:List Z.V} {kind:Int} (h:Z.chk l kind=0):Z.kindOk kind=true:=by
 rcases (chk_zero h).1 with rfl|rfl|rfl<;>rfl
theorem lb_lt {x:Z.V} (hi:Z.I64 x.i):∀ y∈Z.lb x,y<256:=by
 obtain⟨k,i,s⟩:=x
 by_cases h1:k=1
 ·subst h1;rw[lb_int];exact E.leb_lt _
 ·by_cases h2:k=2
  ·subst h2;rw[lb_float]
   have hk:=D.ky_in (Z.u_in i)
   have hk2:(D.ky (Z.u i)).toNat<18446744073709551616:=by have:=hk.1;have:=hk.2;omega
   exact Z.k8_lt hk2
  ·by_cases h3:k=3
   ·subst h3;rw[lb_text]
    intro y hy
    rcases List.mem_append.1 hy with hy|hy
    ·exact E.leb_lt _ y hy
    ·exact sb_lt s y hy
   ·rw[lb_else h1 h2 h3];simp
theorem pb_lt {l:List Z.V} (h:∀ x∈l,Z.Wf x):∀ y∈Z.pb l,y<256:=by
 intro y hy
 obtain⟨x,hx,hy⟩:=List.mem_flatMap.1 hy
 exact lb_lt (h x hx).2.1 y hy
theorem cb_lt {l:List Z.V} {kind:Int} (h:∀ x∈l,Z.Wf x):∀ y∈Z.cb l kind,y<256:=by
 unfold Z.cb
 split
 ·exact pb_lt h
 ·simp
theorem cb_len {l:List Z.V} {kind:Int} (h:∀ x∈l,Z.Wf x):(Z.cb l kind).length≤4235264:=by
 unfold Z.cb
 split
 ·rename_i h0
  have h1:=pb_le l (fun x hx=>(h x hx).2.1) (chk_zero h0).2.2.2
  have h2:=(chk_zero h0).2.1
  omega
 ·simp
theorem oV_i64 {l:List Nat} (h256:∀ x∈l,x<256) (kind:Int):Z.I64 (Z.oV l kind).i:=by
 unfold Z.oV
 split
 ·unfold Z.oW
  split
  ·exact E.zag_lt _ (E.gN_lt h256)
  ·split
   ·exact Z.sg_in (D.bt_in ⟨by omega,by have:=Z.o8_lt h256;omega⟩)
   ·split
    ·exact⟨by show (-9223372036854775808:Int)≤0;decide,by show (0:Int)<9223372036854775808;decide⟩
    ·exact⟨by decide,by decide⟩
 ·exact⟨by decide,by decide⟩
theorem pL_i64 (kind:Int):∀ (n:Nat) (b:List Nat),(∀ x∈b,x<256)→∀ x∈Z.pL kind n b,Z.I64 x.i
 | 0,_,_,x,hx=>by simp[Z.pL] at hx
 | n+1,b,h,x,hx=>by
  rw[Z.pL] at hx
  rcases List.mem_cons.1 hx with rfl|hx
  ·exact oV_i64 h kind
  ·exact pL_i64 kind n _ (oR_lt h kind) x hx
theorem cL_i64 {b:List Nat} {n kind:Int} (h:∀ x∈b,x<256):∀ x∈Z.cL b n kind,Z.I64 x.i:=by
 unfold Z.cL
 split
 ·exact pL_i64 kind _ b h
 ·simp
theorem cE_zero {b:List Nat} {n kind:Int} (h256:∀ x∈b,x<256) (h:Z.cE b n kind=0):∃ N:Nat,n=(N:Int)∧(Z.cL b n kind).length=N∧Z.chk (Z.cL b n kind) kind=0∧Z.cb (Z.cL b n kind) kind=b:=by
 have hc:Z.cL b n kind=Z.pL kind n.toNat b:=by unfold Z.cL;rw[if_pos h]
 rw[hc]
 unfold Z.cE at h
 split at h
 ·exact absurd h (by decide)
 ·rename_i h1
  split at h
  ·exact absurd h (by decide)
  ·rename_i h2
   split at h
   ·rename_i h3;omega
   ·rename_i h3
    split at h
    ·exact absurd h (by decide)
    ·rename_i h4
     have h1':Z.kindOk kind=true:=by simpa using h1
     have h3':Z.pE kind n.toNat b=0:=by simpa using h3
     have h4':Z.pR kind n.toNat b=[]:=by simpa using h4
     obtain⟨g1,g2⟩:=p_two (kind_cases h1') n.toNat b h256 h3'
     have h5:Z.chk (Z.pL kind n.toNat b) kind=0:=chk_of (kind_cases h1') (by rw[pL_length];omega) (fun x hx=>(g1 x hx).1) (fun x hx=>(g1 x hx).2)
     refine⟨n.toNat,by omega,pL_length _ _ _,h5,?_⟩
     rw[cb_ok h5]
     rw[h4',List.append_nil] at g2
     exact g2
theorem cE_back {l:List Z.V} {kind:Int} {len:Nat} (h:Z.chk l kind=0) (hwf:∀ x∈l,Z.Wf x) (hl:l.length=len):Z.cE (Z.cb l kind) (len:Int) kind=0∧Z.cL (Z.cb l kind) (len:Int) kind=l∧Z.cE (Z.cb l kind++[0]) (len:Int) kind=4:=by
 have h1:=p_back kind [] l (fits h hwf)
 have h2:=p_back kind [0] l (fits h hwf)
 have h3:=(chk_zero h).2.1
 rw[List.append_nil,hl] at h1
 rw[hl] at h2
 rw[hl] at h3
 rw[cb_ok h]
 have h4:=cE_ok (kindOk_of h) h3 h1.1 h1.2.2
 refine⟨h4,?_,cE_behind (kindOk_of h) h3 h2.1 (by rw[h2.2.2];simp)⟩
 unfold Z.cL
 rw[if_pos h4,Int.toNat_natCast]
 exact h1.2.1
end Go.Proofs.YtnkpgmibhpmdhaaGreat
namespace Go.Proofs.YtnkpgmibhpmdhaaGreat
set_option linter.unusedVariables false
set_option maxRecDepth 10000
open Go.RowKit
theorem dcb_lt {l:List Z.V} {kind:Int} (h:∀ x∈l,Z.Wf x):∀ y∈Z.dcb l kind,y<256:=by
 intro y hy
 unfold Z.dcb at hy
 split at hy
 ·unfold Z.db at hy
  rcases List.mem_append.1 hy with hy|hy
  ·exact E.leb_lt _ y hy
  ·rcases List.mem_append.1 hy with hy|hy
   ·exact pb_lt (fun x hx=>h x (words_mem (words_of l) hx)) y hy
   ·exact A.bytesOf_lt _ y hy
 ·simp at hy
theorem dcb_len {l:List Z.V} {kind:Int} (h:∀ x∈l,Z.Wf x):(Z.dcb l kind).length≤5000000:=by
 by_cases h0:Z.chk l kind=0
 ·obtain⟨_,hl,_,h2⟩:=chk_zero h0
  have hw:=wds_len l
  rw[dcb_ok h0]
  unfold Z.db
  rw[List.length_append,List.length_append,A.bytesOf_length,bitsAll_length,ints_length,cdL_ok (words_cdE _),List.length_map]
  have h3:=E.leb_ten (Z.wds l).length (by omega)
  have h4:=pb_le (Z.wds l) (fun x hx=>(h x (words_mem (words_of l) hx)).2.1) (fun x hx=>h2 x (words_mem (words_of l) hx))
  have h5:l.length*Z.dwd (Z.wds l).length≤4096*12:=Nat.mul_le_mul hl (dwd_le (by omega))
  omega
 ·rw[dcb_bad h0];simp
theorem dback_is {l:List Z.V} {kind:Int} {len:Nat} (h:Z.chk l kind=0) (hwf:∀ x∈l,Z.Wf x) (hl:l.length=len):Z.dE (Z.dcb l kind) (len:Int) kind=0∧Z.dVs (Z.dcb l kind) (len:Int) kind=l:=by
 obtain⟨h1,h2⟩:=d_back (fun x hx=>(hwf x hx).2.1) h
 rw[hl] at h1 h2
 have hn:=(chk_zero h).2.1
 rw[dcb_ok h]
 have h3:Z.dE (Z.db l) (len:Int) kind=0:=by rw[dE_is (kindOk_of h) (by omega),dN_of h1];rfl
 refine⟨h3,?_⟩
 unfold Z.dVs Z.dWs Z.dCs
 rw[if_pos h3,if_pos h3,Int.toNat_natCast]
 exact h2
theorem dtwo_is {b:List Nat} {n kind:Int} (h256:∀ x∈b,x<256) (h:Z.dE b n kind=0):∃ N:Nat,n=(N:Int)∧(Z.dVs b n kind).length=N∧Z.chk (Z.dVs b n kind) kind=0∧Z.dcb (Z.dVs b n kind) kind=b:=by
 obtain⟨h1,h2,h3,h4⟩:=dE_zero h
 obtain⟨N,rfl⟩:=Int.eq_ofNat_of_zero_le h2
 rw[Int.toNat_natCast] at h4
 obtain⟨g1,g2,g3⟩:=d_two (kind_cases h1) (by omega) h256 h4
 have hv:Z.dVs b (N:Int) kind=Z.dV (Z.dW kind b) (Z.dC kind N b):=by
  unfold Z.dVs Z.dWs Z.dCs
  rw[if_pos h,if_pos h,Int.toNat_natCast]
 rw[hv]
 exact⟨N,rfl,g1,g2,by rw[dcb_ok g2];exact g3⟩
theorem dVs_i64 {b:List Nat} {n kind:Int} (h256:∀ x∈b,x<256):∀ x∈Z.dVs b n kind,Z.I64 x.i:=by
 intro x hx
 unfold Z.dVs Z.dV at hx
 obtain⟨c,_,rfl⟩:=List.mem_map.1 hx
 by_cases hc:c<(Z.dWs b n kind).length
 ·have hm:=List.mem_of_getElem? (get_lt hc)
  obtain⟨y,hy⟩:∃ y,(Z.dWs b n kind).getD c ⟨0,0,⟨#[]⟩⟩=y:=⟨_,rfl⟩
  rw[hy] at hm ⊢
  unfold Z.dWs at hm
  split at hm
  ·exact pL_i64 kind _ _ (fun x hx=>h256 x (List.mem_of_mem_drop hx)) y hm
  ·simp at hm
 ·rw[List.getD_eq_getElem?_getD,List.getElem?_eq_none (by omega)]
  exact⟨by decide,by decide⟩
end Go.Proofs.YtnkpgmibhpmdhaaGreat

/- Contracts and plain facts, one behind the other: KA YA YV1 YV2 -/
import Derived.Sort.LotA
import Derived.Test.YtnkpgmibhpmdhaaGreatProg
import Derived.Shelf.SlSortCmp.KitK
import Derived.Sort.WalkA
import Derived.Sort.WalkB2
import Derived.Sort.WalkB12
import Derived.Deep.LoopGhost
import Derived.Test.YtnkpgmibhpmdhaaGreatBeAJ
namespace Go.Proofs.YtnkpgmibhpmdhaaGreat
set_option linter.unusedVariables false
set_option maxRecDepth 10000
open Go.RowKit
theorem SlV.here {w:World} {ao:Option Addr} {len cap:Nat} {l:List Z.V} (h:SlV w ao len cap l) {j:Nat} (hj:j<len):∃ b off k i s,ao=some ⟨b,off,none⟩∧b<w.heap.size∧l[j]?=some ⟨k,i,s⟩ ∧
  w.cell? ⟨b,off+j*3,none⟩=some (.int .i64 k)∧w.cell? ⟨b,off+j*3+1,none⟩=some (.int .i64 i)∧w.cell? ⟨b,off+j*3+2,none⟩=some (.string s):=by
 obtain⟨h1,h2,h3,h4,h5⟩:=h
 rcases h5 with h5|⟨b,off,rfl,hlt,h5⟩
 ·omega
 ·obtain⟨⟨k,i,s⟩,hx⟩:∃ x,l[j]?=some x:=⟨l[j]'(by omega),List.getElem?_eq_getElem _⟩
  obtain⟨c1,c2,c3⟩:=h5 j _ hx
  exact⟨b,off,k,i,s,rfl,hlt,hx,c1,c2,c3⟩
theorem Sl.here {w:World} {k:IntKind} {ao:Option Addr} {len cap:Nat} {l:List Int} (h:Sl w k ao len cap l) {j:Nat} (hj:j<len):∃ b off,ao=some ⟨b,off,none⟩∧b<w.heap.size∧w.cell? ⟨b,off+j,none⟩=some (.int k (l.getD j 0)):=by
 obtain⟨h1,h2,h3,h4,h5⟩:=h
 rcases h5 with h5|⟨b,off,rfl,hlt,h5⟩
 ·omega
 ·exact⟨b,off,rfl,hlt,h5 j hj⟩
theorem Tryz.infoW64:(Tryz.prog.info? 49).map (fun i=>(i.zero,i.size,i.bytes))=some (some (.int .u64 0),1,8):=by kernel_rfl
def OwnU (w:World) (B:Nat) (v:Value) (l:List Nat):Prop:=w.ownsRow B 49 1 v l.length ((ints l).map (Value.int .u64))
theorem OwnU.none (w:World) (B:Nat):OwnU w B (.slice none 0 0) []:=World.ownsRow_nil _ _ _ _
theorem OwnU.below {w w':World} {B:Nat} {v:Value} {l:List Nat} (h:OwnU w B v l) (hb:Below w.heap.size w w'):OwnU w' B v l:=owns_below h hb
theorem OwnU.sl {w:World} {B:Nat} {v:Value} {l:List Nat} (h:OwnU w B v l):∃ a c,v=.slice a l.length c∧Sl w .u64 a l.length c (ints l):=by
 obtain⟨a,c,h1,h2,_⟩:=Sl.of_owns (l:=ints l) (k:=.u64) (by rw[ints_length];exact h)
 rw[ints_length] at h1 h2
 exact⟨a,c,h1,h2⟩
theorem wpList_appU {w:World} {ops:Array Oper} {rest:List Oper} {o:Oper} {a:Act} {Q:Exit→Act→World→Prop} (hgd:o.guard=none) (s x:Operand)
  (ho:o.op=.call { callee:=.builtin .append,args:=#[s,x],argTypes:=#[123,123] })
  (base:Nat) (v:Value) (l:List Nat) (hs:a.eval s=v) (hown:OwnU w base v l) (ao:Option Addr) (m c:Nat) (news:List Nat) (hx:a.eval x=.slice ao m c) (hsl:Sl w .u64 ao m c (ints news)) (hlim:l.length+m≤17592186044000) (hbase:base≤w.heap.size)
  (r:List Nat) (hr:l++news=r) (h:∀ v' w',OwnU w' base v' r→Below base w w'→wpList Tryz.prog ops Q rest (a.put o.dst v') w'):wpList Tryz.prog ops Q (o :: rest) a w:=by
 obtain⟨i0,hi,hz0,hz1,hz2⟩:=info_parts Tryz.infoW64
 have hm:news.length=m:=by rw[← hsl.1,ints_length]
 refine wpList_append_to hgd s x 123 ho base 49 i0 (.int .u64 0) 1 8 Tryz.underlying123 hi hz0 hz1 hz2 rfl (by decide) v l.length _ hs hown ao m c ((ints news).map (Value.int .u64)) hx ?_ (by simp[ints_length,hm]) hsl.news ?_ (by unfold maxLen;omega) (by omega) hbase ?_
 ·intro e
  have h4:=hsl.2.2.2.1 e
  have h2:=hsl.2.1
  exact⟨by omega,h4⟩
 ·intro u hu
  obtain⟨y,_,rfl⟩:=List.mem_map.1 hu
  rfl
 ·intro v' w' ho' has'
  refine h v' w' ?_ (has'.below hbase (fun k hk=>(owns_lt hown hk).1))
  subst hr
  show World.ownsRow _ _ _ _ _ _ _
  unfold ints at *
  rw[List.length_append,hm,List.map_append,List.map_append]
  exact ho'
def StepsAns (l:List Z.V) (w:World) (e:Ending) (w':World):Prop:=∃ a c,e=.returned (.slice a (Z.dst l).length c)∧Sl w' .u64 a (Z.dst l).length c (ints (Z.dst l))∧Below w.heap.size w w'
def Z.dk (l:List Z.V) (j:Nat):List Nat:=Z.dst (l.take (j+1))
theorem dk_zero (l:List Z.V):Z.dk l 0=[]:=by
 unfold Z.dk
 cases l<;>rfl
theorem dk_next {l:List Z.V} {j:Nat} {x y:Z.V} (hx:l[j]?=some x) (hy:l[j+1]?=some y):Z.dk l j++[E.zig (wrap64 (y.i - x.i))]=Z.dk l (j+1):=(dst_step hx hy).symm
theorem dk_length {l:List Z.V} {j:Nat} (h:j<l.length):(Z.dk l j).length=j:=by unfold Z.dk;rw[dst_length,List.length_take];omega
theorem dk_all {l:List Z.V} {j:Nat} (h:l.length≤j+1):Z.dk l j=Z.dst l:=by unfold Z.dk;rw[List.take_of_length_le h]
def stepsTbl (b off len cap j k:Nat) (x y d:Int) (z:Nat) (u3:Value):List (Nat × V.Ent) :=
 [(3,V.Ent.is (u3)),
  (0,V.Ent.is (.slice (some ⟨b,off,none⟩) len cap)),
  (4,V.Ent.is (.int .i64 (k:Int))),
  (11,V.Ent.is (u3)),
  (12,V.Ent.is (.slice (some ⟨b,off,none⟩) len cap)),
  (13,V.Ent.is (.int .i64 (k:Int))),
  (14,V.Ent.is (.pointer (some ⟨b,off+k*3,none⟩))),
  (15,V.Ent.is (.pointer (some ⟨b,off+k*3+1,none⟩))),
  (16,V.Ent.is (.int .i64 y)),
  (17,V.Ent.is (.slice (some ⟨b,off,none⟩) len cap)),
  (18,V.Ent.is (.int .i64 (k:Int))),
  (19,V.Ent.is (.int .i64 (j:Int))),
  (20,V.Ent.is (.pointer (some ⟨b,off+j*3,none⟩))),
  (21,V.Ent.is (.pointer (some ⟨b,off+j*3+1,none⟩))),
  (22,V.Ent.is (.int .i64 x)),
  (23,V.Ent.is (.int .i64 d)),
  (24,V.Ent.is (.int .u64 (z:Int))),
  (25,V.Ent.slU 1 [z])]
set_option maxHeartbeats 1000000 in
theorem steps_any (ao:Option Addr) (len cap:Nat) (l:List Z.V) (w:World) (h:SlV w ao len cap l) (hI:∀ x∈l,Z.I64 x.i) (hm:len≤1099511627776) :
  Calls Tryz.prog 158 #[.slice ao len cap] w (StepsAns l w):=by
 have HS:=hide h
 have HL:=hide h.1
 have HI:=hide hI
 clear h hI
 go_enter Tryz.func158,Tryz.ntmps158
 go_wp2_with fail
 go_loopw [3,4] (fun v i wr=>∃ j k:Nat,k=j+1∧(k≤len∨j=0)∧i=.int .i64 (k:Int)∧Hid (OwnU wr w.heap.size v (Z.dk l j))∧Hid (Below w.heap.size w wr)) (fun _ i _=>len+1 - (intOf i).toNat)
 case atStart=>exact⟨0,1,rfl,.inr rfl,rfl,by rw[dk_zero];exact OwnU.none _ _,hide (Below.refl _ _)⟩
 case round =>
  obtain⟨j,k,hk,hj,rfl,hrow,hbw⟩:=hrel
  by_cases hjl:k<len
  ·obtain⟨b,off,xk,x,xs,rfl,hlt0,hx,c1,c2,c3⟩:=HS.out.here (j:=j) (by omega)
   obtain⟨b',off',yk,y,ys,hbb,_,hy,k1,k2,k3⟩:=HS.out.here hjl
   injection hbb with hbb
   injection hbb with hb1 hb2 _
   subst hb1 hb2
   have d2:wr.cell? ⟨b,off+j*3+1,none⟩=some (.int .i64 x):=by rw[hbw.out.cell (p:=⟨b,off+j*3+1,none⟩) hlt0];exact c2
   have e2:wr.cell? ⟨b,off+k*3+1,none⟩=some (.int .i64 y):=by rw[hbw.out.cell (p:=⟨b,off+k*3+1,none⟩) hlt0];exact k2
   have hlt:b<wr.heap.size:=Nat.lt_of_lt_of_le hlt0 hbw.out.size
   have hn:=dk_next hx (by rw[← hk];exact hy)
   have hdl:=dk_length (l:=l) (j:=j) (by rw[HL.out];omega)
   have hw:=(wrap64_is (y - x)).1
   obtain⟨d,hd⟩:∃ d,wrap64 (y - x)=d:=⟨_,rfl⟩
   have hnd:Z.dk l j++[E.zig d]=Z.dk l (j+1):=by rw[← hd];exact hn
   rw[hd] at hw
   obtain⟨z,hz⟩:∃ z:Nat,E.zig d=z:=⟨_,rfl⟩
   rw[hz] at hnd
   have HN:=hide hnd
   have HDL:=hide hdl
   have HW:=hide hw
   have HZ:=hide hz
   have HD:=hide hd
   have HK:=hide hk
   have HR:=hide hrow.out
   have hkj:(k:Int) - 1=(j:Int):=by omega
   have hdl2:(Z.dk l j).length≤17592186044000:=by rw[HDL.out];omega
   have hsz:=hbw.out.size
   have HDL2:=hide hdl2
   clear c1 c2 c3 k1 k2 k3 hx hy hn hnd hdl hw hd hz hrow hdl2 hk
   go_wp2_with fail
   refine V.wp_region_tail (w0:=wr) 15 [11,12,13,14,15,16,17,18,19,20,21,22,23,24,25] [3,0,4] (stepsTbl b off len cap j k x y d z u3) (by decide) rfl (by kernel_rfl) (by kernel_rfl) (by kernel_rfl) (Below.refl _ _) ?hb ?hs ?hd
   case hb =>
    intro d hd
    simp only[List.mem_cons,List.not_mem_nil,or_false] at hd
    rcases hd with rfl|rfl|rfl<;>rfl
   case hs =>
    refine⟨?_,?_,?_,?_,?_,?_,?_,?_,?_,?_,?_,?_,?_,?_,?_,trivial⟩
    ·exact V.Step.move (.inl rfl) (.inl rfl) (.inl ⟨_,rfl⟩) (fun _ h=>by cases h;rfl)
    ·exact V.Step.move (.inl rfl) (.inl rfl) (.inl ⟨_,rfl⟩) (fun _ h=>by cases h;rfl)
    ·exact V.Step.move (.inl rfl) (.inl rfl) (.inl ⟨_,rfl⟩) (fun _ h=>by cases h;rfl)
    ·exact V.Step.idxV (i:=(k:Int)) (.inl rfl) rfl rfl (.inl ⟨_,rfl⟩) rfl (by omega) (by omega) rfl (fun _ h=>by cases h;rfl)
    ·exact V.Step.fieldP (.inl rfl) rfl rfl (by omega) (fun _ h=>by cases h;rfl)
    ·exact V.Step.loadI (.inl rfl) rfl rfl Tryz.underlying2 hlt e2 (fun _ h=>by cases h;rfl)
    ·exact V.Step.move (.inl rfl) (.inl rfl) (.inl ⟨_,rfl⟩) (fun _ h=>by cases h;rfl)
    ·exact V.Step.move (.inl rfl) (.inl rfl) (.inl ⟨_,rfl⟩) (fun _ h=>by cases h;rfl)
    ·exact V.Step.bin (v1:=.int .i64 (k:Int)) (v2:=.int .i64 1) (v:=.int .i64 (j:Int)) (.inl rfl) rfl (.inl ⟨_,rfl⟩) (.inr ⟨_,rfl⟩) rfl rfl (fun w=>⟨rfl,V.sub_of (by rw[V.wrap_in ⟨by omega,by omega⟩];omega) w⟩) (fun _ h=>by cases h;rfl)
    ·exact V.Step.idxV (i:=(j:Int)) (.inl rfl) rfl rfl (.inl ⟨_,rfl⟩) rfl (by omega) (by omega) rfl (fun _ h=>by cases h;rfl)
    ·exact V.Step.fieldP (.inl rfl) rfl rfl (by omega) (fun _ h=>by cases h;rfl)
    ·exact V.Step.loadI (.inl rfl) rfl rfl Tryz.underlying2 hlt d2 (fun _ h=>by cases h;rfl)
    ·exact V.Step.bin (v1:=.int .i64 y) (v2:=.int .i64 x) (v:=.int .i64 d) (.inl rfl) rfl (.inl ⟨_,rfl⟩) (.inl ⟨_,rfl⟩) rfl rfl (fun w=>⟨rfl,V.sub_of HD.out w⟩) (fun _ h=>by cases h;rfl)
    ·exact V.Step.call1 (.inl rfl) rfl rfl Tryz.func71 (by decide +kernel) rfl (fun w1 hw1=>(zig_any d w1 HW.out.1 HW.out.2).mono (by rintro e w9 ⟨rfl,rfl⟩;exact⟨_,rfl,Below.refl _ _,fun d h=>by cases h;exact congrArg (fun z:Nat=>Value.int .u64 (z:Int)) HZ.out⟩))
    ·exact V.Step.oneU (.inl rfl) rfl rfl (fun _ h=>by cases h;rfl)
   case hd =>
   intro vs wa hwa hkk
   have v11:vs 11=u3:=hkk 0 _ 11 rfl rfl
   obtain⟨a25,c25,v25,s25⟩:=hkk 14 _ 25 rfl rfl
   obtain⟨x12,hx12⟩:∃ u,vs 12=u:=⟨_,rfl⟩
   obtain⟨x13,hx13⟩:∃ u,vs 13=u:=⟨_,rfl⟩
   obtain⟨x14,hx14⟩:∃ u,vs 14=u:=⟨_,rfl⟩
   obtain⟨x15,hx15⟩:∃ u,vs 15=u:=⟨_,rfl⟩
   obtain⟨x16,hx16⟩:∃ u,vs 16=u:=⟨_,rfl⟩
   obtain⟨x17,hx17⟩:∃ u,vs 17=u:=⟨_,rfl⟩
   obtain⟨x18,hx18⟩:∃ u,vs 18=u:=⟨_,rfl⟩
   obtain⟨x19,hx19⟩:∃ u,vs 19=u:=⟨_,rfl⟩
   obtain⟨x20,hx20⟩:∃ u,vs 20=u:=⟨_,rfl⟩
   obtain⟨x21,hx21⟩:∃ u,vs 21=u:=⟨_,rfl⟩
   obtain⟨x22,hx22⟩:∃ u,vs 22=u:=⟨_,rfl⟩
   obtain⟨x23,hx23⟩:∃ u,vs 23=u:=⟨_,rfl⟩
   obtain⟨x24,hx24⟩:∃ u,vs 24=u:=⟨_,rfl⟩
   simp only[V.puts,List.foldl_cons,List.foldl_nil,v11,v25,hx12,hx13,hx14,hx15,hx16,hx17,hx18,hx19,hx20,hx21,hx22,hx23,hx24,Act.put,List.setIfInBounds_toArray,List.set_cons_zero,List.set_cons_succ]
   have HBA:=hide (bthen hbw.out hwa)
   have HRA:=hide (HR.out.below hwa)
   have S25:=hide s25
   have hsza:=HBA.out.size
   clear hkk hwa s25 v11 v25 hx12 hx13 hx14 hx15 hx16 hx17 hx18 hx19 hx20 hx21 hx22 hx23 hx24
   simp only[List.drop]
   go_wp2_with (at_builtin;refine wpList_appU rfl (.tmp 11) (.tmp 25) rfl w.heap.size u3 (Z.dk l j) rfl HRA.out a25 1 c25 [z] rfl S25.out (by rw[HDL.out];omega) hsza (Z.dk l (j+1)) HN.out ?_)
   intro v' w' ho' hb'
   have HO:=hide ho'
   have HB:=hide (HBA.out.trans hb')
   clear ho' hb'
   go_wp2
   go_roundw
   case rel=>exact⟨j+1,k+1,by have:=HK.out;omega,.inl (by omega),by go_num,HO,HB⟩
   case measure=>simp[intOf];omega
  ·have hz:Z.dk l j=Z.dst l:=dk_all (by rw[HL.out];omega)
   have hrow1:=hrow.out
   rw[hz] at hrow1
   obtain⟨a,c,hv,hs⟩:=hrow1.sl
   have FIN:Hid (StepsAns l w (.returned u3) wr):=⟨a,c,by rw[hv],hs,hbw.out⟩
   clear hz hrow1 hv hs hrow
   go_wp2
   go_ret
   exact FIN.out
end Go.Proofs.YtnkpgmibhpmdhaaGreat
namespace Go.Proofs.YtnkpgmibhpmdhaaGreat
set_option linter.unusedVariables false
open Go.Sort
namespace Y
variable {α : Type} [Inhabited α]
def Via (f:Nat→Nat) (a b:Nat) (d d':Array α):Prop:=PermIn a b d d'∧∀ x,d'[x]! = d[f x]!
def sw (i j x:Nat):Nat:=if x=j then i else if x=i then j else x
def swR (a b n x:Nat):Nat:=if a≤x∧x<a+n then x - a+b else if b≤x∧x<b+n then x - b+a else x
def rot (a m b x:Nat):Nat:=if x<a then x else if x<a+(b - m) then x+(m - a) else if x<b then x - (b - m) else x
theorem Via.refl (a b:Nat) (d:Array α):Via (fun x=>x) a b d d:=⟨permIn_refl d a b,fun _=>rfl⟩
theorem Via.trans {f g:Nat→Nat} {a b:Nat} {d d1 d2:Array α} (h:Via f a b d d1) (k:Via g a b d1 d2):Via (fun x=>f (g x)) a b d d2 :=
 ⟨permIn_trans d d1 d2 a b h.1 k.1,fun x=>by rw[k.2,h.2]⟩
theorem Via.congr {f g:Nat→Nat} {a b:Nat} {d d1:Array α} (h:Via f a b d d1) (e:∀ x,f x=g x):Via g a b d d1:=⟨h.1,fun x=>by rw[h.2,e]⟩
theorem Via.mono {f:Nat→Nat} {a b a' b':Nat} {d d1:Array α} (h:Via f a b d d1) (ha:a'≤a) (hb:b≤b') (hs:b'≤d.size):Via f a' b' d d1 :=
 ⟨permIn_mono d d1 a b a' b' ha hb hs h.1,h.2⟩
theorem Via.size {f:Nat→Nat} {a b:Nat} {d d1:Array α} (h:Via f a b d d1):d1.size=d.size:=h.1.1
theorem via_swp (d:Array α) {a b i j:Nat} (hai:a≤i) (hib:i<b) (haj:a≤j) (hjb:j<b) (hs:b≤d.size):Via (sw i j) a b d (swp d i j) :=
 ⟨swp_permIn d a b i j hai hib haj hjb hs,fun x=>by
  rw[swp_get d (show i<d.size by omega) (show j<d.size by omega) x]
  unfold sw
  by_cases h1:x=j
  ·rw[if_pos h1,if_pos h1]
  ·rw[if_neg h1,if_neg h1]
   by_cases h2:x=i
   ·rw[if_pos h2,if_pos h2]
   ·rw[if_neg h2,if_neg h2]⟩
theorem swR_zero (a b x:Nat):swR a b 0 x=x:=by unfold swR;split<;>(try split)<;>omega
theorem swR_step {a b i:Nat} (h:a+i+1≤b) (x:Nat):swR a b i (sw (a+i) (b+i) x)=swR a b (i+1) x:=by
 unfold swR sw;(repeat' split)<;>omega
theorem rot_left {m i j:Nat} (hi:i≤m) (hj:0<j) (hij:j<i) (x:Nat):swR (m - i) m j (rot (m - (i - j)) m (m+j) x)=rot (m - i) m (m+j) x:=by
 unfold swR rot;(repeat' split)<;>omega
theorem rot_right {m i j:Nat} (hi:i≤m) (hi0:0<i) (hij:i<j) (x:Nat):swR (m - i) (m+j - i) i (rot (m - i) m (m+(j - i)) x)=rot (m - i) m (m+j) x:=by
 unfold swR rot;(repeat' split)<;>omega
theorem rot_even {m i:Nat} (hi:i≤m) (x:Nat):swR (m - i) m i x=rot (m - i) m (m+i) x:=by
 unfold swR rot;(repeat' split)<;>omega
theorem rot_up {a k:Nat} (h:a≤k) (x:Nat):rot a (a+1) (k+1) (sw k (k+1) x)=rot a (a+1) (k+2) x:=by
 unfold rot sw;(repeat' split)<;>omega
theorem rot_down {k m:Nat} (h0:0<k) (h:k≤m) (x:Nat):rot k m (m+1) (sw k (k - 1) x)=rot (k - 1) m (m+1) x:=by
 unfold rot sw;(repeat' split)<;>omega
theorem rot_one {a:Nat} (x:Nat):rot a (a+1) (a+1) x=x:=by unfold rot;(repeat' split)<;>omega
theorem rot_none {m:Nat} (x:Nat):rot m m (m+1) x=x:=by unfold rot;(repeat' split)<;>omega
theorem rot_idl {m e:Nat} (x:Nat):rot m m e x=x:=by unfold rot;(repeat' split)<;>omega
theorem rot_idr {s m:Nat} (h:s≤m) (x:Nat):rot s m m x=x:=by unfold rot;(repeat' split)<;>omega
def lx (lt:α→α→Bool) (lab:α→Nat) (x y:α):Bool:=lt x y||(!lt y x&&decide (lab x<lab y))
variable {lt : α → α → Bool} {lab : α → Nat}
theorem lx_swo {β:Type} {lt:β→β→Bool} (h:SWO lt) (lab:β→Nat):SWO (lx lt lab):=by
 refine⟨fun x=>by simp[lx,h.irrefl],fun x y z h1 h2=>?_,fun x y z h1 h2=>?_⟩
 ·simp only[lx,Bool.or_eq_true,Bool.and_eq_true,Bool.not_eq_true',decide_eq_true_eq] at h1 h2 ⊢
  rcases h1 with h1|⟨h1,g1⟩
  ·left
   rcases h2 with h2|⟨h2,g2⟩
   ·exact h.trans x y z h1 h2
   ·cases hz:lt x z with
    | true=>rfl
    | false =>
     have:=h.ntrans x z y hz h2
     rw[h1] at this;exact this.symm
  ·rcases h2 with h2|⟨h2,g2⟩
   ·left
    cases hz:lt x z with
    | true=>rfl
    | false =>
     have:=h.ntrans y x z h1 hz
     rw[h2] at this;exact this.symm
   ·right
    exact⟨h.ntrans z y x h2 h1,by omega⟩
 ·simp only[lx,Bool.or_eq_false_iff,Bool.and_eq_false_iff,Bool.not_eq_false',decide_eq_false_iff_not] at h1 h2 ⊢
  refine⟨h.ntrans x y z h1.1 h2.1,?_⟩
  rcases h1.2 with g1|g1
  ·left
   cases hz:lt z x with
   | true=>rfl
   | false =>
    have:=h.ntrans y z x h2.1 hz
    rw[g1] at this;exact this.symm
  ·rcases h2.2 with g2|g2
   ·left
    cases hz:lt z x with
    | true=>rfl
    | false =>
     have:=h.ntrans z x y hz h1.1
     rw[g2] at this;exact this.symm
   ·right;omega
theorem lx_right {β:Type} {lt:β→β→Bool} {lab:β→Nat} {x y:β} (h:lab x<lab y):lx lt lab y x=lt y x:=by
 unfold lx
 rw[decide_eq_false (by omega:¬ lab y<lab x)];simp
def Cross (lt:α→α→Bool) (lab:α→Nat) (a m b:Nat) (d:Array α):Prop:=∀ x y,a≤x→x<m→m≤y→y<b→lab d[x]! < lab d[y]!
theorem Cross.test {a m b:Nat} {d:Array α} (h:Cross lt lab a m b d) {x y:Nat} (h1:a≤x) (h2:x<m) (h3:m≤y) (h4:y<b):lt d[y]! d[x]! = lx lt lab d[y]! d[x]! := (lx_right (h x y h1 h2 h3 h4)).symm
structure Found (Q:Nat→Bool) (lo hi s:Nat):Prop where
 ge:lo≤s
 le:s≤hi
 lower:∀ x,lo≤x→x<s→Q x=false
 upper:∀ x,s≤x→x<hi→Q x=true
section
variable {a m b : Nat} {d : Array α}
theorem mono1 (hL:SWO (lx lt lab)) (hs:SortedIn (lx lt lab) m b d) (hc:Cross lt lab a m b d) (ham:a<m) {x y:Nat} (h1:m≤x) (h2:x≤y) (h3:y<b) (h:lt d[y]! d[a]! = true):lt d[x]! d[a]! = true:=by
 rw[hc.test (Nat.le_refl _) ham (by omega) h3] at h
 rw[hc.test (Nat.le_refl _) ham h1 (by omega)]
 by_cases e:x=y
 ·subst e;exact h
 ·cases hz:lx lt lab d[x]! d[a]! with
  | true=>rfl
  | false =>
   have:=hL.ntrans _ _ _ (hs x y h1 (by omega) h3) hz
   rw[h] at this;exact this.symm
theorem mono2 (hL:SWO (lx lt lab)) (hs:SortedIn (lx lt lab) a m d) (hc:Cross lt lab a m b d) (hmb:m<b) {x y:Nat} (h1:a≤x) (h2:x≤y) (h3:y<m) (h:lt d[m]! d[x]! = true):lt d[m]! d[y]! = true:=by
 rw[hc.test h1 (by omega) (Nat.le_refl _) hmb] at h
 rw[hc.test (by omega) h3 (Nat.le_refl _) hmb]
 by_cases e:x=y
 ·subst e;exact h
 ·cases hz:lx lt lab d[m]! d[y]! with
  | true=>rfl
  | false =>
   have:=hL.ntrans _ _ _ hz (hs x y h1 (by omega) h3)
   rw[h] at this;exact this.symm
theorem mono3 (hL:SWO (lx lt lab)) (hs:SortedIn (lx lt lab) a m d) (hs2:SortedIn (lx lt lab) m b d) (hc:Cross lt lab a m b d) {p x y:Nat} (h1:a≤x) (h2:x≤y) (h3:y<m) (h4:m+y≤p) (h5:p<b+x) (h:lt d[p - x]! d[x]! = true):lt d[p - y]! d[y]! = true:=by
 rw[hc.test h1 (by omega) (by omega) (by omega)] at h
 rw[hc.test (by omega) h3 (by omega) (by omega)]
 by_cases e:x=y
 ·subst e;exact h
 ·cases hz:lx lt lab d[p - y]! d[y]! with
  | true=>rfl
  | false =>
   have g1:=hs x y h1 (by omega) h3
   have g2:=hs2 (p - y) (p - x) (by omega) (by omega) (by omega)
   have g3:=hL.ntrans _ _ _ g2 hz
   have g4:=hL.ntrans _ _ _ g3 g1
   rw[h] at g4;exact g4.symm
theorem merge1 (hL:SWO (lx lt lab)) (hs2:SortedIn (lx lt lab) m b d) (hc:Cross lt lab a m b d) (hm:m=a+1) (hb:b≤d.size) {i:Nat} (hf:Found (fun x=>!lt d[x]! d[a]!) m b i) {d':Array α} (hv:Via (rot a m i) a b d d') :
  PermIn a b d d'∧SortedIn (lx lt lab) a b d':=by
 obtain⟨h1,h2,h3,h4⟩:=hf
 refine⟨hv.1,fun x y hx hxy hy=>?_⟩
 rw[hv.2,hv.2]
 have lo:∀ z,m≤z→z<i→lx lt lab d[z]! d[a]! = true:=fun z g1 g2=>by
  rw[← hc.test (Nat.le_refl _) (by omega) g1 (by omega)];simpa using h3 z g1 g2
 have up:∀ z,i≤z→z<b→lx lt lab d[z]! d[a]! = false:=fun z g1 g2=>by
  rw[← hc.test (Nat.le_refl _) (by omega) (by omega) g2];simpa using h4 z g1 g2
 by_cases hyi:y<i
 ·by_cases hy1:y=i - 1
  ·have e1:rot a m i y=a:=by unfold rot;(repeat' split)<;>omega
   have e2:rot a m i x=x+1:=by unfold rot;(repeat' split)<;>omega
   rw[e1,e2]
   exact hL.asymmA (lo (x+1) (by omega) (by omega))
  ·have e1:rot a m i y=y+1:=by unfold rot;(repeat' split)<;>omega
   have e2:rot a m i x=x+1:=by unfold rot;(repeat' split)<;>omega
   rw[e1,e2]
   exact hs2 (x+1) (y+1) (by omega) (by omega) (by omega)
 ·have e1:rot a m i y=y:=by unfold rot;(repeat' split)<;>omega
  rw[e1]
  by_cases hxi:x<i
  ·by_cases hx1:x=i - 1
   ·have e2:rot a m i x=a:=by unfold rot;(repeat' split)<;>omega
    rw[e2];exact up y (by omega) hy
   ·have e2:rot a m i x=x+1:=by unfold rot;(repeat' split)<;>omega
    rw[e2];exact hs2 (x+1) y (by omega) (by omega) hy
  ·have e2:rot a m i x=x:=by unfold rot;(repeat' split)<;>omega
   rw[e2];exact hs2 x y (by omega) hxy hy
theorem merge2 (hL:SWO (lx lt lab)) (hs:SortedIn (lx lt lab) a m d) (hc:Cross lt lab a m b d) (hm:b=m+1) (hb:b≤d.size) {i:Nat} (hf:Found (fun x=>lt d[m]! d[x]!) a m i) {d':Array α} (hv:Via (rot i m (m+1)) a b d d') :
  PermIn a b d d'∧SortedIn (lx lt lab) a b d':=by
 obtain⟨h1,h2,h3,h4⟩:=hf
 refine⟨hv.1,fun x y hx hxy hy=>?_⟩
 rw[hv.2,hv.2]
 have lo:∀ z,a≤z→z<i→lx lt lab d[m]! d[z]! = false:=fun z g1 g2=>by
  rw[← hc.test g1 (by omega) (Nat.le_refl _) (by omega)];simpa using h3 z g1 g2
 have up:∀ z,i≤z→z<m→lx lt lab d[m]! d[z]! = true:=fun z g1 g2=>by
  rw[← hc.test (by omega) g2 (Nat.le_refl _) (by omega)];simpa using h4 z g1 g2
 by_cases hxi:x<i
 ·have e1:rot i m (m+1) x=x:=by unfold rot;(repeat' split)<;>omega
  rw[e1]
  by_cases hyi:y<i
  ·have e2:rot i m (m+1) y=y:=by unfold rot;(repeat' split)<;>omega
   rw[e2];exact hs x y hx hxy (by omega)
  ·by_cases hy1:y=i
   ·have e2:rot i m (m+1) y=m:=by unfold rot;(repeat' split)<;>omega
    rw[e2];exact lo x hx hxi
   ·have e2:rot i m (m+1) y=y - 1:=by unfold rot;(repeat' split)<;>omega
    rw[e2];exact hs x (y - 1) hx (by omega) (by omega)
 ·have e2:rot i m (m+1) y=y - 1:=by unfold rot;(repeat' split)<;>omega
  rw[e2]
  by_cases hx1:x=i
  ·have e1:rot i m (m+1) x=m:=by unfold rot;(repeat' split)<;>omega
   rw[e1];exact hL.asymmA (up (y - 1) (by omega) (by omega))
  ·have e1:rot i m (m+1) x=x - 1:=by unfold rot;(repeat' split)<;>omega
   rw[e1];exact hs (x - 1) (y - 1) (by omega) (by omega) (by omega)
structure Half (lt:α→α→Bool) (lab:α→Nat) (a s mid e b:Nat) (d:Array α):Prop where
 l1:SortedIn (lx lt lab) a s d
 l2:SortedIn (lx lt lab) s mid d
 lc:Cross lt lab a s mid d
 r1:SortedIn (lx lt lab) mid e d
 r2:SortedIn (lx lt lab) e b d
 rc:Cross lt lab mid e b d
 two:∀ x y,a≤x→x<mid→mid≤y→y<b→lx lt lab d[y]! d[x]! = false
theorem half_of (hL:SWO (lx lt lab)) (hs:SortedIn (lx lt lab) a m d) (hs2:SortedIn (lx lt lab) m b d) (hc:Cross lt lab a m b d) (ham:a<m) (hmb:m<b) (hb:b≤d.size) {mid s e:Nat} (hmid:mid=(a+b) / 2) (he:e+s=mid+m)
  (hf:Found (fun c=>lt d[mid+m - 1 - c]! d[c]!) (if m>mid then mid+m - b else a) (if m>mid then mid else m) s) {d':Array α} (hv:Via (rot s m e) a b d d'):a≤s∧s≤mid∧mid≤e∧e≤b∧s≤m∧m≤e∧Half lt lab a s mid e b d':=by
 obtain⟨h1,h2,h3,h4⟩:=hf
 have ham':a<mid:=by omega
 have hmb':mid<b:=by omega
 have g1:a≤s:=by by_cases h:m>mid<;>simp only[h,if_true,if_false] at h1 h2<;>omega
 have g2:s≤mid:=by by_cases h:m>mid<;>simp only[h,if_true,if_false] at h1 h2<;>omega
 have g3:s≤m:=by by_cases h:m>mid<;>simp only[h,if_true,if_false] at h1 h2<;>omega
 have g4:m≤e:=by omega
 have g5:mid≤e:=by omega
 have g6:e≤b:=by by_cases h:m>mid<;>simp only[h,if_true,if_false] at h1 h2<;>omega
 have r0:∀ x,a≤x→x<s→rot s m e x=x:=fun x k1 k2=>by unfold rot;(repeat' split)<;>omega
 have r1:∀ x,s≤x→x<mid→rot s m e x=x+(m - s):=fun x k1 k2=>by unfold rot;(repeat' split)<;>omega
 have r2:∀ x,mid≤x→x<e→rot s m e x=x - (e - m):=fun x k1 k2=>by unfold rot;(repeat' split)<;>omega
 have r3:∀ x,e≤x→x<b→rot s m e x=x:=fun x k1 k2=>by unfold rot;(repeat' split)<;>omega
 -- the four pieces held against each other
 have p03:∀ x y,a≤x→x<s→e≤y→y<b→lx lt lab d[y]! d[x]! = false:=fun x y k1 k2 k3 k4=>by
  have hlo:(if m>mid then mid+m - b else a)≤s - 1:=by
   by_cases h:m>mid<;>simp only[h,if_true,if_false] at h1 h2 ⊢<;>omega
  have q:=h3 (s - 1) hlo (by omega)
  have e1:mid+m - 1 - (s - 1)=e:=by omega
  simp only[e1] at q
  rw[hc.test (by omega) (by omega) g4 (by omega)] at q
  have q2:lx lt lab d[e]! d[x]! = false:=by
   by_cases k:x=s - 1
   ·subst k;exact q
   ·exact hL.ntrans _ _ _ q (hs x (s - 1) k1 (by omega) (by omega))
  by_cases k:y=e
  ·subst k;exact q2
  ·exact hL.ntrans _ _ _ (hs2 e y g4 (by omega) k4) q2
 have p12:∀ x y,m≤x→x<e→s≤y→y<m→lx lt lab d[x]! d[y]! = true:=fun x y k1 k2 k3 k4=>by
  have hhi:s<(if m>mid then mid else m):=by
   by_cases h:m>mid<;>simp only[h,if_true,if_false] at h1 h2 ⊢<;>omega
  have q:=h4 s (Nat.le_refl _) hhi
  have e1:mid+m - 1 - s=e - 1:=by omega
  simp only[e1] at q
  rw[hc.test g1 (by omega) (by omega) (by omega)] at q
  have q2:lx lt lab d[e - 1]! d[y]! = true:=by
   by_cases k:y=s
   ·subst k;exact q
   ·cases hz:lx lt lab d[e - 1]! d[y]! with
    | true=>rfl
    | false =>
     have:=hL.ntrans _ _ _ hz (hs s y (by omega) (by omega) k4)
     rw[q] at this;exact this.symm
  by_cases k:x=e - 1
  ·subst k;exact q2
  ·cases hz:lx lt lab d[x]! d[y]! with
   | true=>rfl
   | false =>
    have:=hL.ntrans _ _ _ (hs2 x (e - 1) k1 (by omega) (by omega)) hz
    rw[q2] at this;exact this.symm
 refine⟨g1,g2,g5,g6,g3,g4,⟨fun x y k1 k2 k3=>?_,fun x y k1 k2 k3=>?_,fun x y k1 k2 k3 k4=>?_,fun x y k1 k2 k3=>?_,fun x y k1 k2 k3=>?_,fun x y k1 k2 k3 k4=>?_,fun x y k1 k2 k3 k4=>?_⟩⟩<;>rw[hv.2,hv.2]
 ·rw[r0 x k1 (by omega),r0 y (by omega) k3];exact hs x y k1 k2 (by omega)
 ·rw[r1 x k1 (by omega),r1 y (by omega) k3];exact hs2 _ _ (by omega) (by omega) (by omega)
 ·rw[r0 x k1 k2,r1 y k3 k4];exact hc _ _ k1 (by omega) (by omega) (by omega)
 ·rw[r2 x k1 (by omega),r2 y (by omega) k3];exact hs _ _ (by omega) (by omega) (by omega)
 ·rw[r3 x k1 (by omega),r3 y (by omega) k3];exact hs2 _ _ (by omega) k2 k3
 ·rw[r2 x k1 k2,r3 y k3 k4];exact hc _ _ (by omega) (by omega) (by omega) k4
 ·by_cases kx:x<s
  ·rw[r0 x k1 kx]
   by_cases ky:y<e
   ·rw[r2 y k3 ky];exact hs _ _ k1 (by omega) (by omega)
   ·rw[r3 y (by omega) k4];exact p03 _ _ k1 kx (by omega) k4
  ·rw[r1 x (by omega) k2]
   by_cases ky:y<e
   ·rw[r2 y k3 ky];exact hL.asymmA (p12 _ _ (by omega) (by omega) (by omega) (by omega))
   ·rw[r3 y (by omega) k4];exact hs2 _ _ (by omega) (by omega) k4
theorem sorted_none {a' s' b':Nat} {dd:Array α} (h1:SortedIn (lx lt lab) a' s' dd) (h2:SortedIn (lx lt lab) s' b' dd) (h:¬ (a'<s'∧s'<b')) (hs:a'≤s'):SortedIn (lx lt lab) a' b' dd:=by
 by_cases k:a'<s'
 ·intro x y k1 k2 k3;exact h1 x y k1 k2 (by omega)
 ·obtain rfl:a'=s':=by omega
  exact h2
theorem halves {mid s e:Nat} {d1 d2 d3:Array α} (hp:PermIn a b d d1) (hb:b≤d.size) (ham:a≤mid) (hmb:mid≤b) (hh:Half lt lab a s mid e b d1) (p2:PermIn a mid d1 d2) (s2:SortedIn (lx lt lab) a mid d2) (p3:PermIn mid b d2 d3) (s3:SortedIn (lx lt lab) mid b d3) :
  PermIn a b d d3∧SortedIn (lx lt lab) a b d3:=by
 have hb1:b≤d1.size:=by rw[hp.1];exact hb
 have hb2:b≤d2.size:=by rw[p2.1];exact hb1
 refine⟨permIn_trans _ _ _ a b hp (permIn_trans _ _ _ a b (permIn_mono _ _ a mid a b (Nat.le_refl _) hmb hb1 p2) (permIn_mono _ _ mid b a b ham (Nat.le_refl _) hb2 p3)),fun x y k1 k2 k3=>?_⟩
 by_cases ky:y<mid
 ·rw[p3.2.1 x (Or.inl (by omega)),p3.2.1 y (Or.inl ky)];exact s2 x y k1 k2 ky
 ·by_cases kx:x<mid
  ·rw[p3.2.1 x (Or.inl kx)]
   -- y's is one of the upper half of d1,x's one of the lower
   have q1:∀ u,mid≤u→u<b→lx lt lab d1[u]! d2[x]! = false:=fun u u1 u2 =>
    permIn_all d1 d2 a mid (fun z=>lx lt lab d1[u]! z=false) (by omega) p2 (fun v v1 v2=>hh.two v u v1 v2 u1 u2) x k1 kx
   have q2:∀ u,mid≤u→u<b→lx lt lab d2[u]! d2[x]! = false:=fun u u1 u2=>by rw[p2.2.1 u (Or.inr u1)];exact q1 u u1 u2
   exact permIn_all d2 d3 mid b (fun z=>lx lt lab z d2[x]! = false) hb2 p3 q2 y (by omega) k3
  ·exact s3 x y (by omega) k2 k3
theorem Half.keep {s mid e:Nat} {d1 d2:Array α} (hh:Half lt lab a s mid e b d1) (p2:PermIn a mid d1 d2) (hme:mid≤e):SortedIn (lx lt lab) mid e d2∧SortedIn (lx lt lab) e b d2∧Cross lt lab mid e b d2:=by
 refine⟨fun x y k1 k2 k3=>?_,fun x y k1 k2 k3=>?_,fun x y k1 k2 k3 k4=>?_⟩<;>rw[p2.2.1 x (Or.inr (by omega)),p2.2.1 y (Or.inr (by omega))]
 ·exact hh.r1 x y k1 k2 k3
 ·exact hh.r2 x y k1 k2 k3
 ·exact hh.rc x y k1 k2 k3 k4
end
end Y
end Go.Proofs.YtnkpgmibhpmdhaaGreat
namespace Go.Proofs.YtnkpgmibhpmdhaaGreat
open Go.Shelf Go.RowKit Go.Lib Go.Sort
set_option maxRecDepth 1000000
set_option linter.unusedVariables false
variable {P : Program} {α : Type} [Inhabited α]
structure LayV (P:Program):Prop where
 mixed:P.follows .mixedOrders=true
 tUnit:P.underlying 0=some (TypeDesc.tuple #[])
 aUnit:∀ w,(isAgg 0).run P w=.ok false w
 zUnit:∀ w,(Go.sizeOf 0).run P w=.ok 1 w
 vUnit:∀ w,(zeroValue 0).run P w=.ok (Value.tuple #[]) w
 tInt:P.underlying 3=some (TypeDesc.int IntKind.i64)
 aInt:∀ w,(isAgg 3).run P w=.ok false w
 zInt:∀ w,(Go.sizeOf 3).run P w=.ok 1 w
 vInt:∀ w,(zeroValue 3).run P w=.ok (Value.int IntKind.i64 0) w
 tBool:P.underlying 4=some (TypeDesc.bool)
 aBool:∀ w,(isAgg 4).run P w=.ok false w
 zBool:∀ w,(Go.sizeOf 4).run P w=.ok 1 w
 vBool:∀ w,(zeroValue 4).run P w=.ok (Value.bool false) w
 tUint:P.underlying 125=some (TypeDesc.int IntKind.u64)
 aUint:∀ w,(isAgg 125).run P w=.ok false w
 zUint:∀ w,(Go.sizeOf 125).run P w=.ok 1 w
 vUint:∀ w,(zeroValue 125).run P w=.ok (Value.int IntKind.u64 0) w
 tSl:P.underlying 42=some (TypeDesc.slice 25)
 aSl:∀ w,(isAgg 42).run P w=.ok false w
 zSl:∀ w,(Go.sizeOf 42).run P w=.ok 1 w
 vSl:∀ w,(zeroValue 42).run P w=.ok (Value.slice none 0 0) w
 tFn:P.underlying 53=some (TypeDesc.func #[25,25] #[3] false)
 aFn:∀ w,(isAgg 53).run P w=.ok false w
 zFn:∀ w,(Go.sizeOf 53).run P w=.ok 1 w
 vFn:∀ w,(zeroValue 53).run P w=.ok (Value.nilFunc) w
theorem layV:LayV Tryz.prog where
 mixed:=by kernel_rfl
 tUnit:=Tryz.underlying0
 aUnit:=Tryz.isAgg0
 zUnit:=Tryz.sizeOf0
 vUnit:=Tryz.zeroValue0
 tInt:=Tryz.underlying3
 aInt:=Tryz.isAgg3
 zInt:=Tryz.sizeOf3
 vInt:=Tryz.zeroValue3
 tBool:=Tryz.underlying4
 aBool:=Tryz.isAgg4
 zBool:=Tryz.sizeOf4
 vBool:=Tryz.zeroValue4
 tUint:=Tryz.underlying125
 aUint:=Tryz.isAgg125
 zUint:=Tryz.sizeOf125
 vUint:=Tryz.zeroValue125
 tSl:=Tryz.underlying42
 aSl:=Tryz.isAgg42
 zSl:=Tryz.sizeOf42
 vSl:=Tryz.zeroValue42
 tFn:=Tryz.underlying53
 aFn:=Tryz.isAgg53
 zFn:=Tryz.sizeOf53
 vFn:=Tryz.zeroValue53
set_option maxHeartbeats 4000000 in
theorem swapV (LY:LayV P) (F:P.funcs[242]?=some Tryz.f242) (k:Nat) (aE:∀ w,(isAgg 25).run P w=.ok true w) (zE:∀ w,(Go.sizeOf 25).run P w=.ok k w) (enc:α→List Value) (g:Nat) (cb:Array Value) (blk off cap a b n:Nat) (d0 d:Array α) (w0 w:World)
  (R:RowK enc k w0 blk off d0) (hs:d0.size=d.size) (S:SWK enc k w0 blk off d w) (hab:a+n≤b) (hb:b+n≤d.size) (hsz:d.size<4611686018427387904) :
  Calls P 242 #[.slice (some ⟨blk,off,none⟩) d.size cap,.int .i64 a,.int .i64 b,.int .i64 n,.func (.func g) #[] cb] w fun e w'=>e=.returned (.tuple #[])∧∃ d',SWK enc k w0 blk off d' w'∧Y.Via (Y.swR a b n) a (b+n) d d':=by
 have mixed:=LY.mixed;have tUnit:=LY.tUnit;have aUnit:=LY.aUnit;have zUnit:=LY.zUnit;have vUnit:=LY.vUnit;have tInt:=LY.tInt;have aInt:=LY.aInt;have zInt:=LY.zInt;have vInt:=LY.vInt;have tBool:=LY.tBool;have aBool:=LY.aBool;have zBool:=LY.zBool;have vBool:=LY.vBool;have tUint:=LY.tUint;have aUint:=LY.aUint;have zUint:=LY.zUint;have vUint:=LY.vUint;have tSl:=LY.tSl;have aSl:=LY.aSl;have zSl:=LY.zSl;have vSl:=LY.vSl;have tFn:=LY.tFn;have aFn:=LY.aFn;have zFn:=LY.zFn;have vFn:=LY.vFn
 have uSl:=run_underlying LY.tSl
 have S0:Aside (SWK enc k w0 blk off d w):=S
 have V0:Aside (Y.Via (Y.swR a b 0) a (b+n) d d):=(Y.Via.refl a (b+n) d).congr fun x=>(Y.swR_zero a b x).symm
 clear S
 go_enter F,Tryz.ntmps242
 go_wp2
 go_loopg [10] n (fun kx s10 wr=>∃ (i:Nat) (dk:Array α),s10=.int .i64 i∧i≤n∧n - i≤kx∧dk.size=d.size∧Aside (SWK enc k w0 blk off dk wr)∧Aside (Y.Via (Y.swR a b i) a (b+n) d dk))
 case atStart=>exact⟨0,d,rfl,by omega,by omega,rfl,S0,V0⟩
 case round =>
  clear S0 V0
  obtain⟨i,dk,rfl,hin,hkx,hds,S1,V1⟩:=hrel
  by_cases hlt:(i:Int)<(n:Int)
  ·go_wp2_with fail
   have ea1:((a:Int)+(i:Int)).toNat=a+i:=by omega
   have pa1:(0:Int)≤(a:Int)+(i:Int):=by omega
   have ba1:(a:Int)+(i:Int)<(d.size:Int):=by omega
   have ra1:IntKind.i64.wrap ((a:Int)+(i:Int))=(a:Int)+(i:Int):=by rw[IntKind.wrap_i64];omega
   have ec1:((b:Int)+(i:Int)).toNat=b+i:=by omega
   have pc1:(0:Int)≤(b:Int)+(i:Int):=by omega
   have bc1:(b:Int)+(i:Int)<(d.size:Int):=by omega
   have rc1:IntKind.i64.wrap ((b:Int)+(i:Int))=(b:Int)+(i:Int):=by rw[IntKind.wrap_i64];omega
   have S2:Aside (SWK enc k w0 blk off (swp dk (a+i) (b+i)) ((wr.drew.setCells blk (off+(a+i)*k) (enc dk[b+i]!)).setCells blk (off+(b+i)*k) (enc dk[a+i]!))):=S1.out.swapped R (a+i) (b+i) (by omega) (by omega)
   have l1a:=S1.out.ld1 R (by omega) P (a+i) (by omega)
   have l1b:=S1.out.ld1 R (by omega) P (b+i) (by omega)
   have s1a:=S1.out.st1 R (by omega) P (a+i) (by omega) dk[b+i]!
   have s1b:=S1.out.st2 R (by omega) P (a+i) (b+i) (by omega) (by omega) dk[b+i]! dk[a+i]!
   have n1a:(enc dk[a+i]!).length=k:=R.hk _
   have n1b:(enc dk[b+i]!).length=k:=R.hk _
   generalize enc dk[a+i]! = cI1 at S2 l1a s1b n1a
   generalize enc dk[b+i]! = cJ1 at S2 l1b s1a s1b n1b
   clear S1
   go_wp2_with fail
   go_big_region_o
   clear l1a l1b s1a s1b
   generalize (wr.drew.setCells blk (off+(a+i)*k) cJ1).setCells blk (off+(b+i)*k) cI1=w2 at S2 ⊢
   clear ea1 ec1
   have V2:Aside (Y.Via (Y.swR a b (i+1)) a (b+n) d (swp dk (a+i) (b+i))):=(V1.out.trans (Y.via_swp dk (by omega) (by omega) (by omega) (by omega) (by omega))).congr fun x=>Y.swR_step (by omega) x
   clear V1
   go_wp2
   go_roundg (n - (i+1))
   case measure=>omega
   case rel=>exact⟨i+1,swp dk (a+i) (b+i),by simp,by omega,Nat.le_refl _,by rw[size_swp];exact hds,S2,V2⟩
  ·obtain rfl:i=n:=by omega
   go_wp2
   go_end0
   exact⟨rfl,dk,S1.out,V1.out⟩
end Go.Proofs.YtnkpgmibhpmdhaaGreat
namespace Go.Proofs.YtnkpgmibhpmdhaaGreat
open Go.Shelf Go.RowKit Go.Lib Go.Sort
set_option maxRecDepth 1000000
set_option linter.unusedVariables false
variable {P : Program} {α : Type} [Inhabited α]
set_option maxHeartbeats 4000000 in
theorem rotateV (LY:LayV P) (Fsw:P.funcs[242]?=some Tryz.f242) (Fro:P.funcs[239]?=some Tryz.f239) (k:Nat) (aE:∀ w,(isAgg 25).run P w=.ok true w) (zE:∀ w,(Go.sizeOf 25).run P w=.ok k w) (enc:α→List Value) (g:Nat) (cb:Array Value) (blk off cap a m b:Nat) (d0 d:Array α) (w0 w:World)
  (R:RowK enc k w0 blk off d0) (hs:d0.size=d.size) (S:SWK enc k w0 blk off d w) (ham:a<m) (hmb:m<b) (hb:b≤d.size) (hsz:d.size<4611686018427387904) :
  Calls P 239 #[.slice (some ⟨blk,off,none⟩) d.size cap,.int .i64 a,.int .i64 m,.int .i64 b,.func (.func g) #[] cb] w fun e w'=>e=.returned (.tuple #[])∧∃ d',SWK enc k w0 blk off d' w'∧Y.Via (Y.rot a m b) a b d d':=by
 have mixed:=LY.mixed;have tUnit:=LY.tUnit;have aUnit:=LY.aUnit;have zUnit:=LY.zUnit;have vUnit:=LY.vUnit;have tInt:=LY.tInt;have aInt:=LY.aInt;have zInt:=LY.zInt;have vInt:=LY.vInt;have tBool:=LY.tBool;have aBool:=LY.aBool;have zBool:=LY.zBool;have vBool:=LY.vBool;have tUint:=LY.tUint;have aUint:=LY.aUint;have zUint:=LY.zUint;have vUint:=LY.vUint;have tSl:=LY.tSl;have aSl:=LY.aSl;have zSl:=LY.zSl;have vSl:=LY.vSl;have tFn:=LY.tFn;have aFn:=LY.aFn;have zFn:=LY.zFn;have vFn:=LY.vFn
 have uSl:=run_underlying LY.tSl
 have S0:Aside (SWK enc k w0 blk off d w):=S
 clear S
 obtain⟨i0,hi0⟩:∃ i0,a+i0=m:=⟨m - a,by omega⟩
 obtain⟨j0,hj0⟩:∃ j0,m+j0=b:=⟨b - m,by omega⟩
 have zi:(m:Int) - (a:Int)=(i0:Int):=by omega
 have zj:(b:Int) - (m:Int)=(j0:Int):=by omega
 have ri:IntKind.i64.wrap (i0:Int)=(i0:Int):=by rw[IntKind.wrap_i64];omega
 have rj:IntKind.i64.wrap (j0:Int)=(j0:Int):=by rw[IntKind.wrap_i64];omega
 have esw:∀ args w,(callFunc 242 args).run P w=.ok (.enter 242 args) w:=enters_of Fsw (by kernel_rfl) rfl
 go_enter Fro,Tryz.ntmps239
 go_wp2
 clear zi zj ri rj
 go_loopg [10,11] (i0+j0) (fun kx s10 s11 wr=>∃ (i j:Nat) (dk:Array α) (f:Nat→Nat),s10=.int .i64 i∧s11=.int .i64 j∧0<i∧0<j∧i≤i0∧j≤j0∧i+j≤kx∧dk.size=d.size∧Aside (SWK enc k w0 blk off dk wr)∧Aside (Y.Via f a b d dk)∧Aside (∀ x,f (Y.rot (m - i) m (m+j) x)=Y.rot a m b x))
 case atStart=>exact⟨i0,j0,d,fun x=>x,rfl,rfl,by omega,by omega,Nat.le_refl _,Nat.le_refl _,Nat.le_refl _,rfl,S0,Y.Via.refl a b d,fun x=>by rw[show m - i0=a by omega,hj0]⟩
 case round =>
  clear S0
  obtain⟨i,j,dk,f,rfl,rfl,hi,hj,hii,hjj,hkx,hds,S1,V1,W1⟩:=hrel
  obtain⟨u,hu⟩:∃ u,u+i=m:=⟨m - i,by omega⟩
  have zu:(m:Int) - (i:Int)=(u:Int):=by omega
  have ru:IntKind.i64.wrap (u:Int)=(u:Int):=by rw[IntKind.wrap_i64];omega
  by_cases hne:i=j
  ·subst hne
   go_wp2_with fail
   rw[← hds]
   refine (swapV LY Fsw k aE zE enc g cb blk off cap u m i d0 dk w0 _ R (by omega) S1.out (by omega) (by omega) (by omega)).mono ?_
   rintro e w2 ⟨rfl,d2,S2,V2⟩
   go_wp2
   go_end0
   refine⟨rfl,d2,S2,((V1.out.trans (V2.mono (by omega) (by omega) (by omega))).congr fun x=>?_)⟩
   have h1:Y.swR u m i x=Y.rot (m - i) m (m+i) x:=by rw[show u=m - i by omega];exact Y.rot_even (by omega) x
   rw[h1];exact W1.out x
  ·have hnz:¬ (i:Int)=(j:Int):=by omega
   by_cases hgt:(j:Int)<(i:Int)
   ·obtain⟨r,hr⟩:∃ r,r+j=i:=⟨i - j,by omega⟩
    have zr:(i:Int) - (j:Int)=(r:Int):=by omega
    have rr:IntKind.i64.wrap (r:Int)=(r:Int):=by rw[IntKind.wrap_i64];omega
    go_wp2_with fail
    rw[← hds]
    refine (swapV LY Fsw k aE zE enc g cb blk off cap u m j d0 dk w0 _ R (by omega) S1.out (by omega) (by omega) (by omega)).mono ?_
    rintro e w2 ⟨rfl,d2,S2,V2⟩
    have hd2:=V2.size
    rw[hds]
    go_wp2
    go_roundg (r+j)
    case measure=>omega
    case rel=>exact⟨r,j,d2,_,rfl,rfl,by omega,hj,by omega,hjj,Nat.le_refl _,by omega,S2,V1.out.trans (V2.mono (by omega) (by omega) (by omega)),fun x=>by rw[show u=m - i by omega,show r=i - j by omega,Y.rot_left (by omega) hj (by omega) x];exact W1.out x⟩
   ·obtain⟨r,hr⟩:∃ r,r+i=j:=⟨j - i,by omega⟩
    obtain⟨v,hv⟩:∃ v,v+i=m+j:=⟨m+j - i,by omega⟩
    have zr:(j:Int) - (i:Int)=(r:Int):=by omega
    have zv:(m:Int)+(j:Int) - (i:Int)=(v:Int):=by omega
    have rr:IntKind.i64.wrap (r:Int)=(r:Int):=by rw[IntKind.wrap_i64];omega
    have rv:IntKind.i64.wrap (v:Int)=(v:Int):=by rw[IntKind.wrap_i64];omega
    have rmj:IntKind.i64.wrap ((m:Int)+(j:Int))=(m:Int)+(j:Int):=by rw[IntKind.wrap_i64];omega
    go_wp2_with fail
    rw[← hds]
    refine (swapV LY Fsw k aE zE enc g cb blk off cap u v i d0 dk w0 _ R (by omega) S1.out (by omega) (by omega) (by omega)).mono ?_
    rintro e w2 ⟨rfl,d2,S2,V2⟩
    have hd2:=V2.size
    rw[hds]
    go_wp2
    go_roundg (i+r)
    case measure=>omega
    case rel=>exact⟨i,r,d2,_,rfl,rfl,hi,by omega,hii,by omega,Nat.le_refl _,by omega,S2,V1.out.trans (V2.mono (by omega) (by omega) (by omega)),fun x=>by rw[show u=m - i by omega,show v=m+j - i by omega,show r=j - i by omega,Y.rot_right (by omega) hi (by omega) x];exact W1.out x⟩
end Go.Proofs.YtnkpgmibhpmdhaaGreat

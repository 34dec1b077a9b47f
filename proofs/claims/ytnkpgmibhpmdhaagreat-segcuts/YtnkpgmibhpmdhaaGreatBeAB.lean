/- Contracts and plain facts, one behind the other: W C1 C2 C3 -/
import Derived.Test.YtnkpgmibhpmdhaaGreatRows
import Derived.WalkKit
import Derived.WalkSpells
import Derived.WalkLawsBesides
import Derived.ArgAppend
import Derived.Laws.AppendOwnNone
import Derived.Lib.SliceRun
import Derived.Laws.MathBits
import Derived.Test.YtnkpgmibhpmdhaaGreatBeAA
namespace Go.Proofs.YtnkpgmibhpmdhaaGreat
set_option linter.unusedVariables false
open Go.RowKit
def Wr (w:World) (p:Nat) (v:Value) (bs:List Bool):Prop :=
 w.heap[p]?=some (.cells #[v,.int .i64 (bs.length:Int)] 155 (0,0))∧w.ownsRow (p+1) 5 1 v (A.bytesOf bs).length (B8 (A.bytesOf bs))
def WS (p:Nat) (w:World) (v:Value) (w':World) (v':Value):Prop :=
 Kept (fun k=>k=p∨v.ownBlock=some k) w w'∧(v'.ownBlock=v.ownBlock∨∀ k,v'.ownBlock=some k→w.heap.size≤k)
theorem WS.refl (p:Nat) (w:World) (v:Value):WS p w v w v:=⟨Kept.refl _ _,.inl rfl⟩
theorem WS.trans {p:Nat} {a b c:World} {u v x:Value} (h:WS p a u b v) (k:WS p b v c x):WS p a u c x:=by
 have hs:=h.1.size
 refine⟨h.1.trans' k.1 ?_,?_⟩
 ·rintro y (rfl|hy)
  ·exact .inl (.inl rfl)
  ·rcases h.2 with h2|h2
   ·exact .inl (.inr (h2 ▸ hy))
   ·exact .inr (h2 y hy)
 ·rcases k.2 with k2|k2
  ·rw[k2];exact h.2
  ·exact .inr fun y hy=>by have:=k2 y hy;omega
theorem WS.drew {p:Nat} {a b:World} {u v:Value} (h:WS p a u b v):WS p a u b.drew v:=⟨h.1.drew,h.2⟩
theorem Wr.lt {w:World} {p:Nat} {v:Value} {bs:List Bool} (h:Wr w p v bs):p<w.heap.size:=lt_of_block h.1
theorem Wr.cells {w:World} {p:Nat} {v:Value} {bs:List Bool} (h:Wr w p v bs) :
  w.cell? ⟨p,0,none⟩=some v∧w.cell? ⟨p,1,none⟩=some (.int .i64 (bs.length:Int))∧w.frozen? ⟨p,0,none⟩=false∧w.frozen? ⟨p,1,none⟩=false:=by
 refine⟨?_,?_,?_,?_⟩<;>simp[World.cell?,World.frozen?,h.1]
theorem Wr.kept {F:Nat→Prop} {w w':World} {p:Nat} {v:Value} {bs:List Bool} (h:Wr w p v bs) (k:Kept F w w') (h1:¬ F p) (h2:∀ g,v.ownBlock=some g→¬ F g):Wr w' p v bs :=
 ⟨by rw[k.block p h.lt h1];exact h.1,owns_of_block h.2 fun g hg=>k.block g (owns_lt h.2 hg).2 (h2 g hg)⟩
def Rd (w:World) (p:Nat) (v:Value) (l:List Nat) (pos:Nat):Prop :=
 w.heap[p]?=some (.cells #[v,.int .i64 (pos:Int)] 248 (0,0))∧w.ownsRow 0 5 1 v l.length (B8 l)∧v.ownBlock≠some p
theorem Rd.lt {w:World} {p:Nat} {v:Value} {l:List Nat} {pos:Nat} (h:Rd w p v l pos):p<w.heap.size:=lt_of_block h.1
theorem Rd.cells {w:World} {p:Nat} {v:Value} {l:List Nat} {pos:Nat} (h:Rd w p v l pos) :
  w.cell? ⟨p,0,none⟩=some v∧w.cell? ⟨p,1,none⟩=some (.int .i64 (pos:Int))∧w.frozen? ⟨p,1,none⟩=false:=by
 refine⟨?_,?_,?_⟩<;>simp[World.cell?,World.frozen?,h.1]
theorem Rd.kept {F:Nat→Prop} {w w':World} {p:Nat} {v:Value} {l:List Nat} {pos:Nat} (h:Rd w p v l pos) (k:Kept F w w') (h1:¬ F p) (h2:∀ g,v.ownBlock=some g→¬ F g):Rd w' p v l pos :=
 ⟨by rw[k.block p h.lt h1];exact h.1,owns_of_block h.2.1 fun g hg=>k.block g (owns_lt h.2.1 hg).2 (h2 g hg),h.2.2⟩
theorem heap_setCell_two {w:World} {p:Nat} {a b:Value} {t:TypeId} (h:w.heap[p]?=some (.cells #[a,b] t (0,0))) (u:Value) :
  (w.setCell ⟨p,0,none⟩ u).heap[p]?=some (.cells #[u,b] t (0,0))∧(w.setCell ⟨p,1,none⟩ u).heap[p]?=some (.cells #[a,u] t (0,0)):=by
 constructor<;>simp only[World.setCell,Array.getElem?_modify,h]<;>simp
theorem or_last (y k:Nat) (x:Int) (hk:k<8) (hy:y<2^k) (hx0:0≤x) (hx1:x≤1):bits .or .u8 (y:Int) (x*2^k%256)=((y+(x==1).toNat*2^k:Nat):Int):=by
 have hp:2^k≤2^7:=Nat.pow_le_pow_right (by omega) (by omega)
 have hy2:y<256:=by omega
 rcases (show x=0∨x=1 by omega) with rfl|rfl
 ·have:=u8_or_nat y 0 hy2 (by omega)
  simpa using this
 ·have e:(1:Int)*2^k%256=((2^k:Nat):Int):=by
   rw[Int.one_mul,← pow_int];omega
  rw[e,u8_or_nat y (2^k) hy2 (by omega),Nat.or_comm,nat_join k (2^k) y (by simp) hy]
  simp[Nat.add_comm]
theorem or_first (x:Int) (hx0:0≤x) (hx1:x≤1):bits .or .u8 0 (x%256)=(((x==1).toNat:Nat):Int):=by
 have:=or_last 0 0 x (by omega) (by simp) hx0 hx1
 simpa using this
theorem wr_store {w:World} {p g k cap j:Nat} {xs:List Value} {v n:Value} {t e:TypeId} (m u:Value) (hb:w.heap[p]?=some (.cells #[v,n] t (0,0))) (ho:w.ownsRow (p+1) e 1 (.slice (some ⟨g,0,none⟩) k cap) k xs) :
  ((w.setCell ⟨g,j,none⟩ u).setCell ⟨p,1,none⟩ m).heap[p]?=some (.cells #[v,m] t (0,0))∧((w.setCell ⟨g,j,none⟩ u).setCell ⟨p,1,none⟩ m).ownsRow (p+1) e 1 (.slice (some ⟨g,0,none⟩) k cap) k (xs.set j u):=by
 have hg:p+1≤g:=(owns_lt ho rfl).1
 have h1:(w.setCell ⟨g,j,none⟩ u).heap[p]?=some (.cells #[v,n] t (0,0)):=by rw[Below.heap_setCell _ _ _ _ (by show p≠g;omega)];exact hb
 refine⟨(heap_setCell_two h1 m).2,?_⟩
 exact ownsRow_setCell_below (ho.stored j u).1 (by simp) m
theorem B8_set (l:List Nat) (j y:Nat):(B8 l).set j (.int .u8 (y:Int))=B8 (l.set j y):=by simp[B8,List.map_set]
set_option maxHeartbeats 400000 in
theorem add_new (p:Nat) (v:Value) (bs:List Bool) (x:Int) (w:World) (hw:Wr w p v bs) (hl:bs.length<1099511627776) (hx0:0≤x) (hx1:x≤1) (h8:bs.length%8=0) :
  Calls Tryz.prog 168 #[.pointer (some ⟨p,0,none⟩),.int .u8 x] w fun e w'=>e=.returned (.tuple #[])∧∃ v',Wr w' p v' (bs++[x==1])∧WS p w v w' v':=by
 obtain⟨hc0,hc1,hf0,hf1⟩:=hw.cells
 obtain⟨i0,hi,hz0,hz1,hz2⟩:=info_parts Tryz.infoU8
 have hbl:=A.bytesOf_length bs
 have hm:((bs.length:Int)%8==0)=true:=by simp;omega
 have hown:=hw.2
 have hplt:=hw.lt
 go_enter Tryz.func168,Tryz.ntmps168
 go_wp2_with (first
   | (at_builtin;refine wpList_append_to rfl _ _ 22 rfl (p+1) 5 i0 (.int .u8 0) 1 1 Tryz.underlying22 hi hz0 hz1 hz2 rfl (by decide) _ _ _ rfl (hown.alloc _) (some ⟨w.heap.size,0,none⟩) 1 1 [.int .u8 0] rfl ?c0 rfl ?c1 ?c2 ?c3 ?c4 ?c5 ?_)
   | go_in)
 case c0=>simp
 case c1 =>
  intro ad had j u hj
  obtain rfl:=Option.some.inj had
  match j,hj with
  | 0,hj=>simp at hj;subst hj;simp[Addr.add]
 case c2=>intro u hu;simp at hu;subst hu;rfl
 case c3=>unfold maxLen;omega
 case c4=>omega
 case c5=>simp;omega
 intro v' w1 hown' has
 obtain⟨g,cap,hv,hg,hglt,hcap⟩:=owns_pos hown' (by omega)
 have hbp:w1.heap[p]?=some (.cells #[v,.int .i64 (bs.length:Int)] 155 (0,0)):=by
  rw[has.1.block p (by simp;omega) (fun e=>by have:=(owns_lt hown e).1;omega),Below.heap_alloc _ _ _ hplt]
  exact hw.1
 have hd0:w1.cell? ⟨p,0,none⟩=some v:=by simp[World.cell?,hbp]
 have hd1:w1.cell? ⟨p,1,none⟩=some (.int .i64 (bs.length:Int)):=by simp[World.cell?,hbp]
 have he0:w1.frozen? ⟨p,0,none⟩=false:=by simp[World.frozen?,hbp]
 have he1:w1.frozen? ⟨p,1,none⟩=false:=by simp[World.frozen?,hbp]
 have HA:=AS.pre ((Kept.refl _ w).alloc _) has
 have HB:=hide hbp
 have HO:=hide hown'
 subst hv
 have hlast:w1.cell? ⟨g,(bs.length+7) / 8,none⟩=some (.int .u8 0):=by
  rw[hown'.cellAt _ (by omega)]
  rw[List.getElem?_append_right (by simp[B8,hbl])];simp[B8,hbl]
 have hfl:=hown'.frozenAt ((bs.length+7) / 8)
 clear hc0 hc1 hf0 hf1 hown' has hbp hown
 go_wp2
 go_region
 go_wp2
 go_end0
 refine⟨rfl,.slice (some ⟨g,0,none⟩) ((bs.length+7) / 8+1) cap,?_,?_⟩
 ·rw[or_first x hx0 hx1]
  have s1:=(heap_setCell_two HB.out (.slice (some ⟨g,0,none⟩) ((bs.length+7) / 8+1) cap)).1
  have s2:=ownsRow_setCell_below HO.out (a:=⟨p,0,none⟩) (by simp) (.slice (some ⟨g,0,none⟩) ((bs.length+7) / 8+1) cap)
  have s3:=wr_store (j:=(bs.length+7) / 8) (.int .i64 ((bs.length:Int)+1)) (.int .u8 (((x==1).toNat:Nat):Int)) s1 s2
  refine⟨?_,?_⟩
  ·rw[show (((bs++[x==1]).length:Nat):Int)=(bs.length:Int)+1 by simp];exact s3.1
  ·have e:(B8 (A.bytesOf bs)++[Value.int .u8 0]).set ((bs.length+7) / 8) (Value.int .u8 (((x==1).toNat:Nat):Int))=B8 (A.bytesOf (bs++[x==1])):=by
    rw[A.bytesOf_snoc_new _ _ h8,B8_append,← hbl,← B8_length,List.set_append_right _ _ (Nat.le_refl _),Nat.sub_self];rfl
   have e2:(A.bytesOf (bs++[x==1])).length=(bs.length+7) / 8+1:=by rw[A.bytesOf_snoc_new _ _ h8];simp[hbl]
   rw[e2,← e]
   exact s3.2
 ·refine⟨Kept.drew (Kept.setCell (Kept.setCell (Kept.setCell (HA.1.mono fun k hk=>.inl (.inr hk)) ?_ _) ?_ _) ?_ _),HA.2⟩
  ·exact .inl (.inl rfl)
  ·rcases HA.2 with h2|h2
   ·exact .inl (.inr (h2 ▸ rfl))
   ·exact .inr (h2 g rfl)
  ·exact .inl (.inl rfl)
set_option maxHeartbeats 400000 in
theorem add_old (p:Nat) (v:Value) (bs:List Bool) (x:Int) (w:World) (hw:Wr w p v bs) (hl:bs.length<1099511627776) (hx0:0≤x) (hx1:x≤1) (h8:bs.length%8≠0) :
  Calls Tryz.prog 168 #[.pointer (some ⟨p,0,none⟩),.int .u8 x] w fun e w'=>e=.returned (.tuple #[])∧∃ v',Wr w' p v' (bs++[x==1])∧WS p w v w' v':=by
 obtain⟨hc0,hc1,hf0,hf1⟩:=hw.cells
 have hbl:=A.bytesOf_length bs
 have hm:((bs.length:Int)%8==0)=false:=by simp;omega
 have hown:=hw.2
 have hplt:=hw.lt
 obtain⟨g,cap,hv,hg,hglt,hcap⟩:=owns_pos hown (by omega)
 subst hv
 rw[hbl] at hc0
 have hlast:w.cell? ⟨g,(bs.length+7) / 8 - 1,none⟩=some (.int .u8 (((A.bytesOf bs).getD ((bs.length+7) / 8 - 1) 0:Nat):Int)):=by
  rw[hown.cellAt _ (by omega)]
  simp[B8,hbl,List.getD,show (bs.length+7) / 8 - 1<(bs.length+7) / 8 by omega]
 have hfl:=hown.frozenAt ((bs.length+7) / 8 - 1)
 have hll:=A.last_lt bs h8
 obtain⟨y,hy⟩:∃ y,y=(A.bytesOf bs).getD ((bs.length+7) / 8 - 1) 0:=⟨_,rfl⟩
 rw[← hy] at hlast hll
 have HY:=hide hy
 have HO:=hide hown
 have HL:=hide hbl
 clear hown hy hbl
 go_enter Tryz.func168,Tryz.ntmps168
 go_wp2
 go_region
 go_wp2
 go_end0
 refine⟨rfl,.slice (some ⟨g,0,none⟩) (A.bytesOf bs).length cap,?_,?_⟩
 ·rw[or_last y _ x (by omega) hll hx0 hx1]
  have s3:=wr_store (j:=(bs.length+7) / 8 - 1) (.int .i64 ((bs.length:Int)+1)) (.int .u8 ((y+(x==1).toNat*2^(bs.length%8):Nat):Int)) hw.1 HO.out
  refine⟨?_,?_⟩
  ·rw[show (((bs++[x==1]).length:Nat):Int)=(bs.length:Int)+1 by simp];exact s3.1
  ·have e:A.bytesOf (bs++[x==1])=(A.bytesOf bs).set ((bs.length+7) / 8 - 1) (y+(x==1).toNat*2^(bs.length%8)):=by rw[A.bytesOf_snoc_old _ _ h8,← HY.out]
   rw[e,List.length_set,← B8_set]
   exact s3.2
 ·refine⟨Kept.drew (Kept.setCell (Kept.setCell (Kept.refl _ _) ?_ _) ?_ _),.inl rfl⟩
  ·exact .inl (.inr rfl)
  ·exact .inl (.inl rfl)
theorem add_any (p:Nat) (v:Value) (bs:List Bool) (x:Int) (w:World) (hw:Wr w p v bs) (hl:bs.length<1099511627776) (hx0:0≤x) (hx1:x≤1) :
  Calls Tryz.prog 168 #[.pointer (some ⟨p,0,none⟩),.int .u8 x] w fun e w'=>e=.returned (.tuple #[])∧∃ v',Wr w' p v' (bs++[x==1])∧WS p w v w' v':=by
 by_cases h8:bs.length%8=0
 ·exact add_new p v bs x w hw hl hx0 hx1 h8
 ·exact add_old p v bs x w hw hl hx0 hx1 h8
set_option maxHeartbeats 400000 in
theorem may_yes (n:Int) (w:World) (h0:0≤n) (h1:n≤64) :
  Calls Tryz.prog 117 #[.int .i64 n] w fun e w'=>e=.returned (.bool true)∧w'=w:=by
 go_enter Tryz.func117,Tryz.ntmps117
 go_wp2
 go_ret
 exact⟨rfl,rfl⟩
set_option maxHeartbeats 400000 in
theorem may_no (n:Int) (w:World) (h:n<0∨64<n) :
  Calls Tryz.prog 117 #[.int .i64 n] w fun e w'=>e=.returned (.bool false)∧w'=w:=by
 rcases h with h|h
 ·go_enter Tryz.func117,Tryz.ntmps117
  go_wp2
  go_ret
  exact⟨rfl,rfl⟩
 ·have h0:0≤n:=by omega
  have h1:decide (n≤64)=false:=by simp;omega
  go_enter Tryz.func117,Tryz.ntmps117
  go_wp2
  go_ret
  exact⟨rfl,rfl⟩
theorem one_le_div (n b:Int) (hb:0<b) (h:b≤n):1≤n / b:=by
 rw[Int.le_ediv_iff_mul_le hb];omega
theorem and_one (x:Int) (h0:0≤x) (h1:x<256):bits .and .u8 x 1=x%2:=by
 have:=u8_and x 1 h0 h1 (by omega) (by omega)
 rw[this,show (1:Int).toNat=1 from rfl,nat_mask1];omega
theorem and_bit (n:Int) (j:Nat) (h0:0≤n) :
  0≤bits .and .u8 (n / 2^j%256) 1∧bits .and .u8 (n / 2^j%256) 1≤1∧(bits .and .u8 (n / 2^j%256) 1==1)=(n.toNat / 2^j%2==1):=by
 rw[and_one _ (by omega) (by omega)]
 refine⟨by omega,by omega,?_⟩
 obtain⟨m,rfl⟩:=Int.eq_ofNat_of_zero_le h0
 rw[← pow_int,Int.toNat_natCast,Bool.eq_iff_iff,beq_iff_eq,beq_iff_eq,← Int.natCast_ediv]
 omega
set_option maxHeartbeats 400000 in
theorem put_yes (p:Nat) (v:Value) (bs:List Bool) (n:Int) (k:Nat) (w:World) (hw:Wr w p v bs) (hl:bs.length+64<1099511627776) (hn0:0≤n) (hn1:n<2^k) (hn2:n<18446744073709551616) (hk:k≤64) :
  Calls Tryz.prog 118 #[.pointer (some ⟨p,0,none⟩),.int .u64 n,.int .i64 k] w fun e w'=>e=.returned (.int .i64 0)∧∃ v',Wr w' p v' (bs++A.bitsOf n.toNat k)∧WS p w v w' v':=by
 have hd:(n / 2^k != 0)=false:=by rw[Int.ediv_eq_zero_of_lt hn0 hn1];rfl
 clear hn1
 go_enter Tryz.func118,Tryz.ntmps118
 go_wp2_with (go_at_call 117;refine (may_yes _ _ (by omega) (by omega)).mono ?_;rintro e w' ⟨rfl,rfl⟩)
 go_loopw [22] (fun i wr=>∃ j:Nat,j≤k∧i=.int .i64 j∧∃ v1,Wr wr p v1 (bs++A.bitsOf n.toNat j)∧WS p w' v wr v1) (fun i _=>k - (intOf i).toNat)
 case atStart=>exact⟨0,Nat.zero_le _,rfl,v,by simpa [A.bitsOf] using hw,WS.refl _ _ _⟩
 case round =>
  obtain⟨j,hj,rfl,v1,hw1,hs1⟩:=hrel
  by_cases hlt:j<k
  ·have HA:=hide (and_bit n j hn0)
   go_wp2_with fail
   refine (add_any p v1 _ _ wr hw1 (by simp[A.bitsOf_length];omega) HA.out.1 HA.out.2.1).mono ?_
   rintro e w2 ⟨rfl,v2,hw2,hs2⟩
   go_wp2
   go_roundw
   case rel=>exact⟨j+1,by omega,by go_num,v2,by rw[A.bitsOf_succ,← HA.out.2.2,← List.append_assoc];exact hw2,hs1.trans hs2⟩
   case measure=>simp[intOf];omega
  ·have hjk:j=k:=by omega
   subst hjk
   go_wp2
   go_ret
   exact⟨rfl,v1,hw1,hs1⟩
set_option maxHeartbeats 400000 in
theorem put_no (p:Nat) (n k:Int) (w:World) (hn0:0≤n) (hn2:n<18446744073709551616) (h:k<0∨64<k∨(2:Int)^k.toNat≤n) :
  Calls Tryz.prog 118 #[.pointer (some ⟨p,0,none⟩),.int .u64 n,.int .i64 k] w fun e w'=>e=.returned (.int .i64 1)∧w'=w:=by
 by_cases hm:k<0∨64<k
 ·clear h
  go_enter Tryz.func118,Tryz.ntmps118
  go_wp2_with (go_at_call 117;refine (may_no _ _ hm).mono ?_;rintro e w' ⟨rfl,rfl⟩)
  go_ret
  exact⟨rfl,rfl⟩
 ·obtain⟨j,rfl⟩:=Int.eq_ofNat_of_zero_le (show 0≤k by omega)
  have hd:(n / 2^j != 0)=true:=by
   rw[bne_iff_ne];intro e
   have h2:(2:Int)^j≤n:=by simp only[Int.toNat_natCast] at h;omega
   have h3:=one_le_div n (2^j) (Int.pow_pos (by omega)) h2
   omega
  have h0:j≤64:=by omega
  clear h hm
  go_enter Tryz.func118,Tryz.ntmps118
  go_wp2_with (go_at_call 117;refine (may_yes _ _ (by omega) (by omega)).mono ?_;rintro e w' ⟨rfl,rfl⟩)
  go_ret
  exact⟨rfl,rfl⟩
set_option maxHeartbeats 400000 in
theorem bclone_nil (w:World):Calls Tryz.prog 123 #[.slice none 0 0] w fun e w'=>e=.returned (.slice none 0 0)∧w'=w:=by
 have hq:=fun (w:World) (a:Option Addr) (n c:Nat)=>Lib.run_eql_slice_nil (P:=Tryz.prog) w 22 5 a n c 0 0 Tryz.underlying22
 go_enter Tryz.func123,Tryz.ntmps123
 go_wp2
 go_ret
 exact⟨rfl,rfl⟩
set_option maxHeartbeats 400000 in
theorem bclone_some (x:Addr) (len cap:Nat) (l:List Int) (w:World) (h:Sl w .u8 (some x) len cap l) (hb:len≤140737488355328) :
  Calls Tryz.prog 123 #[.slice (some x) len cap] w fun e w'=>∃ v',e=.returned v'∧w'.ownsRow w.heap.size 5 1 v' len (l.map (Value.int .u8))∧Below w.heap.size w w':=by
 obtain⟨i0,hi,hz0,hz1,hz2⟩:=info_parts Tryz.infoU8
 have hq:=fun (w:World) (a:Option Addr) (n c:Nat)=>Lib.run_eql_slice_nil (P:=Tryz.prog) w 22 5 a n c 0 0 Tryz.underlying22
 go_enter Tryz.func123,Tryz.ntmps123
 go_wp2_with (at_builtin;refine wpList_append_to rfl _ _ 22 rfl w.heap.size 5 i0 (.int .u8 0) 1 1 Tryz.underlying22 hi hz0 hz1 hz2 rfl (by decide) _ 0 [] rfl (World.ownsRow_lit w #[] 0 (Nat.le_refl _) (by decide) rfl) (some x) len cap (l.map (Value.int .u8)) rfl ?c0 ?c6 ?c1 ?c2 ?c3 ?c4 ?c5 ?_)
 case c0=>simp
 case c6=>simpa using h.1
 case c1=>exact (h.below ((Below.refl _ _).alloc (Nat.le_refl _) _)).news
 case c2=>exact ints_oneCell _ _
 case c3=>have:=h.2.1;have:=h.2.2.1;omega
 case c4=>omega
 case c5=>simp
 intro v' w1 hown has
 go_wp2
 go_ret
 refine⟨v',rfl,by simpa using hown,?_⟩
 have hk:=Kept.below (((Kept.refl _ w).alloc _).trans' (F:=fun k=>w.heap.size≤k) has.1 (fun k hk=>?_)) (Nat.le_refl _) (fun k hk=>hk)
 ·exact hk
 ·exact .inl (owns_lt (World.ownsRow_lit (base:=w.heap.size) (e:=5) (size:=1) w #[] 0 (Nat.le_refl _) (by decide) rfl) hk).1
theorem bclone_any (ao:Option Addr) (len cap:Nat) (l:List Int) (w:World) (h:Sl w .u8 ao len cap l) (hb:len≤140737488355328) :
  Calls Tryz.prog 123 #[.slice ao len cap] w fun e w'=>∃ v',e=.returned v'∧w'.ownsRow w.heap.size 5 1 v' len (l.map (Value.int .u8))∧Below w.heap.size w w':=by
 cases ao with
 | some x=>exact bclone_some x len cap l w h hb
 | none =>
  obtain⟨h1,h2,h3,h4,h5⟩:=h
  obtain rfl:=h4 rfl
  obtain rfl:len=0:=by omega
  obtain rfl:l=[]:=List.eq_nil_of_length_eq_zero h1
  refine (bclone_nil w).mono ?_
  rintro e w' ⟨rfl,rfl⟩
  exact⟨_,rfl,World.ownsRow_nil _ _ _ _,Below.refl _ _⟩
set_option maxHeartbeats 400000 in
theorem bytes_any (p:Nat) (v:Value) (bs:List Bool) (w:World) (hw:Wr w p v bs) (hl:bs.length<1099511627776) :
  Calls Tryz.prog 119 #[.pointer (some ⟨p,0,none⟩)] w fun e w'=>∃ v',e=.returned v'∧w'.ownsRow w.heap.size 5 1 v' (A.bytesOf bs).length (B8 (A.bytesOf bs))∧Below w.heap.size w w':=by
 obtain⟨hc0,hc1,hf0,hf1⟩:=hw.cells
 obtain⟨ao,cap,hv,hsl,_⟩:=Sl.of_bytes hw.2
 have hbl:=A.bytesOf_length bs
 rw[B8_ints]
 have hb:(A.bytesOf bs).length≤140737488355328:=by omega
 clear hbl hf0 hf1 hc1 hw
 subst hv
 go_enter Tryz.func119,Tryz.ntmps119
 go_wp2_with fail
 refine (bclone_any _ _ _ _ _ hsl hb).mono ?_
 rintro e w' ⟨v',rfl,hown,hbel⟩
 go_wp2
 go_ret
 exact⟨v',rfl,hown,hbel⟩
set_option maxHeartbeats 400000 in
theorem from_any (ao:Option Addr) (len cap:Nat) (l:List Nat) (w:World) (h:Sl w .u8 ao len cap (ints l)) (hb:len≤140737488355328) :
  Calls Tryz.prog 171 #[.slice ao len cap] w fun e w'=>∃ p v,e=.returned (.pointer (some ⟨p,0,none⟩))∧Rd w' p v l 0∧w.heap.size≤p∧(∀ g,v.ownBlock=some g→w.heap.size≤g)∧Below w.heap.size w w':=by
 go_enter Tryz.func171,Tryz.ntmps171
 go_wp2_with fail
 refine (bclone_any _ _ _ _ _ h hb).mono ?_
 rintro e w1 ⟨v,rfl,hown,hbel⟩
 have hs:=hbel.size
 have hlen:len=l.length:=by rw[← h.1,ints_length]
 subst hlen
 rw[← B8_ints] at hown
 have HO:=hide hown
 obtain⟨ao',cap',hv,_,_⟩:=Sl.of_bytes hown
 clear hown
 subst hv
 go_wp2
 go_ret
 have ho:=HO.out
 refine⟨w1.heap.size,.slice ao' l.length cap',rfl,⟨heap_alloc_new w1 _,owns_base (ho.alloc _) (by simp),?_⟩,hs,fun g hg=>(owns_lt ho hg).1,hbel.alloc hs _⟩
 intro e
 have:=(owns_lt ho e).2
 omega
set_option maxHeartbeats 400000 in
theorem left_any (p:Nat) (v:Value) (l:List Nat) (pos:Nat) (w:World) (hr:Rd w p v l pos) (hp:pos≤8*l.length) (hl:l.length≤140737488355328) :
  Calls Tryz.prog 212 #[.pointer (some ⟨p,0,none⟩)] w fun e w'=>e=.returned (.int .i64 ((8*l.length - pos:Nat):Int))∧Rd w' p v l pos∧Kept (fun _=>False) w w':=by
 obtain⟨hc0,hc1,hf1⟩:=hr.cells
 obtain⟨ao,cap,hv,hsl,_⟩:=Sl.of_bytes hr.2.1
 have HR:=hide hr
 clear hsl hr
 subst hv
 go_enter Tryz.func212,Tryz.ntmps212
 go_wp2
 go_region
 go_wp2
 go_ret
 refine⟨?_,HR.out,(Kept.refl _ _).drew⟩
 refine congrArg (fun x=>Ending.returned (Value.int .i64 x)) ?_
 show (l.length:Int)*8 - pos=_
 omega
theorem next_bit (l:List Nat) (pos:Nat) (hp:pos<8*l.length) (h256:∀ x∈l,x<256) :
  bits .and .u8 (((l.getD (pos / 8) 0:Nat):Int) / 2^(pos%8)) 1=((bitAt l pos:Nat):Int):=by
 unfold bitAt
 rw[A.bitsB_getD _ _ hp]
 have hx:l.getD (pos / 8) 0<256:=by
  have h1:pos / 8<l.length:=by omega
  have:l.getD (pos / 8) 0=l[pos / 8]:=by simp[List.getD,h1]
  rw[this];exact h256 _ (List.getElem_mem h1)
 generalize l.getD (pos / 8) 0=x at hx ⊢
 rw[← pow_int,← Int.natCast_ediv]
 have h1:x / 2^(pos%8)≤x:=Nat.div_le_self _ _
 generalize x / 2^(pos%8)=y at h1 ⊢
 rw[and_one _ (by omega) (by omega)]
 rcases Nat.mod_two_eq_zero_or_one y with h|h<;>simp[h]<;>omega
set_option maxHeartbeats 400000 in
theorem bnext_any (p:Nat) (v:Value) (l:List Nat) (pos:Nat) (w:World) (hr:Rd w p v l pos) (hp:pos<8*l.length) (hl:l.length≤140737488355328) (h256:∀ x∈l,x<256) :
  Calls Tryz.prog 213 #[.pointer (some ⟨p,0,none⟩)] w fun e w'=>e=.returned (.int .u8 ((bitAt l pos:Nat):Int))∧Rd w' p v l (pos+1)∧Kept (fun k=>k=p) w w':=by
 obtain⟨hc0,hc1,hf1⟩:=hr.cells
 obtain⟨g,cap,hv,_,hglt,hcap⟩:=owns_pos hr.2.1 (by omega)
 have hx:w.cell? ⟨g,pos / 8,none⟩=some (.int .u8 ((l.getD (pos / 8) 0:Nat):Int)):=by
  have h:=hr.2.1
  rw[hv] at h
  rw[h.cellAt _ (by omega)]
  simp[B8,List.getD,show pos / 8<l.length by omega]
 have HR:=hide hr
 have HX:=hide (next_bit l pos hp h256)
 have hpos:pos / 8<l.length:=by omega
 clear hr h256
 subst hv
 generalize ((l.getD (pos / 8) 0:Nat):Int)=x at hx HX
 go_enter Tryz.func213,Tryz.ntmps213
 go_wp2
 go_region
 go_wp2
 go_ret
 refine⟨congrArg (fun x=>Ending.returned (Value.int .u8 x)) HX.out,?_,Kept.drew (Kept.setCell (F:=fun k=>k=p) (Kept.refl _ _) (.inl rfl) _)⟩
 obtain⟨h1,h2,h3⟩:=HR.out
 have hpg:g≠p:=fun e=>h3 (by rw[e];rfl)
 refine⟨?_,?_,h3⟩
 ·have:=(heap_setCell_two h1 (.int .i64 ((pos:Int)+1))).2
  rw[show (((pos+1:Nat)):Int)=(pos:Int)+1 by omega]
  exact this
 ·exact ownsRow_setCell_other h2 (a:=⟨p,1,none⟩) (by intro e;exact h3 e) _
theorem or_get (a b:Nat) (j:Nat) (ha:a<2^j) (hb:b≤1) (hj:j<64) :
  bits .or .u64 (a:Int) (IntKind.u64.wrap ((b:Int)*2^j))=((a+2^j*b:Nat):Int):=by
 rw[show ∀ n:Int,IntKind.u64.wrap n=n%18446744073709551616 from fun n=>by simp[IntKind.wrap,IntKind.bits,IntKind.signed]]
 have hp:2^j≤2^63:=Nat.pow_le_pow_right (by omega) (by omega)
 rw[← pow_int,← Int.natCast_mul]
 have e:((b*2^j:Nat):Int)%18446744073709551616=((b*2^j:Nat):Int):=by
  rcases (show b=0∨b=1 by omega) with rfl|rfl
  ·simp
  ·rw[Nat.one_mul];omega
 rw[e]
 have hb2:b*2^j≤2^j:=by
  rcases (show b=0∨b=1 by omega) with rfl|rfl<;>simp
 rw[u64_or_nat a (b*2^j) (by omega) (by omega),Nat.or_comm,nat_join j (b*2^j) a (by simp) ha,Nat.mul_comm b,Nat.add_comm]
set_option maxHeartbeats 400000 in
theorem get_yes (p:Nat) (v:Value) (l:List Nat) (pos k:Nat) (w:World) (hr:Rd w p v l pos) (hl:l.length≤140737488355328) (h256:∀ x∈l,x<256) (hk:k≤64) (hs:pos+k≤8*l.length) :
  Calls Tryz.prog 172 #[.pointer (some ⟨p,0,none⟩),.int .i64 k] w fun e w'=>e=.returned (.tuple #[.int .u64 ((getV l pos k:Nat):Int),.int .i64 0])∧Rd w' p v l (pos+k)∧Kept (fun x=>x=p) w w':=by
 have H2:=hide h256
 have hd:decide (8*l.length - pos<k)=false:=by simp;omega
 clear h256
 go_enter Tryz.func172,Tryz.ntmps172
 go_wp2_with (first
  | (go_at_call 117;refine (may_yes _ _ (by omega) (by omega)).mono ?_;rintro e w' ⟨rfl,rfl⟩)
  | (go_at_call 212;refine (left_any p v l pos _ hr (by omega) hl).mono ?_;rintro e w1 ⟨rfl,hr1,hk1⟩))
 go_loopw [6,20] (fun n i wr=>∃ j:Nat,j≤k∧i=.int .i64 j∧n=.int .u64 ((getV l pos j:Nat):Int)∧Rd wr p v l (pos+j)∧Kept (fun x=>x=p) w' wr) (fun _ i _=>k - (intOf i).toNat)
 case atStart=>exact⟨0,Nat.zero_le _,rfl,rfl,hr1,hk1.mono fun _ hx=>hx.elim⟩
 case round =>
  obtain⟨j,hj,rfl,rfl,hr2,hk2⟩:=hrel
  by_cases hlt:j<k
  ·have HE:=hide (getV_succ l pos j (by omega))
   have hb1:=bitAt_le l (pos+j)
   have HO:=hide (or_get (getV l pos j) (bitAt l (pos+j)) j (getV_lt _ _ _) hb1 (by omega))
   go_wp2_with fail
   refine (bnext_any p v l (pos+j) wr hr2 (by omega) hl H2.out).mono ?_
   rintro e w2 ⟨rfl,hr3,hk3⟩
   go_wp2
   go_roundw
   case rel=>exact⟨j+1,by omega,by go_num,by rw[HE.out,← HO.out],hr3,hk2.trans hk3⟩
   case measure=>simp[intOf];omega
  ·have hjk:j=k:=by omega
   subst hjk
   go_wp2
   go_ret2
   exact⟨rfl,hr2,hk2⟩
theorem wrap64_small (n:Int) (h0:0≤n) (h1:n<1000000):wrap64 n=n:=IntWalk.wrap64_in n ⟨by omega,by omega⟩
theorem len_fin (x:Int) (c:Nat) (C y:Int) (hC:C=(c:Int)) (hy:y.toNat=x.toNat / 2^c) (hp:c=0∨1≤y) (h8:y<256) (hc:c≤56) :
  wrap64 (C+wrap64 ((bitLen y.toNat:Nat):Int))=((bitLen x.toNat:Nat):Int):=by
 have hl:=bitLen_le8 y.toNat (by omega)
 rw[wrap64_small (bitLen y.toNat:Nat) (by omega) (by omega),wrap64_small _ (by omega) (by omega)]
 rcases hp with rfl|hp
 ·simp at hy;rw[hy];omega
 ·have:=bitLen_shift x.toNat c (by omega)
  rw[← hy] at this
  omega
set_option maxHeartbeats 1000000 in
set_option maxRecDepth 100000 in
theorem len64_any (x:Int) (w:World) (h0:0≤x) (h1:x<18446744073709551616) :
  Calls Tryz.prog 199 #[.int .u64 x] w fun e w'=>e=.returned (.int .i64 ((bitLen x.toNat:Nat):Int))∧w'=w:=by
 go_enter Tryz.func199,Tryz.ntmps199
 go_wp2
 all_goals (go_ret;refine⟨congrArg (fun x=>Ending.returned (Value.int .i64 x)) ?_,rfl⟩;simp only[len8tab_get])
 ·exact len_fin x 56 56 _ rfl (by omega) (by omega) (by omega) (by omega)
 ·exact len_fin x 48 48 _ rfl (by omega) (by omega) (by omega) (by omega)
 ·exact len_fin x 40 40 _ rfl (by omega) (by omega) (by omega) (by omega)
 ·exact len_fin x 32 32 _ rfl (by omega) (by omega) (by omega) (by omega)
 ·exact len_fin x 24 24 _ rfl (by omega) (by omega) (by omega) (by omega)
 ·exact len_fin x 16 16 _ rfl (by omega) (by omega) (by omega) (by omega)
 ·exact len_fin x 8 8 _ rfl (by omega) (by omega) (by omega) (by omega)
 ·have:=len_fin x 0 0 x rfl (by simp) (by omega) (by omega) (by omega)
  simpa using this
theorem or_all (a:Nat) (x:Int) (ha:a<18446744073709551616) (h0:0≤x) (h1:x<18446744073709551616):bits .or .u64 (a:Int) x=((a ||| x.toNat:Nat):Int):=by
 have:=u64_or a x (by omega) (by omega) h0 h1
 simpa using this
set_option maxHeartbeats 400000 in
theorem width_none (ao:Option Addr) (cap:Nat) (w:World) :
  Calls Tryz.prog 159 #[.slice ao 0 cap] w fun e w'=>e=.returned (.int .i64 0)∧w'=w:=by
 go_enter Tryz.func159,Tryz.ntmps159
 go_wp2_with fail
 go_loop [3,8] (fun a i=>a=.int .u64 0∧i=.int .i64 0) (fun _ _=>0)
 case atStart=>exact⟨rfl,rfl⟩
 case round =>
  obtain⟨rfl,rfl⟩:=hrel
  go_wp2_with fail
  refine (len64_any 0 _ (by omega) (by omega)).mono ?_
  rintro e w' ⟨rfl,rfl⟩
  go_wp2
  go_ret
  exact⟨rfl,rfl⟩
set_option maxHeartbeats 400000 in
theorem width_some (b off len cap:Nat) (l:List Int) (w:World) (hl:l.length=len) (hm:len≤140737488355328) (hc:∀ i,i<len→w.cell? ⟨b,off+i,none⟩=some (.int .u64 (l.getD i 0))) (hin:In64 l) :
  Calls Tryz.prog 159 #[.slice (some ⟨b,off,none⟩) len cap] w fun e w'=>e=.returned (.int .i64 ((bitLen (orAll l):Nat):Int))∧w'=w:=by
 have HI:=hide hin
 clear hin
 go_enter Tryz.func159,Tryz.ntmps159
 go_wp2_with fail
 go_loop [3,8] (fun a i=>∃ k:Nat,k≤len∧i=.int .i64 k∧a=.int .u64 ((orAll (l.take k):Nat):Int)) (fun _ i=>len - (intOf i).toNat)
 case atStart=>exact⟨0,Nat.zero_le _,rfl,rfl⟩
 case round =>
  obtain⟨k,hk,rfl,rfl⟩:=hrel
  have hlt0:=orAll_lt (l.take k) (fun x hx=>(HI.out x (List.mem_of_mem_take hx)).2)
  by_cases hlt:k<len
  ·have hck:=hc k hlt
   obtain⟨h0,h1⟩:=HI.out.getD k
   have HE:Hid (orAll (l.take (k+1))=orAll (l.take k) ||| (l.getD k 0).toNat):=by rw[take_snocD l k (by omega)];exact orAll_snoc _ _
   have HO:=hide (or_all (orAll (l.take k)) (l.getD k 0) hlt0 h0 h1)
   clear hc
   generalize l.getD k 0=x at *
   go_wp2
   go_round
   case rel=>exact⟨k+1,by omega,by go_num,by rw[HE.out,← HO.out]⟩
   case measure=>simp[intOf];omega
  ·have hkl:k=len:=by omega
   subst hkl
   clear hc
   rw[List.take_of_length_le (by omega)]
   rw[List.take_of_length_le (by omega)] at hlt0
   go_wp2_with (go_at_call 199;refine (len64_any _ _ (by omega) (by omega)).mono ?_;rintro e w' ⟨rfl,rfl⟩)
   go_ret
   exact⟨by simp,rfl⟩
theorem width_any (ao:Option Addr) (len cap:Nat) (l:List Int) (w:World) (h:Sl w .u64 ao len cap l) (hm:len≤140737488355328) (hin:In64 l) :
  Calls Tryz.prog 159 #[.slice ao len cap] w fun e w'=>e=.returned (.int .i64 ((bitLen (orAll l):Nat):Int))∧w'=w:=by
 obtain⟨h1,h2,h3,h4,h5⟩:=h
 by_cases h0:len=0
 ·subst h0
  obtain rfl:l=[]:=List.eq_nil_of_length_eq_zero h1
  exact width_none ao cap w
 ·rcases h5 with h5|⟨b,off,rfl,hlt,h5⟩
  ·omega
  ·exact width_some b off len cap l w h1 hm h5 hin
end Go.Proofs.YtnkpgmibhpmdhaaGreat

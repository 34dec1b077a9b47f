/- Contracts and plain facts, one behind the other: L7 TC TD GB ME XA -/
import Derived.Handy
import Derived.Laws.Rows
import Derived.Laws.Tables
import Derived.Laws.CopyOwn
import Derived.Test.YtnkpgmibhpmdhaaGreatBeAV
namespace Go.Proofs.YtnkpgmibhpmdhaaGreat
set_option linter.unusedVariables false
set_option maxRecDepth 10000
open Go.RowKit
theorem pack_u (ao:Option Addr) (len cap:Nat) (l:List Int) (k:Int) (w:World) (h:Sl w .u64 ao len cap l) (hm:len*64+64<1099511627776) (hin:In64 l) :
  Calls Tryz.prog 76 #[.slice ao len cap,.int .i64 k] w fun e w'=>∃ v,e=.returned (.tuple #[v,.int .i64 (packC l k)])∧w'.ownsRow w.heap.size 5 1 v (packB l k).length (B8 (packB l k))∧Below w.heap.size w w':=by
 by_cases hk:0≤k∧k≤64
 ·refine (pack_i ao len cap l k w h hm hin hk.1 hk.2).mono ?_
  rintro e w' (⟨hf,v,rfl,ho,hb⟩|⟨hf,rfl,hb⟩)
  ·rw[packC,packB,packOk_yes hk.1 hk.2 hf,if_pos rfl,if_pos rfl]
   exact⟨v,rfl,ho,hb⟩
  ·rw[packC,packB,packOk_no (.inr (.inr hf)),if_neg (by simp),if_neg (by simp)]
   exact⟨_,rfl,World.ownsRow_nil _ _ _ _,hb⟩
 ·refine (pack_arg ao len cap k w (by omega)).mono ?_
  rintro e w' ⟨rfl,rfl⟩
  rw[packC,packB,packOk_no (by omega),if_neg (by simp),if_neg (by simp)]
  exact⟨_,rfl,World.ownsRow_nil _ _ _ _,Below.refl _ _⟩
theorem unpack_u (ao:Option Addr) (len cap:Nat) (l:List Nat) (n k:Int) (w:World) (h:Sl w .u8 ao len cap (ints l)) (h256:∀ x∈l,x<256) (hm:len≤140737488355328) :
  Calls Tryz.prog 122 #[.slice ao len cap,.int .i64 n,.int .i64 k] w fun e w'=>∃ v,e=.returned (.tuple #[v,.int .i64 (unpC l n k)])∧w'.ownsRow w.heap.size 49 1 v (unpL l n k).length ((unpL l n k).map (Value.int .u64))∧Below w.heap.size w w':=by
 by_cases ha:unpArg n k=true
 ·obtain⟨h0,h1,h2,h3⟩:=(unpArg_iff n k).1 ha
  by_cases hj:jb l (n.toNat*k.toNat)=0
  ·refine (unpack_good ao len cap l n k w h h256 (by omega) h2 h3 h0 h1 hj).mono ?_
   rintro e w' ⟨v,rfl,ho,hb⟩
   rw[unpC,unpL,ha,hj,if_pos rfl,if_pos (by simp),nums_length]
   exact⟨v,rfl,ho,hb⟩
  ·refine (unpack_bad ao len cap l n k w h (by omega) h2 h3 h0 h1 _ rfl (by omega)).mono ?_
   rintro e w' ⟨rfl,rfl⟩
   rw[unpC,unpL,ha,if_pos rfl,if_neg (by simp[hj])]
   exact⟨_,rfl,World.ownsRow_nil _ _ _ _,Below.refl _ _⟩
 ·have hn:¬ (0≤k∧k≤64∧0≤n∧n≤1048576):=fun h=>ha ((unpArg_iff n k).2 h)
  refine (unpack_arg ao len cap n k w (by omega)).mono ?_
  rintro e w' ⟨rfl,rfl⟩
  rw[unpC,unpL,if_neg ha,if_neg (by simp[ha])]
  exact⟨_,rfl,World.ownsRow_nil _ _ _ _,Below.refl _ _⟩
def ones (bs:List Bool):List Int:=bs.map fun b=>if b then 1 else 0
theorem ones_length (bs:List Bool):(ones bs).length=bs.length:=by simp[ones]
theorem ones_in (bs:List Bool):In64 (ones bs):=by
 intro x hx
 obtain⟨b,_,rfl⟩:=List.mem_map.1 hx
 cases b<;>simp
theorem ones_fit (bs:List Bool):Fit (ones bs) 1:=by
 intro x hx
 obtain⟨b,_,rfl⟩:=List.mem_map.1 hx
 cases b<;>simp
theorem ones_bits (bs:List Bool):bitsAll (ones bs) 1=bs:=by
 induction bs with
 | nil=>rfl
 | cons b bs ih =>
  show bitsAll ((if b then 1 else 0) :: ones bs) 1=b :: bs
  rw[bitsAll_cons,ih]
  cases b<;>rfl
theorem ones_get (bs:List Bool) (k:Nat) (h:k<bs.length):(ones bs).take (k+1)=(ones bs).take k++[if bs.getD k false then 1 else 0]:=by
 rw[List.take_add_one]
 simp[ones,List.getD,h]
def onesTo (bs:List Bool) (len j:Nat):List Value:=((ones bs).take j).map (Value.int .u64)++List.replicate (len - j) (.int .u64 0)
theorem onesTo_zero (bs:List Bool) (len:Nat):onesTo bs len 0=List.replicate len (.int .u64 0):=by simp[onesTo]
theorem onesTo_all (bs:List Bool) {len:Nat} (h:bs.length=len):onesTo bs len len=(ones bs).map (Value.int .u64):=by
 subst h
 unfold onesTo
 rw[show (ones bs).take bs.length=ones bs by rw[← ones_length,List.take_length]]
 simp
theorem onesTo_len (bs:List Bool) (len j:Nat) (hl:bs.length=len) (h:j<len):(((ones bs).take j).map (Value.int .u64)).length=j:=by
 rw[List.length_map,List.length_take,ones_length];omega
theorem onesTo_yes (bs:List Bool) (len j:Nat) (hl:bs.length=len) (h:j<len) (hb:bs.getD j false=true):(onesTo bs len j).set j (.int .u64 1)=onesTo bs len (j+1):=by
 have h1:=onesTo_len bs len j hl h
 unfold onesTo
 rw[ones_get bs j (by omega),hb,show len - j=(len - (j+1))+1 by omega,List.replicate_succ,List.set_append_right _ _ (by omega),h1,Nat.sub_self,List.set_cons_zero]
 simp
theorem onesTo_no (bs:List Bool) (len j:Nat) (hl:bs.length=len) (h:j<len) (hb:bs.getD j false=false):onesTo bs len j=onesTo bs len (j+1):=by
 unfold onesTo
 rw[ones_get bs j (by omega),hb,show len - j=(len - (j+1))+1 by omega,List.replicate_succ]
 simp
theorem onesTo_at (bs:List Bool) (len j:Nat) (hl:bs.length=len) (h:j<len):(onesTo bs len j)[j]?=some (.int .u64 0):=by
 have h1:=onesTo_len bs len j hl h
 unfold onesTo
 rw[List.getElem?_append_right (by omega),h1,Nat.sub_self,show len - j=(len - (j+1))+1 by omega,List.replicate_succ]
 rfl
set_option maxHeartbeats 1000000 in
theorem zbytes_some (b off len cap:Nat) (bs:List Bool) (w:World) (hl:bs.length=len) (hm:len≤1048576) (hlt:b<w.heap.size) (hc:∀ i,i<len→w.cell? ⟨b,off+i,none⟩=some (.bool (bs.getD i false))) :
  Calls Tryz.prog 34 #[.slice (some ⟨b,off,none⟩) len cap] w fun e w'=>∃ v,e=.returned v∧w'.ownsRow w.heap.size 5 1 v (A.bytesOf bs).length (B8 (A.bytesOf bs))∧Below w.heap.size w w':=by
 have HC:=hide hc
 have HL:=hide hl
 clear hc hl
 obtain⟨i0,hi0,hz0,hz1,hz2⟩:=info_parts Tryz.infoU64
 go_enter Tryz.func34,Tryz.ntmps34
 go_wp2_with (at_make;refine wpList_make_full _ rfl _ _ 123 rfl w.heap.size 49 i0 (.int .u64 0) 1 Tryz.underlying123 hi0 hz0 hz1 _ _ _ _ len rfl rfl rfl rfl (by rw[hz2];omega) (by unfold maxLen;omega) (Nat.le_refl _) ?_)
 intro w1 ho hg
 have hb1:Below w.heap.size w w1:=(Below.refl _ w).grown hg (Nat.le_refl _) (by simp)
 have ho1:w1.ownsRow w.heap.size 49 1 (.slice (some ⟨w.heap.size,0,none⟩) len len) len (onesTo bs len 0):=by
  rw[onesTo_zero]
  rw[toList_madeCells_one] at ho
  exact ho
 have HB1:=hide hb1
 have HO1:=hide ho1
 clear hb1 ho1 ho hg
 go_wp2_with fail
 go_loopw [13] (fun i wr=>∃ j:Nat,j≤len∧i=.int .i64 j∧Hid (wr.ownsRow w.heap.size 49 1 (.slice (some ⟨w.heap.size,0,none⟩) len len) len (onesTo bs len j))∧Hid (Below w.heap.size w wr)) (fun i _=>len - (intOf i).toNat)
 case atStart=>exact⟨0,Nat.zero_le _,rfl,HO1,HB1⟩
 case round =>
  obtain⟨j,hj,rfl,hor,hwr⟩:=hrel
  clear HO1 HB1
  by_cases hjl:j<len
  ·have d1:wr.cell? ⟨b,off+j,none⟩=some (.bool (bs.getD j false)):=by rw[hwr.out.cell (p:=⟨b,off+j,none⟩) hlt];exact HC.out j hjl
   obtain⟨q,hq⟩:∃ q,bs.getD j false=q:=⟨_,rfl⟩
   rw[hq] at d1
   have HQ:=hide hq
   clear hq
   cases q with
   | true =>
    have hc4:=hor.out.cellAt j (by omega)
    rw[onesTo_at bs len j HL.out hjl] at hc4
    have hf4:=hor.out.frozenAt j
    have HO:=hide (hor.out.stored j (.int .u64 1)).1
    go_wp2
    go_roundw
    case rel=>exact⟨j+1,hjl,by go_num,hide (by rw[← onesTo_yes bs len j HL.out hjl HQ.out];exact HO.out),hide (hwr.out.setCell (p:=⟨w.heap.size,j,none⟩) (Nat.le_refl _) _)⟩
    case measure=>simp[intOf];omega
   | false =>
    go_wp2
    go_roundw
    case rel=>exact⟨j+1,hjl,by go_num,hide (by rw[← onesTo_no bs len j HL.out hjl HQ.out];exact hor.out),hwr⟩
    case measure=>simp[intOf];omega
  ·obtain rfl:j=len:=by omega
   have hor2:=hor.out
   rw[onesTo_all bs HL.out] at hor2
   have hor3:wr.ownsRow w.heap.size 49 1 (.slice (some ⟨w.heap.size,0,none⟩) j j) (ones bs).length ((ones bs).map (Value.int .u64)):=by rw[ones_length,HL.out];exact hor2
   obtain⟨ax,cx,hv,hsx,_⟩:=Sl.of_owns hor3
   rw[ones_length,HL.out] at hv hsx
   injection hv with hv1 hv2 hv3
   subst hv1;subst hv3
   have HSX:=hide hsx
   clear hor2 hor3 hsx hv2
   go_wp2_with fail
   refine (pack_u _ j j (ones bs) 1 _ HSX.out (by omega) (ones_in bs)).mono ?_
   rintro e w2 ⟨v,rfl,ho2,hb2⟩
   have hok:packOk (ones bs) 1=true:=packOk_yes (by decide) (by decide) (ones_fit bs)
   have hpb:packB (ones bs) 1=A.bytesOf bs:=by
    unfold packB
    rw[hok]
    show A.bytesOf (bitsAll (ones bs) 1)=_
    rw[ones_bits]
   rw[hpb] at ho2
   have HO2:=hide (owns_base ho2 (base':=w.heap.size) fun g hg=>by have:=(owns_lt ho2 hg).1;have:=hwr.out.size;omega)
   have HB2:=hide (hwr.out.trans (hb2.mono hwr.out.size))
   clear ho2 hb2 hok hpb
   go_wp2
   go_ret
   exact⟨v,rfl,HO2.out,HB2.out⟩
theorem zbytes_none (ao:Option Addr) (cap:Nat) (w:World) :
  Calls Tryz.prog 34 #[.slice ao 0 cap] w fun e w'=>∃ v,e=.returned v∧w'.ownsRow w.heap.size 5 1 v 0 []∧Below w.heap.size w w':=by
 obtain⟨i0,hi0,hz0,hz1,hz2⟩:=info_parts Tryz.infoU64
 go_enter Tryz.func34,Tryz.ntmps34
 go_wp2_with (at_make;refine wpList_make_full _ rfl _ _ 123 rfl w.heap.size 49 i0 (.int .u64 0) 1 Tryz.underlying123 hi0 hz0 hz1 _ _ _ _ 0 rfl rfl rfl rfl (by rw[hz2];omega) (by unfold maxLen;omega) (Nat.le_refl _) ?_)
 intro w1 ho hg
 have HB1:Hid (Below w.heap.size w w1):=(Below.refl _ w).grown hg (Nat.le_refl _) (by simp)
 clear ho hg
 go_wp2_with fail
 go_loopw [13] (fun i wr=>i=.int .i64 0∧Hid (Below w.heap.size w wr)) (fun _ _=>0)
 case atStart=>exact⟨rfl,HB1⟩
 case round =>
  obtain⟨rfl,hwr⟩:=hrel
  go_wp2_with fail
  refine (pack_none _ 0 1 _ (by decide)).mono ?_
  rintro e w2 ⟨v,rfl,ho2,hb2⟩
  have HO2:=hide (owns_base ho2 (base':=w.heap.size) fun g hg=>by have:=(owns_lt ho2 hg).1;have:=hwr.out.size;omega)
  have HB2:=hide (hwr.out.trans (hb2.mono hwr.out.size))
  clear ho2 hb2
  go_wp2
  go_ret
  exact⟨v,rfl,HO2.out,HB2.out⟩
theorem zbytes_any (ao:Option Addr) (len cap:Nat) (bs:List Bool) (w:World) (h:Sb w ao len cap bs) (hm:len≤1048576) :
  Calls Tryz.prog 34 #[.slice ao len cap] w fun e w'=>∃ v,e=.returned v∧w'.ownsRow w.heap.size 5 1 v (A.bytesOf bs).length (B8 (A.bytesOf bs))∧Below w.heap.size w w':=by
 rcases h.2.2.2.2 with h5|⟨b,off,rfl,hlt,h5⟩
 ·subst h5
  obtain rfl:bs=[]:=List.eq_nil_of_length_eq_zero h.1
  exact zbytes_none ao cap w
 ·exact zbytes_some b off len cap bs w h.1 hm hlt h5
def ofL (l:List Nat) (n:Int):List Bool:=(unpL l n 1).map fun x=>x==1
theorem ofL_length (l:List Nat) (n:Int):(ofL l n).length=(unpL l n 1).length:=by simp[ofL]
theorem ofL_get (l:List Nat) (n:Int) (j:Nat) (h:j<(unpL l n 1).length):(ofL l n).getD j false=((unpL l n 1).getD j 0==1):=by simp[ofL,List.getD,h]
theorem ofL_bad (l:List Nat) (n:Int) (h:unpC l n 1≠0):ofL l n=[]:=by
 unfold ofL unpL
 unfold unpC at h
 cases ha:unpArg n 1 with
 | false=>simp
 | true =>
  rw[ha] at h
  have h2:(jb l (n.toNat*(1:Int).toNat)==0)=false:=by
   simp only[if_true] at h
   simp only[beq_eq_false_iff_ne]
   omega
  rw[h2]
  rfl
def fillTo (bs:List Bool) (len j:Nat):List Value:=Vb (bs.take j)++List.replicate (len - j) (.bool false)
theorem fillTo_zero (bs:List Bool) (len:Nat):fillTo bs len 0=List.replicate len (.bool false):=by simp[fillTo,Vb]
theorem fillTo_all (bs:List Bool) {len:Nat} (h:bs.length=len):fillTo bs len len=Vb bs:=by subst h;simp[fillTo]
theorem fillTo_set (bs:List Bool) (len j:Nat) (hl:bs.length=len) (h:j<len):(fillTo bs len j).set j (.bool (bs.getD j false))=fillTo bs len (j+1):=by
 have h1:(Vb (bs.take j)).length=j:=by rw[Vb_length,List.length_take];omega
 unfold fillTo
 rw[take_snocB bs j (by omega),show len - j=(len - (j+1))+1 by omega,List.replicate_succ,List.set_append_right _ _ (by omega),h1,Nat.sub_self,List.set_cons_zero]
 simp[Vb]
theorem fillTo_at (bs:List Bool) (len j:Nat) (hl:bs.length=len) (h:j<len):(fillTo bs len j)[j]?=some (.bool false):=by
 have h1:(Vb (bs.take j)).length=j:=by rw[Vb_length,List.length_take];omega
 unfold fillTo
 rw[List.getElem?_append_right (by omega),h1,Nat.sub_self,show len - j=(len - (j+1))+1 by omega,List.replicate_succ]
 rfl
set_option maxHeartbeats 2000000 in
theorem zof_any (ao:Option Addr) (len cap:Nat) (l:List Nat) (n:Int) (w:World) (h:Sl w .u8 ao len cap (ints l)) (h256:∀ x∈l,x<256) (hm:len≤140737488355328) :
  Calls Tryz.prog 80 #[.slice ao len cap,.int .i64 n] w fun e w'=>∃ v,e=.returned (.tuple #[v,.int .i64 (unpC l n 1)])∧w'.ownsRow w.heap.size 4 1 v (ofL l n).length (Vb (ofL l n))∧Below w.heap.size w w':=by
 have H:=hide h
 have H2:=hide h256
 clear h h256
 obtain⟨i0,hi0,hz0,hz1,hz2⟩:=info_parts Tryz.infoBool
 go_enter Tryz.func80,Tryz.ntmps80
 go_wp2_with fail
 refine (unpack_u ao len cap l n 1 _ H.out H2.out hm).mono ?_
 rintro e w1 ⟨v,rfl,ho,hb⟩
 have hle:=unpL_le l n 1
 have HOL:=hide (ofL_length l n)
 have HBAD:=hide (ofL_bad l n)
 have HG:=hide (ofL_get l n)
 obtain⟨c,hc⟩:∃ c,unpC l n 1=c:=⟨_,rfl⟩
 obtain⟨u,hu⟩:∃ u,unpL l n 1=u:=⟨_,rfl⟩
 obtain⟨bs,hbs⟩:∃ bs,ofL l n=bs:=⟨_,rfl⟩
 rw[hu] at ho hle HG HOL
 rw[hc] at HBAD ⊢
 rw[hbs] at HOL HBAD HG
 have HCC:=hide hc
 have HBS:=hide hbs
 have HBW:=hide hb
 obtain⟨ax,cx,rfl,hsx,_⟩:=Sl.of_owns ho
 obtain⟨m,hum⟩:∃ m,u.length=m:=⟨_,rfl⟩
 rw[hum] at hsx hle HG HOL ⊢
 have HSX:=hide hsx
 clear ho hb hsx hc hu hbs hum
 by_cases h0:c=0
 ·subst h0
  have hsz:=HBW.out.size
  go_wp2_with (at_make;refine wpList_make_full _ rfl _ _ 28 rfl w.heap.size 4 i0 (.bool false) 1 Tryz.underlying28 hi0 hz0 hz1 _ _ _ _ m rfl rfl rfl rfl (by rw[hz2];omega) (by unfold maxLen;omega) hsz ?_)
  intro w2 ho hg
  have hb2:Below w1.heap.size w1 w2:=(Below.refl _ w1).grown hg (Nat.le_refl _) (by simp)
  have ho1:w2.ownsRow w.heap.size 4 1 (.slice (some ⟨w1.heap.size,0,none⟩) m m) m (fillTo bs m 0):=by
   rw[fillTo_zero]
   rw[toList_madeCells_one] at ho
   exact ho
  have HB2:=hide hb2
  have HO1:=hide ho1
  clear hb2 ho1 ho hg
  go_wp2_with fail
  go_loopw [25] (fun i wr=>∃ j:Nat,j≤m∧i=.int .i64 j∧Hid (wr.ownsRow w.heap.size 4 1 (.slice (some ⟨w1.heap.size,0,none⟩) m m) m (fillTo bs m j))∧Hid (Below w1.heap.size w1 wr)) (fun i _=>m - (intOf i).toNat)
  case atStart=>exact⟨0,Nat.zero_le _,rfl,HO1,HB2⟩
  case round =>
   obtain⟨j,hj,rfl,hor,hwr⟩:=hrel
   clear HO1 HB2
   by_cases hjl:j<m
   ·rcases HSX.out.2.2.2.2 with h5|⟨b,off,rfl,hlt,h5⟩
    ·omega
    have d1:wr.cell? ⟨b,off+j,none⟩=some (.int .u64 (u.getD j 0)):=by rw[hwr.out.cell (p:=⟨b,off+j,none⟩) hlt];exact h5 j hjl
    have hg:=HG.out j hjl
    obtain⟨y,hy⟩:∃ y,u.getD j 0=y:=⟨_,rfl⟩
    rw[hy] at d1 hg
    obtain⟨q,hq⟩:∃ q,(y==1)=q:=⟨_,rfl⟩
    rw[hq] at hg
    have HGG:=hide hg
    have hc4:=hor.out.cellAt j (by omega)
    rw[fillTo_at bs m j HOL.out hjl] at hc4
    have hf4:=hor.out.frozenAt j
    have HO:=hide (hor.out.stored j (.bool q)).1
    clear h5 hy hg
    go_wp2
    go_roundw
    case rel=>exact⟨j+1,hjl,by go_num,hide (by rw[← fillTo_set bs m j HOL.out hjl,HGG.out];exact HO.out),hide (hwr.out.setCell (p:=⟨w1.heap.size,j,none⟩) (Nat.le_refl _) _)⟩
    case measure=>simp[intOf];omega
   ·obtain rfl:j=m:=by omega
    go_wp2
    go_ret2
    refine⟨.slice (some ⟨w1.heap.size,0,none⟩) j j,by rw[HCC.out];rfl,?_,HBW.out.trans (hwr.out.mono HBW.out.size)⟩
    have h6:=hor.out
    rw[fillTo_all bs HOL.out] at h6
    rw[HBS.out,HOL.out]
    exact h6
 ·have hne:(c != 0)=true:=by rw[bne_iff_ne];exact h0
  have HBN:=hide (HBAD.out h0)
  go_wp2
  go_ret2
  exact⟨.slice none 0 0,by rw[HCC.out];rfl,by rw[HBS.out,HBN.out];exact World.ownsRow_nil _ _ _ _,HBW.out⟩
def Z.bst (l:List Z.V) (kind:Int):Nat→Nat
 | 0=>0
 | n+1=>if Z.bE l kind ((n+1:Nat):Int)=0∧(Z.bst l kind n=0∨(Z.bd l kind ((n+1:Nat):Int)).length<(Z.bd l kind ((Z.bst l kind n:Nat):Int)).length) then n+1 else Z.bst l kind n
theorem bst_is (l:List Z.V) (kind:Int):∀ n,(Z.bst l kind n=0∧∀ c:Nat,1≤c→c≤n→Z.bE l kind (c:Int)≠0) ∨
  (1≤Z.bst l kind n∧Z.bst l kind n≤n∧Z.bE l kind ((Z.bst l kind n:Nat):Int)=0∧∀ c:Nat,1≤c→c≤n→Z.bE l kind (c:Int)=0→(Z.bd l kind ((Z.bst l kind n:Nat):Int)).length≤(Z.bd l kind (c:Int)).length)
 | 0=>.inl ⟨rfl,fun c h1 h2=>by omega⟩
 | n+1=>by
  have ih:=bst_is l kind n
  rw[Z.bst]
  split
  ·rename_i h
   refine .inr ⟨by omega,by omega,h.1,fun c h1 h2 h3=>?_⟩
   by_cases hc:c=n+1
   ·subst hc;exact Nat.le_refl _
   ·rcases ih with ⟨_,g⟩|⟨g0,_,_,g⟩
    ·exact absurd h3 (g c h1 (by omega))
    ·have h4:=g c h1 (by omega) h3
     rcases h.2 with h5|h5<;>omega
  ·rename_i h
   rcases ih with ⟨g0,g⟩|⟨g0,g1,g2,g⟩
   ·refine .inl ⟨g0,fun c h1 h2 h3=>?_⟩
    by_cases hc:c=n+1
    ·subst hc;exact h ⟨h3,.inl g0⟩
    ·exact g c h1 (by omega) h3
   ·refine .inr ⟨g0,by omega,g2,fun c h1 h2 h3=>?_⟩
    by_cases hc:c=n+1
    ·subst hc
     have:¬ (Z.bd l kind ((n+1:Nat):Int)).length<(Z.bd l kind ((Z.bst l kind n:Nat):Int)).length:=fun h5=>h ⟨h3,.inr h5⟩
     omega
    ·exact g c h1 (by omega) h3
theorem bst_ok {l:List Z.V} {kind:Int} (h:Z.chk l kind=0):1≤Z.bst l kind 4∧Z.bst l kind 4≤4∧Z.bE l kind ((Z.bst l kind 4:Nat):Int)=0∧∀ c:Nat,1≤c→c≤4→Z.bE l kind (c:Int)=0→(Z.bd l kind ((Z.bst l kind 4:Nat):Int)).length≤(Z.bd l kind (c:Int)).length:=by
 rcases bst_is l kind 4 with ⟨_,g⟩|g
 ·exact absurd (by unfold Z.bE;rw[if_pos (by omega)];exact h) (g 1 (by omega) (by omega))
 ·exact g
structure Z.S where
 k:Int
 c:Int
 rows:Nat
 nulls:Nat
 mn:Z.V
 mx:Z.V
 ns:List Bool
 bd:List Nat
def Z.cc (l:List Z.V) (kind codec:Int):Int:=if codec=0 then ((Z.bst (oth l) kind 4:Nat):Int) else codec
def Z.mE (l:List Z.V) (kind codec:Int):Int:=if Z.chk (oth l) kind≠0 then Z.chk (oth l) kind else if 4096<l.length then 2 else Z.bE (oth l) kind (Z.cc l kind codec)
def Z.mS (l:List Z.V) (kind codec:Int):Z.S :=
 ⟨kind,Z.cc l kind codec,l.length,cntT (nus l),Z.lo (oth l),Z.hi (oth l),if cntT (nus l)=0 then [] else nus l,Z.bd (oth l) kind (Z.cc l kind codec)⟩
def Z.sB (s:Z.S):List Nat:=E.leb s.k.toNat++(E.leb s.c.toNat++(E.leb s.rows++(E.leb s.nulls++(A.bytesOf s.ns++(Z.bl s.mn++(Z.bl s.mx++s.bd))))))
def Z.vE (s:Z.S):Int:=if Z.gE s.bd ((s.rows:Int) - (cntT s.ns:Int)) s.k s.c≠0 then Z.gE s.bd ((s.rows:Int) - (cntT s.ns:Int)) s.k s.c else if s.ns=[] then 0 else joinE s.ns (Z.gL s.bd ((s.rows:Int) - (cntT s.ns:Int)) s.k s.c)
def Z.vL (s:Z.S):List Z.V:=if Z.gE s.bd ((s.rows:Int) - (cntT s.ns:Int)) s.k s.c≠0 then [] else if s.ns=[] then Z.gL s.bd ((s.rows:Int) - (cntT s.ns:Int)) s.k s.c else joinL s.ns (Z.gL s.bd ((s.rows:Int) - (cntT s.ns:Int)) s.k s.c)
def Z.nE (rows nulls:Nat) (b:List Nat):Nat:=if nulls=0 then 0 else if b.length<(rows+7) / 8 then 3 else jb (b.take ((rows+7) / 8)) rows
def Z.nL (rows nulls:Nat) (b:List Nat):List Bool:=if nulls=0 then [] else ofL (b.take ((rows+7) / 8)) (rows:Int)
def Z.nR (rows nulls:Nat) (b:List Nat):List Nat:=if nulls=0 then b else b.drop ((rows+7) / 8)
def Z.zE (k:Int) (rows nulls:Nat) (b:List Nat):Nat:=if nulls<rows then (if Z.oE b k≠0 then Z.oE b k else Z.oE (Z.oR b k) k) else 0
def Z.zMn (k:Int) (rows nulls:Nat) (b:List Nat):Z.V:=if nulls<rows then Z.oV b k else Z.z0
def Z.zMx (k:Int) (rows nulls:Nat) (b:List Nat):Z.V:=if nulls<rows then Z.oV (Z.oR b k) k else Z.z0
def Z.zR (k:Int) (rows nulls:Nat) (b:List Nat):List Nat:=if nulls<rows then Z.oR (Z.oR b k) k else b
def Z.r4 (b:List Nat):List Nat:=Z.fb (Z.fb (Z.fb (Z.fb b)))
def Z.rk (b:List Nat):Int:=((E.gN b:Nat):Int)
def Z.rc (b:List Nat):Int:=((E.gN (Z.fb b):Nat):Int)
def Z.rr' (b:List Nat):Nat:=E.gN (Z.fb (Z.fb b))
def Z.rn (b:List Nat):Nat:=E.gN (Z.fb (Z.fb (Z.fb b)))
def Z.r5 (b:List Nat):List Nat:=Z.nR (Z.rr' b) (Z.rn b) (Z.r4 b)
def Z.rS (b:List Nat):Z.S :=
 ⟨Z.rk b,Z.rc b,Z.rr' b,Z.rn b,Z.zMn (Z.rk b) (Z.rr' b) (Z.rn b) (Z.r5 b),Z.zMx (Z.rk b) (Z.rr' b) (Z.rn b) (Z.r5 b),Z.nL (Z.rr' b) (Z.rn b) (Z.r4 b),Z.zR (Z.rk b) (Z.rr' b) (Z.rn b) (Z.r5 b)⟩
def Z.rE (b:List Nat):Int :=
 if E.gE b≠0 then ((E.gE b:Nat):Int) else if E.gE (Z.fb b)≠0 then ((E.gE (Z.fb b):Nat):Int) else if E.gE (Z.fb (Z.fb b))≠0 then ((E.gE (Z.fb (Z.fb b)):Nat):Int) else if E.gE (Z.fb (Z.fb (Z.fb b)))≠0 then ((E.gE (Z.fb (Z.fb (Z.fb b))):Nat):Int) else
 if Z.kindOk (Z.rk b)=false∨4096<Z.rr' b∨Z.rr' b<Z.rn b then 4 else if Z.nE (Z.rr' b) (Z.rn b) (Z.r4 b)≠0 then ((Z.nE (Z.rr' b) (Z.rn b) (Z.r4 b):Nat):Int) else
 if Z.zE (Z.rk b) (Z.rr' b) (Z.rn b) (Z.r5 b)≠0 then ((Z.zE (Z.rk b) (Z.rr' b) (Z.rn b) (Z.r5 b):Nat):Int) else
 if Z.vE (Z.rS b)≠0 then 4 else if Z.rc b=0∨Z.mE (Z.vL (Z.rS b)) (Z.rk b) (Z.rc b)≠0∨Z.sB (Z.mS (Z.vL (Z.rS b)) (Z.rk b) (Z.rc b))≠b then 4 else 0
theorem fb_put (n:Nat) (hn:n<18446744073709551616) (r:List Nat):E.gE (E.leb n++r)=0∧E.gN (E.leb n++r)=n∧Z.fb (E.leb n++r)=r:=by
 obtain⟨h1,h2,h3⟩:=E.g_put n hn r
 exact⟨h1,h3,by unfold Z.fb;rw[h2,List.drop_left]⟩
theorem ofL_bytes {bs:List Bool} (h:bs.length≤4096):ofL (A.bytesOf bs) (bs.length:Int)=bs:=by
 have h1:unpL (A.bytesOf bs) (bs.length:Int) 1=ones bs:=by
  unfold unpL
  have ha:unpArg (bs.length:Int) 1=true:=by rw[unpArg_iff];omega
  have hj:jb (A.bytesOf bs) (bs.length*1)=0:=by rw[Nat.mul_one];exact jb_bytes bs
  rw[ha,Int.toNat_natCast,show (1:Int).toNat=1 from rfl,hj,if_pos (by decide)]
  have:=nums_pack (ones bs) 1 (ones_in bs) (ones_fit bs)
  rwa [ones_bits,ones_length] at this
 unfold ofL
 rw[h1]
 unfold ones
 rw[List.map_map]
 conv=>rhs;rw[← List.map_id bs]
 apply List.map_congr_left
 intro b _
 cases b<;>rfl
theorem oth_k {l:List Z.V}:∀ x∈oth l,(x.k==0)=false:=fun x hx=>by
 have:=(List.mem_filter.1 hx).2
 simpa using this
theorem bare_oth {x:Z.V} (h:(x.k==0)=false):Z.bare x=x:=by unfold Z.bare;rw[h];rfl
theorem oth_bare:∀ l:List Z.V,oth (l.map Z.bare)=oth l∧nus (l.map Z.bare)=nus l
 | []=>⟨rfl,rfl⟩
 | x :: l=>by
  obtain⟨h1,h2⟩:=oth_bare l
  have hk:((Z.bare x).k==0)=(x.k==0):=by
   unfold Z.bare
   cases h:(x.k==0) with
   | true=>rfl
   | false=>exact h
  constructor
  ·show (Z.bare x :: l.map Z.bare).filter (fun y=>!(y.k==0))=(x :: l).filter fun y=>!(y.k==0)
   rw[List.filter_cons,List.filter_cons,hk]
   have h1':(l.map Z.bare).filter (fun y=>!(y.k==0))=l.filter fun y=>!(y.k==0):=h1
   rw[h1']
   cases h:(x.k==0) with
   | true=>rfl
   | false=>rw[bare_oth h]
  ·show ((Z.bare x).k==0) :: nus (l.map Z.bare)=(x.k==0) :: nus l
   rw[hk,h2]
end Go.Proofs.YtnkpgmibhpmdhaaGreat
namespace Go.Proofs.YtnkpgmibhpmdhaaGreat
set_option linter.unusedVariables false
set_option maxRecDepth 10000
open Go.RowKit Go.Sort
def Blk (w:World) (B:Nat) (c:Array Value) (t:TypeId):Prop:=w.heap[B]?=some (.cells c t (0,0))
theorem Blk.lt {w:World} {B:Nat} {c:Array Value} {t:TypeId} (h:Blk w B c t):B<w.heap.size:=lt_of_block h
theorem Blk.cell {w:World} {B:Nat} {c:Array Value} {t:TypeId} (h:Blk w B c t) {i:Nat} {v:Value} (hi:c[i]?=some v):w.cell? ⟨B,i,none⟩=some v:=by
 unfold Blk at h;simp[World.cell?,h,hi]
theorem Blk.thaw {w:World} {B:Nat} {c:Array Value} {t:TypeId} (h:Blk w B c t) (i:Nat):w.frozen? ⟨B,i,none⟩=false:=by
 unfold Blk at h;simp[World.frozen?,h]
theorem Blk.below {w w':World} {B:Nat} {c:Array Value} {t:TypeId} (h:Blk w B c t) (hb:Below w.heap.size w w'):Blk w' B c t:=by
 unfold Blk at *;rw[hb.block B (lt_of_block h)];exact h
theorem Blk.new (w:World) (c:Array Value) (t:TypeId):Blk (w.alloc (.cells c t)) w.heap.size c t:=heap_alloc_new w _
theorem Blk.alloc {w:World} {B:Nat} {c:Array Value} {t:TypeId} (h:Blk w B c t) (o:Obj):Blk (w.alloc o) B c t:=heap_alloc_keep o h
theorem Blk.set {w:World} {B:Nat} {c:Array Value} {t:TypeId} (h:Blk w B c t) (i:Nat) (v:Value):Blk (w.setCell ⟨B,i,none⟩ v) B (c.setIfInBounds i v) t:=by
 unfold Blk at *
 simp only[World.setCell,Array.getElem?_modify,h]
 simp
theorem Blk.other {w:World} {B:Nat} {c:Array Value} {t:TypeId} (h:Blk w B c t) {p:Addr} (hp:p.block≠B) (v:Value):Blk (w.setCell p v) B c t:=by
 unfold Blk at *
 rw[Below.heap_setCell _ _ _ _ (fun e=>hp e.symm)];exact h
theorem Blk.row {w:World} {B:Nat} {c:Array Value} {t:TypeId} (h:Blk w B c t) (d:Array Value):Blk (w.setRow B d) B d t:=setRow_heap w B c d t (0,0) h
theorem Blk.rowO {w:World} {B B':Nat} {c:Array Value} {t:TypeId} (h:Blk w B c t) (hne:B'≠B) (d:Array Value):Blk (w.setRow B' d) B c t:=by
 unfold Blk at *
 rw[setRow_other _ _ _ _ (fun e=>hne e.symm)];exact h
def Z.zoneV (r n:Nat) (a b:Z.V):Array Value:=#[.int .i64 (r:Int),.int .i64 (n:Int),.int .i64 a.k,.int .i64 a.i,.string a.s,.int .i64 b.k,.int .i64 b.i,.string b.s]
def put3at (w:World) (B i:Nat) (x y z:Value):World:=((w.setCell ⟨B,i,none⟩ x).setCell ⟨B,i+1,none⟩ y).setCell ⟨B,i+2,none⟩ z
theorem put3_kept (w:World) (B i:Nat) (x y z:Value):Kept (fun k=>k=B) w (put3at w B i x y z) :=
 Kept.setCell (F:=fun k=>k=B) (p:=⟨B,i+2,none⟩) (Kept.setCell (F:=fun k=>k=B) (p:=⟨B,i+1,none⟩) (Kept.setCell (F:=fun k=>k=B) (p:=⟨B,i,none⟩) (Kept.refl _ w) (.inl rfl) _) (.inl rfl) _) (.inl rfl) _
theorem put3_below {w w1:World} {B i:Nat} (x y z:Value) (h:Below w.heap.size w w1) (hB:w.heap.size≤B):Below w.heap.size w (put3at w1 B i x y z) :=
 h.trans ((put3_kept w1 B i x y z).below h.size (by rintro k rfl;exact hB))
theorem Blk.put3 {w:World} {B:Nat} {c:Array Value} {t:TypeId} (h:Blk w B c t) (i:Nat) (x y z:Value):Blk (put3at w B i x y z) B (((c.setIfInBounds i x).setIfInBounds (i+1) y).setIfInBounds (i+2) z) t :=
 ((h.set i x).set (i+1) y).set (i+2) z
theorem Blk.put3O {w:World} {B B':Nat} {c:Array Value} {t:TypeId} (h:Blk w B c t) (hne:B'≠B) (i:Nat) (x y z:Value):Blk (put3at w B' i x y z) B c t:=by
 unfold Blk at *
 rw[(put3_kept w B' i x y z).block B (lt_of_block h) (fun e=>hne e.symm)];exact h
theorem SlV.kept {F:Nat→Prop} {w w':World} {ao:Option Addr} {len cap:Nat} {l:List Z.V} (h:SlV w ao len cap l) (hb:Kept F w w') (hf:∀ x,ao=some x→¬ F x.block):SlV w' ao len cap l:=by
 obtain⟨h1,h2,h3,h4,h5⟩:=h
 refine⟨h1,h2,h3,h4,?_⟩
 rcases h5 with h5|⟨b,off,rfl,hlt,h5⟩
 ·exact .inl h5
 ·refine .inr ⟨b,off,rfl,by have:=hb.size;omega,fun j x hx=>?_⟩
  have hn:=hf ⟨b,off,none⟩ rfl
  rw[hb.cell (p:=⟨b,off+j*3,none⟩) hlt hn,hb.cell (p:=⟨b,off+j*3+1,none⟩) hlt hn,hb.cell (p:=⟨b,off+j*3+2,none⟩) hlt hn]
  exact h5 j x hx
theorem SlV.put3 {W w:World} {ao:Option Addr} {len cap:Nat} {l:List Z.V} (h:SlV w ao len cap l) (h0:SlV W ao len cap l) {B:Nat} (hB:W.heap.size≤B) (i:Nat) (x y z:Value):SlV (put3at w B i x y z) ao len cap l:=by
 obtain⟨_,_,_,_,g5⟩:=h0
 rcases g5 with g5|⟨b,off,rfl,hlt,_⟩
 ·obtain⟨h1,h2,h3,h4,_⟩:=h
  exact⟨h1,h2,h3,h4,.inl g5⟩
 ·refine h.kept (put3_kept w B i x y z) fun x hx e=>?_
  obtain rfl:=Option.some.inj hx
  have e:b=B:=e
  omega
theorem results_zone {fn:Func} {p:Tmp} (h:fn.results=#[.cell p 27]) (tmps:Array Value) (w:World) (g:Nat) {C:Array Value} (hp:tmps.getD p undef=.pointer (some ⟨g,0,none⟩)) (hA:Blk w g C 27) (hi:(Tryz.prog.info? 27).map (·.size)=some C.size) :
  (results fn tmps).run Tryz.prog w=.ok (.agg C) w :=
 results_cell_row h tmps w g 27 _ (0,0) _ hp hA Tryz.underlying27 rfl hi
set_option maxHeartbeats 1000000 in
theorem szone_any (ao:Option Addr) (len cap:Nat) (l:List Z.V) (w:World) (h:SlV w ao len cap l) (hm:len*32≤140737488355328) :
  Calls Tryz.prog 29 #[.slice ao len cap] w fun e w'=>e=.returned (.agg (Z.zoneV len (cntT (nus l)) (Z.lo (oth l)) (Z.hi (oth l))))∧Below w.heap.size w w':=by
 obtain⟨w0,hw0⟩:∃ w0,w.alloc (.cells #[.int .i64 0,.int .i64 0,.int .i64 0,.int .i64 0,.string ⟨#[]⟩,.int .i64 0,.int .i64 0,.string ⟨#[]⟩] 27)=w0:=⟨_,rfl⟩
 have hb0:Below w.heap.size w w0:=by rw[← hw0];exact below_one w _
 have hR:Blk w0 w.heap.size #[.int .i64 0,.int .i64 0,.int .i64 0,.int .i64 0,.string ⟨#[]⟩,.int .i64 0,.int .i64 0,.string ⟨#[]⟩] 27:=by rw[← hw0];exact Blk.new w _ _
 have HW:=hide hw0
 have HB0:=hide hb0
 have HR:=hide hR
 have HS:=hide (h.below hb0)
 have HL:=hide h.1
 have hn:=nus_length l
 have HNL:=hide hn
 clear hw0 hb0 hR h hn
 go_enter Tryz.func29,Tryz.ntmps29
 go_wp2_with fail
 rw[HW.out]
 refine (zsplit_any ao len cap l w0 HS.out hm).mono ?_
 rintro e w1 ⟨v1,v2,rfl,hr1,ho,hb1⟩
 obtain⟨an,cn,rfl,hsb,_⟩:=Sb.of_owns (l:=nus l) (by rw[HNL.out,HL.out];exact hr1)
 obtain⟨bo,cb,rfl,hso,_⟩:=SlV.of_own ho
 rw[HNL.out,HL.out] at hsb
 have HSB:=hide hsb
 have HSO:=hide hso
 have HB1:=hide (bthen HB0.out hb1)
 have HR1:=hide (HR.out.below hb1)
 have hle:(oth l).length≤len:=by rw[← HL.out];exact List.length_filter_le _ _
 obtain⟨no,hno⟩:∃ no,(oth l).length=no:=⟨_,rfl⟩
 rw[hno] at HSO hle ⊢
 rw[HNL.out,HL.out]
 have HNO:=hide hno
 clear hr1 ho hb1 hsb hso hno HS HB0 HR HW
 go_wp2_with fail
 refine (zcount_any an len cn (nus l) w1 HSB.out (by omega)).mono ?_
 rintro e w2 ⟨rfl,hb2⟩
 obtain⟨nn,hnn⟩:∃ nn,cntT (nus l)=nn:=⟨_,rfl⟩
 rw[hnn]
 have HNN:=hide hnn
 have HB2:=hide (bthen HB1.out hb2)
 have HR2:=hide (HR1.out.below hb2)
 have HSO2:=hide (HSO.out.below hb2)
 clear hb2 hnn HB1 HR1 HSO HSB
 obtain⟨B,hB⟩:∃ B,w2.heap.size=B:=⟨_,rfl⟩
 have hBw:w.heap.size≤B:=by have:=HB2.out.size;omega
 have hRlt:w.heap.size<w2.heap.size:=HR2.out.lt
 obtain⟨⟨ak,ai,az⟩,ha⟩:∃ a,Z.lo (oth l)=a:=⟨_,rfl⟩
 obtain⟨⟨bk,bi,bz⟩,hbv⟩:∃ b,Z.hi (oth l)=b:=⟨_,rfl⟩
 have HFIN:Hid (∀ w',Below w.heap.size w w'→(Ending.returned (.agg #[.int .i64 (len:Int),.int .i64 (nn:Int),.int .i64 ak,.int .i64 ai,.string az,.int .i64 bk,.int .i64 bi,.string bz])=.returned (.agg (Z.zoneV len (cntT (nus l)) (Z.lo (oth l)) (Z.hi (oth l))))∧Below w.heap.size w w')):=fun w' h=>⟨by rw[ha,hbv,HNN.out];rfl,h⟩
 have hZ:=Blk.new w2 #[.int .i64 (len:Int),.int .i64 (nn:Int),.int .i64 0,.int .i64 0,.string ⟨#[]⟩,.int .i64 0,.int .i64 0,.string ⟨#[]⟩] 27
 have hb3:=below_one w2 (.cells #[.int .i64 (len:Int),.int .i64 (nn:Int),.int .i64 0,.int .i64 0,.string ⟨#[]⟩,.int .i64 0,.int .i64 0,.string ⟨#[]⟩] 27)
 obtain⟨w3,hw3⟩:∃ w3,w2.alloc (.cells #[.int .i64 (len:Int),.int .i64 (nn:Int),.int .i64 0,.int .i64 0,.string ⟨#[]⟩,.int .i64 0,.int .i64 0,.string ⟨#[]⟩] 27)=w3:=⟨_,rfl⟩
 rw[hw3] at hZ hb3
 rw[hB] at hZ
 have HZ:=hide hZ
 have HW3:=hide hw3
 have HR3:=hide (HR2.out.below hb3)
 have HSO3:=hide (HSO2.out.below hb3)
 have HB3:=hide (bthen HB2.out hb3)
 have HBB:=hide hB
 have hRB:w.heap.size≠B:=by omega
 have HS2:=HSO2
 have hBB:w2.heap.size≤B:=by omega
 clear hZ hb3 hw3 HR2 HSO2 HB2
 by_cases h0:0<no
 ·go_wp2_with fail
  rw[HW3.out]
  refine (min_any bo no cb (oth l) w3 HSO3.out h0 (by omega)).mono ?_
  rintro e w4 ⟨rfl,hb4⟩
  rw[ha]
  have HZ4:=hide (HZ.out.below hb4)
  have HR4:=hide (HR3.out.below hb4)
  have HSO4:=hide (HSO3.out.below hb4)
  have HB4:=hide (bthen HB3.out hb4)
  have z2:=HZ4.out.cell (i:=2) rfl
  have z3:=HZ4.out.cell (i:=3) rfl
  have z4:=HZ4.out.cell (i:=4) rfl
  have t2:=HZ4.out.thaw 2
  have t3:=HZ4.out.thaw 3
  have t4:=HZ4.out.thaw 4
  clear hb4 HZ HR3 HSO3 HB3 hB
  have HZ5:=hide (HZ4.out.put3 2 (.int .i64 ak) (.int .i64 ai) (.string az))
  have HR5:=hide (HR4.out.put3O (B':=B) hRB.symm 2 (.int .i64 ak) (.int .i64 ai) (.string az))
  have HSO5:=hide (HSO4.out.put3 HS2.out hBB 2 (.int .i64 ak) (.int .i64 ai) (.string az))
  have HB5:=hide (put3_below (i:=2) (.int .i64 ak) (.int .i64 ai) (.string az) HB4.out hBw)
  obtain⟨w5,hw5⟩:∃ w5,put3at w4 B 2 (.int .i64 ak) (.int .i64 ai) (.string az)=w5:=⟨_,rfl⟩
  rw[hw5] at HZ5 HR5 HSO5 HB5
  have HW5:=hide hw5
  clear hw5 HZ4 HR4 HSO4 HB4
  go_wp2_with fail
  have e5:=HW5.out
  unfold put3at at e5
  rw[e5]
  clear e5 HW5 z2 z3 z4 t2 t3 t4
  refine (max_any bo no cb (oth l) w5 HSO5.out h0 (by omega)).mono ?_
  rintro e w6 ⟨rfl,hb6⟩
  rw[hbv]
  have HZ6:=hide (HZ5.out.below hb6)
  have HR6:=hide (HR5.out.below hb6)
  have HB6:=hide (bthen HB5.out hb6)
  have z2:=HZ6.out.cell (i:=5) rfl
  have z3:=HZ6.out.cell (i:=6) rfl
  have z4:=HZ6.out.cell (i:=7) rfl
  have t2:=HZ6.out.thaw 5
  have t3:=HZ6.out.thaw 6
  have t4:=HZ6.out.thaw 7
  have HZ7:Hid (Blk (((w6.setCell ⟨B,5,none⟩ (.int .i64 bk)).setCell ⟨B,6,none⟩ (.int .i64 bi)).setCell ⟨B,7,none⟩ (.string bz)) B #[.int .i64 (len:Int),.int .i64 (nn:Int),.int .i64 ak,.int .i64 ai,.string az,.int .i64 bk,.int .i64 bi,.string bz] 27):=HZ6.out.put3 5 (.int .i64 bk) (.int .i64 bi) (.string bz)
  have HR7:Hid (Blk (((w6.setCell ⟨B,5,none⟩ (.int .i64 bk)).setCell ⟨B,6,none⟩ (.int .i64 bi)).setCell ⟨B,7,none⟩ (.string bz)) w.heap.size #[.int .i64 0,.int .i64 0,.int .i64 0,.int .i64 0,.string ⟨#[]⟩,.int .i64 0,.int .i64 0,.string ⟨#[]⟩] 27):=HR6.out.put3O (B':=B) hRB.symm 5 (.int .i64 bk) (.int .i64 bi) (.string bz)
  have HB7:Hid (Below w.heap.size w (((w6.setCell ⟨B,5,none⟩ (.int .i64 bk)).setCell ⟨B,6,none⟩ (.int .i64 bi)).setCell ⟨B,7,none⟩ (.string bz))):=put3_below (i:=5) (.int .i64 bk) (.int .i64 bi) (.string bz) HB6.out hBw
  obtain⟨w7,hw7⟩:∃ w7,((w6.setCell ⟨B,5,none⟩ (.int .i64 bk)).setCell ⟨B,6,none⟩ (.int .i64 bi)).setCell ⟨B,7,none⟩ (.string bz)=w7:=⟨_,rfl⟩
  rw[hw7] at HZ7 HR7 HB7
  have HW7:=hide hw7
  have hZ7:=HZ7.out
  have hR7:=HR7.out
  unfold Blk at hZ7 hR7
  obtain⟨C,hC⟩:∃ C:Array Value,#[.int .i64 (len:Int),.int .i64 (nn:Int),.int .i64 ak,.int .i64 ai,.string az,.int .i64 bk,.int .i64 bi,.string bz]=C:=⟨_,rfl⟩
  have HCI:Hid ((Tryz.prog.info? 27).map (·.size)=some C.size):=by show _=_;rw[← hC];kernel_rfl
  have HC8:Hid (#[Value.int .i64 0,.int .i64 0,.int .i64 0,.int .i64 0,.string ⟨#[]⟩,.int .i64 0,.int .i64 0,.string ⟨#[]⟩].size=C.size):=by show _=_;rw[← hC];rfl
  have HC1:Hid (C.all (·.oneCell')=true):=by show _=_;rw[← hC];simp[Value.oneCell']
  have HCC:=hide hC
  rw[hC] at hZ7
  have HZ8:=hide hZ7
  have HR8:=hide hR7
  clear hb6 HZ5 HR5 HSO5 HB5 HZ6 HR6 HB6 hw7 hZ7 hR7 hC
  go_wp2_with (first
   | (guard_target =~ wpList _ _ _ ((⟨some 25,.load _ _,_,_,_,_⟩:Oper) :: _) _ _;rw[HW7.out];refine wpList_load_row rfl 27 (.tmp 5) rfl B rfl 27 C (0,0) _ HZ8.out Tryz.underlying27 rfl HCI.out ?_)
   | (guard_target =~ wpList _ _ _ ((⟨none,.store _ _ _,_,_,_,_⟩:Oper) :: _) _ _;refine wpList_store_row rfl 27 (.tmp 2) (.tmp 25) rfl w.heap.size C rfl rfl 27 #[.int .i64 0,.int .i64 0,.int .i64 0,.int .i64 0,.string ⟨#[]⟩,.int .i64 0,.int .i64 0,.string ⟨#[]⟩] HR8.out HCI.out HC8.out HC1.out ?_)
   | fail)
  have HRF:=hide (Blk.row HR8.out C)
  have HBF:=hide (below_setRow HB7.out (Nat.le_refl _) C)
  refine bodyPost_ret (results_zone Tryz.results29 _ _ w.heap.size rfl HRF.out HCI.out) rfl ?_
  rw[← HCC.out]
  rw[← HCC.out] at HBF
  exact HFIN.out _ HBF.out
 ·obtain rfl:no=0:=by omega
  have ho:oth l=[]:=List.eq_nil_of_length_eq_zero HNO.out
  rw[ho] at ha hbv
  obtain⟨rfl,rfl,rfl⟩:0=ak∧0=ai∧⟨#[]⟩=az:=by
   have h1:Z.lo []=Z.z0:=rfl
   rw[h1] at ha
   injection ha with h1 h2 h3
   exact⟨h1,h2,h3⟩
  obtain⟨rfl,rfl,rfl⟩:0=bk∧0=bi∧⟨#[]⟩=bz:=by
   have h1:Z.hi []=Z.z0:=rfl
   rw[h1] at hbv
   injection hbv with h1 h2 h3
   exact⟨h1,h2,h3⟩
  have hZ3:=HZ.out
  have hR3:=HR3.out
  unfold Blk at hZ3 hR3
  obtain⟨C,hC⟩:∃ C:Array Value,#[.int .i64 (len:Int),.int .i64 (nn:Int),.int .i64 0,.int .i64 0,.string ⟨#[]⟩,.int .i64 0,.int .i64 0,.string ⟨#[]⟩]=C:=⟨_,rfl⟩
  have HCI:Hid ((Tryz.prog.info? 27).map (·.size)=some C.size):=by show _=_;rw[← hC];kernel_rfl
  have HC8:Hid (#[Value.int .i64 0,.int .i64 0,.int .i64 0,.int .i64 0,.string ⟨#[]⟩,.int .i64 0,.int .i64 0,.string ⟨#[]⟩].size=C.size):=by show _=_;rw[← hC];rfl
  have HC1:Hid (C.all (·.oneCell')=true):=by show _=_;rw[← hC];simp[Value.oneCell']
  have HCC:=hide hC
  rw[hC] at hZ3
  have HZ8:=hide hZ3
  have HR8:=hide hR3
  clear hZ3 hR3 HZ HR3 HSO3 ha hbv ho hC
  go_wp2_with (first
   | (guard_target =~ wpList _ _ _ ((⟨some 25,.load _ _,_,_,_,_⟩:Oper) :: _) _ _;rw[HW3.out];refine wpList_load_row rfl 27 (.tmp 5) rfl B rfl 27 C (0,0) _ HZ8.out Tryz.underlying27 rfl HCI.out ?_)
   | (guard_target =~ wpList _ _ _ ((⟨none,.store _ _ _,_,_,_,_⟩:Oper) :: _) _ _;refine wpList_store_row rfl 27 (.tmp 2) (.tmp 25) rfl w.heap.size C rfl rfl 27 #[.int .i64 0,.int .i64 0,.int .i64 0,.int .i64 0,.string ⟨#[]⟩,.int .i64 0,.int .i64 0,.string ⟨#[]⟩] HR8.out HCI.out HC8.out HC1.out ?_)
   | fail)
  have HRF:=hide (Blk.row HR8.out C)
  have HBF:=hide (below_setRow HB3.out (Nat.le_refl _) C)
  refine bodyPost_ret (results_zone Tryz.results29 _ _ w.heap.size rfl HRF.out HCI.out) rfl ?_
  rw[← HCC.out]
  rw[← HCC.out] at HBF
  exact HFIN.out _ HBF.out
end Go.Proofs.YtnkpgmibhpmdhaaGreat
namespace Go.Proofs.YtnkpgmibhpmdhaaGreat
set_option linter.unusedVariables false
set_option maxRecDepth 10000
open Go.RowKit
theorem dwidth_none (ao:Option Addr) (cap:Nat) (w:World):Calls Tryz.prog 156 #[.slice ao 0 cap] w fun e w'=>e=.returned (.int .i64 0)∧w'=w:=by
 go_enter Tryz.func156,Tryz.ntmps156
 go_wp2
 go_ret
 exact⟨rfl,rfl⟩
theorem dwidth_some (ao:Option Addr) (n cap:Nat) (w:World) (hl:n+1≤140737488355328):Calls Tryz.prog 156 #[.slice ao (n+1) cap] w fun e w'=>e=.returned (.int .i64 (Z.dwd (n+1):Nat))∧Below w.heap.size w w':=by
 obtain⟨m,hm⟩:∃ m,n+1=m:=⟨_,rfl⟩
 rw[hm]
 have e0:((m:Int)==0)=false:=by simp;omega
 have e1:(m:Int) - 1=(n:Int):=by omega
 have e2:IntKind.u64.wrap (n:Int)=(n:Int):=by rw[u64_wrap];omega
 have hs:=Sl.one w 49 .u64 (n:Int)
 have hb:=below_one w (.cells #[.int .u64 (n:Int)] 49)
 have HW:Hid (Calls Tryz.prog 159 #[.slice (some ⟨w.heap.size,0,none⟩) 1 1] (w.alloc (.cells #[.int .u64 (n:Int)] 49)) fun e w'=>e=.returned (.int .i64 (Z.dwd m:Nat))∧w'=w.alloc (.cells #[.int .u64 (n:Int)] 49)):=by
  have:=width_any _ 1 1 [(n:Int)] _ hs (by omega) (by intro x hx;simp at hx;omega)
  rw[show orAll [(n:Int)]=m - 1 by simp[orAll];omega] at this
  exact this
 have HB:=hide hb
 clear hs hb
 go_enter Tryz.func156,Tryz.ntmps156
 go_wp2_with fail
 refine HW.out.mono ?_
 rintro e w2 ⟨rfl,rfl⟩
 clear HW
 go_wp2
 go_ret
 exact⟨rfl,HB.out⟩
theorem dwidth_any (ao:Option Addr) (len cap:Nat) (w:World) (hl:len≤140737488355328):Calls Tryz.prog 156 #[.slice ao len cap] w fun e w'=>e=.returned (.int .i64 (Z.dwd len:Nat))∧Below w.heap.size w w':=by
 cases len with
 | zero =>
  refine (dwidth_none ao cap w).mono ?_
  rintro e w' ⟨rfl,rfl⟩
  exact⟨rfl,Below.refl _ _⟩
 | succ n=>exact dwidth_some ao n cap w hl
end Go.Proofs.YtnkpgmibhpmdhaaGreat

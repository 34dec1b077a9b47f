/- Contracts and plain facts, one behind the other: MK ML GC -/
import Derived.Shelf.SlIterI.Sorted
import Derived.Shelf.SortM.Plain
import Derived.Shelf.SortM.SortNone
import Derived.Test.YtnkpgmibhpmdhaaGreatBeBE
namespace Go.Proofs.YtnkpgmibhpmdhaaGreat
set_option linter.unusedVariables false
set_option maxRecDepth 10000
open Go.RowKit Go.Maps Go.Sort Go.Shelf
def keysA_ren:Go.Shelf.Ren:=⟨fun|7=>65|10=>101|n=>n,fun|23=>110|26=>3|3=>114|28=>105|0=>0|27=>104|33=>94|4=>4|n=>n,fun|n=>n⟩
theorem keysA:SlLaysZI.n7 Tryz.prog keysA_ren:={
 mixed:=by kernel_rfl
 f7:=⟨Tryz.f65.name,by decide,Tryz.func65.trans (congrArg some (by kernel_rfl))⟩
 f10:=⟨Tryz.f101.name,by decide,Tryz.func101.trans (congrArg some (by kernel_rfl))⟩
 t0:=Tryz.underlying0
 a0:=Tryz.isAgg0
 z0:=Tryz.sizeOf0
 v0:=Tryz.zeroValue0
 t4:=Tryz.underlying4
 a4:=Tryz.isAgg4
 z4:=Tryz.sizeOf4
 v4:=Tryz.zeroValue4
 t23:=Tryz.underlying110
 a23:=Tryz.isAgg110
 z23:=Tryz.sizeOf110
 v23:=Tryz.zeroValue110
 t26:=Tryz.underlying3
 a26:=Tryz.isAgg3
 z26:=Tryz.sizeOf3
 v26:=Tryz.zeroValue3
 t27:=Tryz.underlying104
 a27:=Tryz.isAgg104
 z27:=Tryz.sizeOf104
 v27:=Tryz.zeroValue104
 t28:=Tryz.underlying105
 a28:=Tryz.isAgg105
 z28:=Tryz.sizeOf105
 v28:=Tryz.zeroValue105
 t33:=Tryz.underlying94
 a33:=Tryz.isAgg94
 z33:=Tryz.sizeOf94
 v33:=Tryz.zeroValue94 }
def sortedA_ren:Go.Shelf.Ren:=⟨fun|6=>64|8=>99|9=>100|11=>144|13=>146|12=>145|23=>198|24=>199|14=>189|15=>190|16=>191|17=>192|18=>193|19=>194|20=>195|21=>196|22=>197|25=>222|26=>223|27=>224|28=>225|29=>226|30=>164|31=>235|n=>n,fun|26=>3|28=>105|24=>93|0=>0|3=>3|37=>125|48=>44|50=>49|4=>4|40=>226|39=>225|45=>231|5=>5|9=>9|51=>258|55=>262|57=>271|58=>272|33=>94|n=>n,fun|n=>n⟩
theorem sortedA:SlLaysZI.n6 Tryz.prog sortedA_ren:={
 mixed:=by kernel_rfl
 f6:=⟨Tryz.f64.name,by decide,Tryz.func64.trans (congrArg some (by kernel_rfl))⟩
 f8:=⟨Tryz.f99.name,by decide,Tryz.func99.trans (congrArg some (by kernel_rfl))⟩
 f11:=⟨Tryz.f144.name,by decide,Tryz.func144.trans (congrArg some (by kernel_rfl))⟩
 t0:=Tryz.underlying0
 a0:=Tryz.isAgg0
 z0:=Tryz.sizeOf0
 v0:=Tryz.zeroValue0
 t24:=Tryz.underlying93
 a24:=Tryz.isAgg93
 z24:=Tryz.sizeOf93
 v24:=Tryz.zeroValue93
 t26:=Tryz.underlying3
 a26:=Tryz.isAgg3
 z26:=Tryz.sizeOf3
 v26:=Tryz.zeroValue3
 t28:=Tryz.underlying105
 a28:=Tryz.isAgg105
 z28:=Tryz.sizeOf105
 v28:=Tryz.zeroValue105
 i26:=by kernel_rfl }
def sortA_ren:Go.Shelf.Ren:=⟨fun|5=>100|8=>146|7=>145|19=>198|20=>199|10=>189|11=>190|12=>191|13=>192|14=>193|15=>194|16=>195|17=>196|18=>197|30=>222|31=>223|32=>224|33=>225|34=>226|35=>164|40=>235|n=>n,fun|23=>93|25=>3|3=>3|32=>125|22=>93|0=>0|44=>44|46=>49|4=>4|36=>226|35=>225|41=>231|5=>5|9=>9|53=>258|57=>262|63=>271|64=>272|n=>n,fun|n=>n⟩
theorem sortA:SlLaysM.n5 Tryz.prog sortA_ren:={
 mixed:=by kernel_rfl
 f5:=⟨Tryz.f100.name,by decide,Tryz.func100.trans (congrArg some (by kernel_rfl))⟩
 f7:=⟨Tryz.f145.name,by decide,Tryz.func145.trans (congrArg some (by kernel_rfl))⟩
 f8:=Tryz.func146.trans (congrArg some (by kernel_rfl))
 f10:=⟨Tryz.f189.name,by decide,Tryz.func189.trans (congrArg some (by kernel_rfl))⟩
 f11:=⟨Tryz.f190.name,by decide,Tryz.func190.trans (congrArg some (by kernel_rfl))⟩
 f12:=⟨Tryz.f191.name,by decide,Tryz.func191.trans (congrArg some (by kernel_rfl))⟩
 f13:=⟨Tryz.f192.name,by decide,Tryz.func192.trans (congrArg some (by kernel_rfl))⟩
 f14:=⟨Tryz.f193.name,by decide,Tryz.func193.trans (congrArg some (by kernel_rfl))⟩
 f15:=⟨Tryz.f194.name,by decide,Tryz.func194.trans (congrArg some (by kernel_rfl))⟩
 f16:=⟨Tryz.f195.name,by decide,Tryz.func195.trans (congrArg some (by kernel_rfl))⟩
 f17:=⟨Tryz.f196.name,by decide,Tryz.func196.trans (congrArg some (by kernel_rfl))⟩
 f18:=⟨Tryz.f197.name,by decide,Tryz.func197.trans (congrArg some (by kernel_rfl))⟩
 f19:=Tryz.func198.trans (congrArg some (by kernel_rfl))
 f20:=Tryz.func199.trans (congrArg some (by kernel_rfl))
 f30:=⟨Tryz.f222.name,by decide,Tryz.func222.trans (congrArg some (by kernel_rfl))⟩
 f31:=Tryz.func223.trans (congrArg some (by kernel_rfl))
 f32:=Tryz.func224.trans (congrArg some (by kernel_rfl))
 f33:=⟨Tryz.f225.name,by decide,Tryz.func225.trans (congrArg some (by kernel_rfl))⟩
 f34:=⟨Tryz.f226.name,by decide,Tryz.func226.trans (congrArg some (by kernel_rfl))⟩
 f35:=⟨Tryz.f164.name,by decide,Tryz.func164.trans (congrArg some (by kernel_rfl))⟩
 f40:=⟨Tryz.f235.name,by decide,Tryz.func235.trans (congrArg some (by kernel_rfl))⟩
 t0:=Tryz.underlying0
 a0:=Tryz.isAgg0
 z0:=Tryz.sizeOf0
 v0:=Tryz.zeroValue0
 t3:=Tryz.underlying3
 a3:=Tryz.isAgg3
 z3:=Tryz.sizeOf3
 v3:=Tryz.zeroValue3
 t4:=Tryz.underlying4
 a4:=Tryz.isAgg4
 z4:=Tryz.sizeOf4
 v4:=Tryz.zeroValue4
 t5:=Tryz.underlying5
 a5:=Tryz.isAgg5
 z5:=Tryz.sizeOf5
 v5:=Tryz.zeroValue5
 t9:=Tryz.underlying9
 a9:=Tryz.isAgg9
 z9:=Tryz.sizeOf9
 v9:=Tryz.zeroValue9
 t22:=Tryz.underlying93
 a22:=Tryz.isAgg93
 z22:=Tryz.sizeOf93
 v22:=Tryz.zeroValue93
 t23:=Tryz.underlying93
 a23:=Tryz.isAgg93
 z23:=Tryz.sizeOf93
 v23:=Tryz.zeroValue93
 t25:=Tryz.underlying3
 a25:=Tryz.isAgg3
 z25:=Tryz.sizeOf3
 v25:=Tryz.zeroValue3
 t32:=Tryz.underlying125
 a32:=Tryz.isAgg125
 z32:=Tryz.sizeOf125
 v32:=Tryz.zeroValue125
 t35:=Tryz.underlying225
 a35:=Tryz.isAgg225
 z35:=Tryz.sizeOf225
 v35:=Tryz.zeroValue225
 t36:=Tryz.underlying226
 a36:=Tryz.isAgg226
 z36:=Tryz.sizeOf226
 v36:=Tryz.zeroValue226
 t41:=Tryz.underlying231
 a41:=Tryz.isAgg231
 z41:=Tryz.sizeOf231
 v41:=Tryz.zeroValue231
 t44:=Tryz.underlying44
 a44:=Tryz.isAgg44
 z44:=Tryz.sizeOf44
 v44:=Tryz.zeroValue44
 t46:=Tryz.underlying49
 a46:=Tryz.isAgg49
 z46:=Tryz.sizeOf49
 v46:=Tryz.zeroValue49
 t53:=Tryz.underlying258
 a53:=Tryz.isAgg258
 z53:=Tryz.sizeOf258
 v53:=Tryz.zeroValue258
 t57:=Tryz.underlying262
 a57:=Tryz.isAgg262
 z57:=Tryz.sizeOf262
 v57:=Tryz.zeroValue262
 t63:=Tryz.underlying271
 a63:=Tryz.isAgg271
 z63:=Tryz.sizeOf271
 v63:=Tryz.zeroValue271
 t64:=Tryz.underlying272
 a64:=Tryz.isAgg272
 z64:=Tryz.sizeOf272
 v64:=Tryz.zeroValue272 }
theorem sorts_any (m:Nat):AnyZI.SortsIn Tryz.prog sortedA_ren Fence.wide m :=
 ⟨fun blk off cap ss W hH hblk hsz=>callsIn_wide.2 (AnyM.slices_Sort_int sortA blk off cap ss W hH hblk hsz),
  fun p cap W=>callsIn_wide.2 (AnyM.slices_Sort_int_none sortA p cap W)⟩
theorem sorted_is {ss l:List Int} (h:ss.Perm l) (hl:l.Pairwise (fun x y=>x≤y)):ss.mergeSort (fun x y=>decide (x≤y))=l:=by
 have tr:∀ a b c:Int,decide (a≤b)=true→decide (b≤c)=true→decide (a≤c)=true:=fun a b c h1 h2=>by
  simp only[decide_eq_true_eq] at *;omega
 have to:∀ a b:Int,(decide (a≤b)||decide (b≤a))=true:=fun a b=>by
  simp only[Bool.or_eq_true,decide_eq_true_eq];omega
 refine List.Perm.eq_of_pairwise (le:=fun a b=>decide (a≤b)=true) (fun a b _ _ h1 h2=>by simp only[decide_eq_true_eq] at h1 h2;omega) (List.pairwise_mergeSort tr to ss) (List.Pairwise.imp (fun h=>by simpa using h) hl) ((List.mergeSort_perm ss _).trans h)
theorem keys_any (mb:Option Nat) (W:World):Calls Tryz.prog 65 #[.map mb] W fun e w'=>e=.returned (.func (.func 101) #[] #[.pointer (some ⟨W.heap.size,0,none⟩)])∧w'=W.alloc (.cells #[.map mb] 110) :=
 (callsIn_wide (n:=5)).1 (AnyZI.keys_in keysA Fence.wide 5 trivial rfl mb W)
def Z.cks (kind:Int):List Int:=1 :: 2 :: 3 :: if kind=1 then [4] else []
theorem intKeys_cD (kind:Int) (c1 c2 c3:Value):intKeys (Z.cD kind c1 c2 c3)=Z.cks kind:=by
 unfold Z.cD Z.cks
 by_cases h:kind=1
 ·rw[if_pos h,if_pos h];rfl
 ·rw[if_neg h,if_neg h];rfl
theorem cks_rise (kind:Int):(Z.cks kind).Pairwise (fun x y=>x≤y):=by
 unfold Z.cks
 split<;>simp
theorem size_cD (kind:Int) (c1 c2 c3:Value):Maps.size (Z.cD kind c1 c2 c3)≤4:=by
 unfold Z.cD
 split<;>simp[Maps.size]
set_option maxHeartbeats 1000000 in
theorem sortedKeys_any (b nn:Nat) (kind:Int) (c1 c2 c3:Value) (w:World) (hown:w.ownsMap Tryz.prog 3 heldR b nn (Z.cD kind c1 c2 c3)) :
  Calls Tryz.prog 64 #[.func (.func 101) #[] #[.pointer (some ⟨w.heap.size,0,none⟩)]] (w.alloc (.cells #[.map (some b)] 110)) fun e w' =>
   ∃ v,e=.returned v∧w'.ownsRow w.heap.size 3 1 v (Z.cks kind).length ((Z.cks kind).map (Value.int .i64))∧Below w.heap.size w w':=by
 have hbl:=hown.lt
 have hsz:=size_cD kind c1 c2 c3
 have hseq:SeqGives Fence.wide 2 Tryz.prog 101 #[.pointer (some ⟨w.heap.size,0,none⟩)] encZ (fun ss=>ss.Perm (intKeys (Z.cD kind c1 c2 c3))) (Maps.size (Z.cD kind c1 c2 c3)) (w.alloc (.cells #[.map (some b)] 110)) :=
  AnyZI.keys_gives (ρ:=keysA_ren) { keysA with } Fence.wide _ trivial rfl (by omega) w.heap.size b nn _ _ (by simp) (by simp) (hown.alloc _)
 have cS:=AnyZI.sorted_in sortedA Fence.wide 5 trivial trivial trivial trivial rfl (by omega) (sorts_any _) (enters_of Tryz.func100 (by kernel_rfl) rfl) 101 #[.pointer (some ⟨w.heap.size,0,none⟩)] trivial (enters_of Tryz.func101 (by kernel_rfl) rfl) _ _ (by unfold maxLen;omega) (by omega) _ hseq
 refine ((callsIn_wide (n:=5)).1 cS).mono ?_
 rintro e w' ⟨v,ss,rfl,hS,hrow,_,hb⟩
 rw[intKeys_cD] at hS
 have hl:=hS.length_eq
 rw[sorted_is hS (cks_rise kind),hl] at hrow
 refine⟨v,rfl,owns_base hrow fun g hg=>?_,((Below.refl _ w).alloc (Nat.le_refl _) _).trans (hb.mono (by simp))⟩
 have:=(owns_lt hrow hg).1
 simp at this
 omega
end Go.Proofs.YtnkpgmibhpmdhaaGreat
namespace Go.Proofs.YtnkpgmibhpmdhaaGreat
set_option linter.unusedVariables false
set_option maxRecDepth 10000
open Go.RowKit Go.Maps
theorem cks_len (kind:Int):(Z.cks kind).length=if kind=1 then 4 else 3:=by
 unfold Z.cks
 split<;>rfl
theorem cks_get {kind:Int} {j:Nat} (hj:j<(Z.cks kind).length):(Z.cks kind).getD j 0=((j+1:Nat):Int):=by
 rw[cks_len] at hj
 unfold Z.cks
 by_cases h:kind=1
 ·rw[if_pos h] at hj ⊢
  have:j=0∨j=1∨j=2∨j=3:=by omega
  rcases this with rfl|rfl|rfl|rfl<;>rfl
 ·rw[if_neg h] at hj ⊢
  have:j=0∨j=1∨j=2:=by omega
  rcases this with rfl|rfl|rfl<;>rfl
theorem bE_ok {l:List Z.V} {kind:Int} (h:Z.chk l kind=0) {j:Nat} (hj:j<(Z.cks kind).length):Z.bE l kind ((j+1:Nat):Int)=0:=by
 rw[cks_len] at hj
 unfold Z.bE
 by_cases h3:j<3
 ·rw[if_pos (by omega)];exact h
 ·by_cases hk:kind=1
  ·rw[if_pos hk] at hj
   rw[if_neg (by omega),if_pos ⟨by omega,hk⟩,← hk];exact h
  ·rw[if_neg hk] at hj;omega
theorem bst_end {l:List Z.V} {kind:Int}:Z.bst l kind (Z.cks kind).length=Z.bst l kind 4:=by
 rw[cks_len]
 by_cases hk:kind=1
 ·rw[if_pos hk]
 ·rw[if_neg hk]
  have e:Z.bE l kind ((3+1:Nat):Int)=1:=by
   unfold Z.bE
   rw[if_neg (by omega),if_neg (fun h=>hk h.2)]
  conv=>rhs;rw[Z.bst]
  rw[if_neg]
  rintro⟨h,_⟩
  rw[e] at h
  cases h
theorem bst_step {l:List Z.V} {kind:Int} (h:Z.chk l kind=0) {j:Nat} (hj:j<(Z.cks kind).length):Z.bst l kind (j+1)=if Z.bst l kind j=0∨(Z.bd l kind ((j+1:Nat):Int)).length<(Z.bd l kind ((Z.bst l kind j:Nat):Int)).length then j+1 else Z.bst l kind j:=by
 rw[Z.bst]
 have e:=bE_ok h hj
 split
 ·rename_i h1
  rw[if_pos h1.2]
 ·rename_i h1
  rw[if_neg fun h2=>h1 ⟨e,h2⟩]
set_option maxHeartbeats 1000000 in
theorem sfewest_any (ao:Option Addr) (len cap:Nat) (l:List Z.V) (kind:Int) (w:World) (h:SlV w ao len cap l) (hI:∀ x∈l,Z.I64 x.i) (hc:Z.chk l kind=0) :
  Calls Tryz.prog 27 #[.slice ao len cap,.int .i64 kind] w fun e w'=>e=.returned (.int .i64 ((Z.bst l kind 4:Nat):Int))∧Below w.heap.size w w':=by
 have HS:=hide h
 have HI:=hide hI
 have HC:=hide hc
 clear h hI hc
 go_enter Tryz.func27,Tryz.ntmps27
 go_wp2_with fail
 refine (codecs_any kind _).mono ?_
 rintro e w1 ⟨B,b1,b2,b3,c1,c2,c3,rfl,hm,o1,o2,o3,hb⟩
 have HM:=hide hm
 have HB:=hide hb
 clear hm o1 o2 o3 hb
 go_wp2_with fail
 refine (keys_any _ _).mono ?_
 rintro e w2 ⟨rfl,rfl⟩
 go_wp2_with fail
 refine (sortedKeys_any B 4 kind c1 c2 c3 w1 HM.out).mono ?_
 rintro e w3 ⟨v,rfl,hrow,hb3⟩
 have hb3':=bthen HB.out hb3
 obtain⟨ak,ck,rfl,hs,_⟩:=Sl.of_owns hrow
 obtain⟨n,hn⟩:∃ n,(Z.cks kind).length=n:=⟨_,rfl⟩
 have hn4:n≤4:=by rw[← hn,cks_len];split<;>omega
 have hn3:3≤n:=by rw[← hn,cks_len];split<;>omega
 rw[hn] at hs ⊢
 have HN:=hide hn
 have HK:=hide hs
 have HB3:=hide hb3'
 clear hs hn hrow hb3 hb3' HM HB
 go_wp2_with fail
 go_loopw [5,6,16] (fun bv lv i wr=>∃ (j best least:Nat),j≤n∧i=.int .i64 j∧bv=.int .i64 best∧lv=.int .i64 least∧(best=0↔j=0)∧Hid (Z.bst l kind j=best)∧Hid (j≠0→(Z.bd l kind ((best:Nat):Int)).length=least)∧Hid (Below w3.heap.size w3 wr)) (fun _ _ i _=>n - (intOf i).toNat)
 case atStart=>exact⟨0,0,0,Nat.zero_le _,rfl,rfl,rfl,by omega,hide rfl,hide (fun h=>absurd rfl h),hide (Below.refl _ _)⟩
 case round =>
  obtain⟨j,best,least,hj,rfl,rfl,rfl,hb0,HBE,HLE,HB⟩:=hrel
  by_cases hjl:j<n
  ·obtain⟨b,off,rfl,hlt,d0⟩:=HK.out.at hjl
   rw[cks_get (by rw[HN.out];exact hjl)] at d0
   have d1:=(HB.out.cell (p:=⟨b,off+j,none⟩) hlt).trans d0
   obtain⟨c,hc⟩:∃ c:Int,((j+1:Nat):Int)=c:=⟨_,rfl⟩
   rw[hc] at d1
   have HCC:=hide hc
   have hbig:=bst_step HC.out (j:=j) (by rw[HN.out];exact hjl)
   rw[HBE.out,hc] at hbig
   have HBG:=hide hbig
   have hc64:Z.I64 c:=by unfold Z.I64;omega
   clear d0 hc hbig
   go_wp2_with fail
   refine (sbody_any ao len cap l kind c wr (HS.out.below (bthen HB3.out HB.out)) HI.out hc64).mono ?_
   rintro e w4 ⟨a,cp,rfl,_,hb4⟩
   have HB4:=hide (bthen HB.out hb4)
   obtain⟨m,hm⟩:∃ m,(Z.bd l kind c).length=m:=⟨_,rfl⟩
   obtain⟨x,hx⟩:∃ x,Z.bE l kind c=x:=⟨_,rfl⟩
   rw[hm,hx]
   have HMM:=hide hm
   clear hb4 hm hx HB d1 hc64
   by_cases hb:best=0
   ·have hj0:=hb0.1 hb
    have HBX:Hid (Z.bst l kind (j+1)=j+1):=by show _=_;rw[HBG.out,if_pos (.inl hb)]
    have HLX:Hid (j+1≠0→(Z.bd l kind ((j+1:Nat):Int)).length=m):=fun _=>by rw[HCC.out];exact HMM.out
    have hbb:((best:Int)==0)=true:=by rw[hb];rfl
    clear HBG hb
    go_wp2
    go_roundw
    case rel=>exact⟨j+1,j+1,m,hjl,by go_num,by rw[HCC.out],rfl,by omega,HBX,HLX,HB4⟩
    case measure=>simp[intOf];omega
   ·have hj0:j≠0:=fun e=>hb (hb0.2 e)
    have hbb:((best:Int)==0)=false:=by simp;omega
    have hle:=HLE.out hj0
    by_cases hml:m<least
    ·have HBX:Hid (Z.bst l kind (j+1)=j+1):=by show _=_;rw[HBG.out,if_pos (.inr (by rw[HMM.out,hle];exact hml))]
     have HLX:Hid (j+1≠0→(Z.bd l kind ((j+1:Nat):Int)).length=m):=fun _=>by rw[HCC.out];exact HMM.out
     clear HBG hb hle
     go_wp2
     go_roundw
     case rel=>exact⟨j+1,j+1,m,hjl,by go_num,by rw[HCC.out],rfl,by omega,HBX,HLX,HB4⟩
     case measure=>simp[intOf];omega
    ·have HBX:Hid (Z.bst l kind (j+1)=best):=by
      show _=_
      rw[HBG.out,if_neg]
      rintro (e|e)
      ·exact hb e
      ·rw[HMM.out,hle] at e;exact hml e
     have HLX:Hid (j+1≠0→(Z.bd l kind ((best:Nat):Int)).length=least):=fun _=>hle
     clear HBG hle
     go_wp2
     go_roundw
     case rel=>exact⟨j+1,best,least,hjl,by go_num,rfl,rfl,by omega,HBX,HLX,HB4⟩
     case measure=>simp[intOf];omega
  ·obtain rfl:j=n:=by omega
   have HF:Hid (Z.bst l kind 4=best):=by show _=_;rw[← bst_end,HN.out];exact HBE.out
   go_wp2
   go_ret
   exact⟨by rw[HF.out];rfl,bthen HB3.out HB.out⟩
end Go.Proofs.YtnkpgmibhpmdhaaGreat
namespace Go.Proofs.YtnkpgmibhpmdhaaGreat
set_option linter.unusedVariables false
set_option maxRecDepth 10000
open Go.RowKit
theorem none_null {l:List Z.V} (h:cntT (nus l)=0):oth l=l∧l.map Z.bare=l:=by
 have hx:∀ x∈l,(x.k==0)=false:=fun x hx=>by
  have h1:¬ true∈nus l:=List.count_eq_zero.1 h
  cases hk:(x.k==0) with
  | false=>rfl
  | true=>exact absurd (List.mem_map.2 ⟨x,hx,hk⟩) h1
 refine⟨List.filter_eq_self.2 fun x hm=>by rw[hx x hm];rfl,?_⟩
 conv=>rhs;rw[← List.map_id l]
 exact List.map_congr_left fun x hm=>bare_oth (hx x hm)
structure Z.Made (l:List Z.V) (kind codec:Int):Prop where
 chk:Z.chk (oth l) kind=0
 most:l.length≤4096
 body:Z.bE (oth l) kind (Z.cc l kind codec)=0
theorem made_of {l:List Z.V} {kind codec:Int} (h:Z.mE l kind codec=0):Z.Made l kind codec:=by
 unfold Z.mE at h
 split at h
 ·rename_i h1;exact absurd h h1
 ·rename_i h1
  split at h
  ·cases h
  ·rename_i h2
   exact⟨by omega,by omega,h⟩
theorem of_made {l:List Z.V} {kind codec:Int} (h:Z.Made l kind codec):Z.mE l kind codec=0:=by
 unfold Z.mE
 have:=h.chk
 have:=h.most
 rw[if_neg (by omega),if_neg (by omega)]
 exact h.body
theorem cc_few {l:List Z.V} {kind codec:Int} (h:Z.Made l kind codec):1≤Z.cc l kind codec∧Z.cc l kind codec≤4:=by
 have:=bE_codec h.body
 omega
theorem cc_again {l:List Z.V} {kind c:Int} (h:c≠0):Z.cc l kind c=c:=by unfold Z.cc;rw[if_neg h]
theorem mS_bare {l:List Z.V} {kind codec:Int} (h:Z.Made l kind codec):Z.Made (l.map Z.bare) kind (Z.cc l kind codec)∧Z.mS (l.map Z.bare) kind (Z.cc l kind codec)=Z.mS l kind codec:=by
 obtain⟨h1,h2⟩:=oth_bare l
 have hc:=(cc_few h).1
 have hcc:Z.cc (l.map Z.bare) kind (Z.cc l kind codec)=Z.cc l kind codec:=cc_again (by omega)
 refine⟨⟨by rw[h1];exact h.chk,by rw[List.length_map];exact h.most,by rw[h1,hcc];exact h.body⟩,?_⟩
 unfold Z.mS
 rw[hcc,h1,h2,List.length_map]
theorem bl_z0:Z.bl Z.z0=[]:=by
 have hm:Z.may Z.z0=true:=by decide
 rw[bl_may hm]
 exact lb_else (by decide) (by decide) (by decide)
theorem vals_made {l:List Z.V} {kind codec:Int} (hwf:∀ x∈l,Z.Wf x) (h:Z.Made l kind codec):Z.vE (Z.mS l kind codec)=0∧Z.vL (Z.mS l kind codec)=l.map Z.bare:=by
 have hcn:=cntT_oth l
 have hof:∀ x∈oth l,Z.Wf x:=fun x hx=>hwf x (List.mem_filter.1 hx).1
 obtain⟨g1,g2⟩:=body_back hof h.body
 by_cases h0:cntT (nus l)=0
 ·have hns:(Z.mS l kind codec).ns=[]:=by show (if cntT (nus l)=0 then [] else nus l)=[];rw[if_pos h0]
  have hr:(((Z.mS l kind codec).rows:Nat):Int) - ((cntT (Z.mS l kind codec).ns:Nat):Int)=((oth l).length:Int):=by
   rw[hns]
   show ((l.length:Nat):Int) - ((cntT []:Nat):Int)=_
   have:cntT []=0:=rfl
   omega
  unfold Z.vE Z.vL
  rw[hr,hns]
  show (if Z.gE (Z.bd (oth l) kind (Z.cc l kind codec)) _ kind (Z.cc l kind codec)≠0 then _ else _)=_∧(if Z.gE (Z.bd (oth l) kind (Z.cc l kind codec)) _ kind (Z.cc l kind codec)≠0 then _ else _)=_
  rw[g1,if_neg (by decide),if_pos rfl,if_neg (by decide),if_pos rfl]
  refine⟨rfl,?_⟩
  obtain⟨e1,e2⟩:=none_null h0
  rw[e2]
  exact g2.trans e1
 ·have hns:(Z.mS l kind codec).ns=nus l:=by show (if cntT (nus l)=0 then [] else nus l)=nus l;rw[if_neg h0]
  have hne:nus l≠[]:=fun e=>h0 (by rw[e];rfl)
  have hr:(((Z.mS l kind codec).rows:Nat):Int) - ((cntT (Z.mS l kind codec).ns:Nat):Int)=((oth l).length:Int):=by
   rw[hns]
   show ((l.length:Nat):Int) - ((cntT (nus l):Nat):Int)=_
   omega
  have hok:joinOk (nus l) (oth l)=true:=by
   unfold joinOk
   rw[nus_length,hcn]
   have ha:anyN (oth l)=false:=by
    unfold anyN
    rw[List.any_eq_false]
    intro x hx
    rw[oth_k x hx]
    decide
   rw[ha]
   simp
  unfold Z.vE Z.vL
  rw[hr,hns]
  show (if Z.gE (Z.bd (oth l) kind (Z.cc l kind codec)) _ kind (Z.cc l kind codec)≠0 then _ else _)=_∧(if Z.gE (Z.bd (oth l) kind (Z.cc l kind codec)) _ kind (Z.cc l kind codec)≠0 then _ else _)=_
  rw[g1,if_neg (by decide),if_neg hne,if_neg (by decide),if_neg hne]
  show joinE (nus l) (Z.gL (Z.bd (oth l) kind (Z.cc l kind codec)) _ kind (Z.cc l kind codec))=0∧joinL (nus l) (Z.gL (Z.bd (oth l) kind (Z.cc l kind codec)) _ kind (Z.cc l kind codec))=_
  rw[g2]
  unfold joinE joinL
  rw[hok,if_pos rfl,if_pos rfl]
  exact⟨rfl,joinV_split l⟩
theorem parts_made {l:List Z.V} {kind codec:Int} (hwf:∀ x∈l,Z.Wf x) (h:Z.Made l kind codec) :
  E.gE (Z.sB (Z.mS l kind codec))=0∧E.gE (Z.fb (Z.sB (Z.mS l kind codec)))=0∧E.gE (Z.fb (Z.fb (Z.sB (Z.mS l kind codec))))=0∧E.gE (Z.fb (Z.fb (Z.fb (Z.sB (Z.mS l kind codec)))))=0 ∧
  Z.nE (Z.rr' (Z.sB (Z.mS l kind codec))) (Z.rn (Z.sB (Z.mS l kind codec))) (Z.r4 (Z.sB (Z.mS l kind codec)))=0 ∧
  Z.zE (Z.rk (Z.sB (Z.mS l kind codec))) (Z.rr' (Z.sB (Z.mS l kind codec))) (Z.rn (Z.sB (Z.mS l kind codec))) (Z.r5 (Z.sB (Z.mS l kind codec)))=0∧Z.rS (Z.sB (Z.mS l kind codec))=Z.mS l kind codec:=by
 have hcn:=cntT_oth l
 have hkk:=(chk_zero h.chk).1
 have hc:=cc_few h
 have hlm:=h.most
 obtain⟨cd,hcd⟩:∃ cd,Z.cc l kind codec=cd:=⟨_,rfl⟩
 rw[hcd] at hc
 obtain⟨body,hbody⟩:∃ body,Z.bd (oth l) kind cd=body:=⟨_,rfl⟩
 obtain⟨ns,hns⟩:∃ ns,(if cntT (nus l)=0 then [] else nus l)=ns:=⟨_,rfl⟩
 have hS:Z.mS l kind codec=⟨kind,cd,l.length,cntT (nus l),Z.lo (oth l),Z.hi (oth l),ns,body⟩:=by unfold Z.mS;rw[hcd,hbody,hns]
 rw[hS]
 obtain⟨n0,hn0⟩:∃ n0,cntT (nus l)=n0:=⟨_,rfl⟩
 rw[hn0] at hcn hns ⊢
 obtain⟨tail,htail⟩:∃ tail,Z.bl (Z.lo (oth l))++(Z.bl (Z.hi (oth l))++body)=tail:=⟨_,rfl⟩
 have hb:Z.sB ⟨kind,cd,l.length,n0,Z.lo (oth l),Z.hi (oth l),ns,body⟩=E.leb kind.toNat++(E.leb cd.toNat++(E.leb l.length++(E.leb n0++(A.bytesOf ns++tail)))):=by rw[← htail];rfl
 rw[hb]
 obtain⟨a1,a2,a3⟩:=fb_put kind.toNat (by omega) (E.leb cd.toNat++(E.leb l.length++(E.leb n0++(A.bytesOf ns++tail))))
 obtain⟨b1,b2,b3⟩:=fb_put cd.toNat (by omega) (E.leb l.length++(E.leb n0++(A.bytesOf ns++tail)))
 obtain⟨c1,c2,c3⟩:=fb_put l.length (by omega) (E.leb n0++(A.bytesOf ns++tail))
 obtain⟨d1,d2,d3⟩:=fb_put n0 (by omega) (A.bytesOf ns++tail)
 have ek:Z.rk (E.leb kind.toNat++(E.leb cd.toNat++(E.leb l.length++(E.leb n0++(A.bytesOf ns++tail)))))=kind:=by unfold Z.rk;rw[a2];omega
 have ec:Z.rc (E.leb kind.toNat++(E.leb cd.toNat++(E.leb l.length++(E.leb n0++(A.bytesOf ns++tail)))))=cd:=by unfold Z.rc;rw[a3,b2];omega
 have er:Z.rr' (E.leb kind.toNat++(E.leb cd.toNat++(E.leb l.length++(E.leb n0++(A.bytesOf ns++tail)))))=l.length:=by unfold Z.rr';rw[a3,b3,c2]
 have en:Z.rn (E.leb kind.toNat++(E.leb cd.toNat++(E.leb l.length++(E.leb n0++(A.bytesOf ns++tail)))))=n0:=by unfold Z.rn;rw[a3,b3,c3,d2]
 have e4:Z.r4 (E.leb kind.toNat++(E.leb cd.toNat++(E.leb l.length++(E.leb n0++(A.bytesOf ns++tail)))))=A.bytesOf ns++tail:=by unfold Z.r4;rw[a3,b3,c3,d3]
 have hnul:Z.nE l.length n0 (A.bytesOf ns++tail)=0∧Z.nL l.length n0 (A.bytesOf ns++tail)=ns∧Z.nR l.length n0 (A.bytesOf ns++tail)=tail:=by
  by_cases h0:n0=0
  ·rw[if_pos h0] at hns
   subst hns
   unfold Z.nE Z.nL Z.nR
   rw[if_pos h0,if_pos h0,if_pos h0]
   exact⟨rfl,rfl,rfl⟩
  ·rw[if_neg h0] at hns
   subst hns
   have hbl:(A.bytesOf (nus l)).length=(l.length+7) / 8:=by rw[A.bytesOf_length,nus_length]
   have ht:(A.bytesOf (nus l)++tail).take ((l.length+7) / 8)=A.bytesOf (nus l):=by rw[← hbl,List.take_left]
   have hd:(A.bytesOf (nus l)++tail).drop ((l.length+7) / 8)=tail:=by rw[← hbl,List.drop_left]
   have hj:=jb_bytes (nus l)
   have ho:=ofL_bytes (bs:=nus l) (by rw[nus_length];exact hlm)
   rw[nus_length] at hj ho
   unfold Z.nE Z.nL Z.nR
   rw[if_neg h0,if_neg h0,if_neg h0,if_neg (by rw[List.length_append,hbl];omega),ht,hd]
   exact⟨hj,ho,rfl⟩
 have e5:Z.r5 (E.leb kind.toNat++(E.leb cd.toNat++(E.leb l.length++(E.leb n0++(A.bytesOf ns++tail)))))=tail:=by unfold Z.r5;rw[er,en,e4];exact hnul.2.2
 have hz:Z.zE kind l.length n0 tail=0∧Z.zMn kind l.length n0 tail=Z.lo (oth l)∧Z.zMx kind l.length n0 tail=Z.hi (oth l)∧Z.zR kind l.length n0 tail=body:=by
  by_cases hlt:n0<l.length
  ·obtain⟨x,t,hxt⟩:∃ x t,oth l=x :: t:=by
    cases ho:oth l with
    | nil=>rw[ho] at hcn;simp at hcn;omega
    | cons x t=>exact⟨x,t,rfl⟩
   have hlo:=(lo_all t x).1
   have hhi:=(hi_all t x).1
   rw[← hxt] at hlo hhi
   obtain⟨⟨k1,i1,s1⟩,h1⟩:∃ y,Z.lo (oth l)=y:=⟨_,rfl⟩
   obtain⟨⟨k2,i2,s2⟩,h2⟩:∃ y,Z.hi (oth l)=y:=⟨_,rfl⟩
   rw[h1] at hlo
   rw[h2] at hhi
   have m1:=(chk_zero h.chk).2.2.2 _ hlo
   have m2:=(chk_zero h.chk).2.2.2 _ hhi
   have e1:k1=kind:=(chk_zero h.chk).2.2.1 _ hlo
   have e2:k2=kind:=(chk_zero h.chk).2.2.1 _ hhi
   have j1:=(hwf _ (List.mem_filter.1 hlo).1).2.1
   have j2:=(hwf _ (List.mem_filter.1 hhi).1).2.1
   rw[h1,h2,bl_may m1,bl_may m2] at htail
   subst htail e1
   obtain⟨p1,p2,p3⟩:=back_one j1 m1 (Z.lb ⟨k2,i2,s2⟩++body)
   subst e2
   obtain⟨q1,q2,q3⟩:=back_one j2 m2 body
   unfold Z.zE Z.zMn Z.zMx Z.zR
   rw[if_pos hlt,if_pos hlt,if_pos hlt,if_pos hlt,p1,if_neg (by decide),p2,p3,q1,q2,q3,h1,h2]
   exact⟨rfl,rfl,rfl,rfl⟩
  ·have ho:oth l=[]:=List.eq_nil_of_length_eq_zero (by omega)
   have h1:Z.lo (oth l)=Z.z0:=by rw[ho];rfl
   have h2:Z.hi (oth l)=Z.z0:=by rw[ho];rfl
   rw[h1,h2,bl_z0,List.nil_append,List.nil_append] at htail
   unfold Z.zE Z.zMn Z.zMx Z.zR
   rw[if_neg hlt,if_neg hlt,if_neg hlt,if_neg hlt,h1,h2]
   exact⟨rfl,rfl,rfl,htail.symm⟩
 refine⟨a1,by rw[a3];exact b1,by rw[a3,b3];exact c1,by rw[a3,b3,c3];exact d1,by rw[er,en,e4];exact hnul.1,by rw[ek,er,en,e5];exact hz.1,?_⟩
 unfold Z.rS
 rw[ek,ec,er,en,e4,e5,hnul.2.1,hz.2.1,hz.2.2.1,hz.2.2.2]
theorem read_back {l:List Z.V} {kind codec:Int} (hwf:∀ x∈l,Z.Wf x) (h:Z.mE l kind codec=0):Z.rE (Z.sB (Z.mS l kind codec))=0∧Z.vL (Z.rS (Z.sB (Z.mS l kind codec)))=l.map Z.bare∧Z.mS (l.map Z.bare) kind (Z.cc l kind codec)=Z.mS l kind codec ∧
  Z.rk (Z.sB (Z.mS l kind codec))=kind∧Z.rc (Z.sB (Z.mS l kind codec))=Z.cc l kind codec:=by
 have hm:=made_of h
 obtain⟨p1,p2,p3,p4,p5,p6,p7⟩:=parts_made hwf hm
 obtain⟨v1,v2⟩:=vals_made hwf hm
 obtain⟨s1,s2⟩:=mS_bare hm
 have hc:=cc_few hm
 obtain⟨b,hb⟩:∃ b,Z.sB (Z.mS l kind codec)=b:=⟨_,rfl⟩
 rw[hb] at p1 p2 p3 p4 p5 p6 p7 ⊢
 have p8:=p7
 unfold Z.rS Z.mS at p8
 injection p8 with ek ec er en
 have hkk:=(chk_zero hm.chk).1
 have hko:Z.kindOk kind=true:=by rcases hkk with rfl|rfl|rfl<;>rfl
 have hcn:=cntT_oth l
 have hlm:=hm.most
 refine⟨?_,by rw[p7];exact v2,s2,ek,ec⟩
 unfold Z.rE
 rw[if_neg (by omega),if_neg (by omega),if_neg (by omega),if_neg (by omega),if_neg (by rw[ek,er,en,hko];rintro (e|e|e)<;>first|omega|cases e),if_neg (by omega),if_neg (by omega),p7,v1,v2,ek,ec,s2,if_neg (by decide),if_neg]
 rintro (e|e|e)
 ·omega
 ·exact e (of_made s1)
 ·exact e hb
end Go.Proofs.YtnkpgmibhpmdhaaGreat

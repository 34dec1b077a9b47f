/- Contracts and plain facts, one behind the other: H7 MS MX MG -/
import Derived.Test.YtnkpgmibhpmdhaaGreatBeBN
namespace Go.Proofs.YtnkpgmibhpmdhaaGreat
set_option maxRecDepth 10000
set_option linter.unusedVariables false
open Go.RowKit
namespace K
set_option maxRecDepth 10000
def zX (most:Int) (b:List Nat):List Nat:=if oE most b=0 then oX b else []
def zR (most:Int) (b:List Nat):List Nat:=if oE most b=0 then oR b else []
theorem z_good {most:Int} {b:List Nat} (h:oE most b=0):zX most b=oX b∧zR most b=oR b:=by unfold zX zR;rw[if_pos h,if_pos h];exact⟨rfl,rfl⟩
theorem z_bad {most:Int} {b:List Nat} (h:oE most b≠0):zX most b=[]∧zR most b=[]:=by unfold zX zR;rw[if_neg h,if_neg h];exact⟨rfl,rfl⟩
end K
def OpenAns (most:Int) (l:List Nat) (w:World) (e:Ending):Prop :=
 ∃ a1 c1 a2 c2,e=.returned (.tuple #[.slice a1 (K.zX most l).length c1,.slice a2 (K.zR most l).length c2,.int .i64 ((K.oE most l:Nat):Int)])∧Sl w .u8 a1 (K.zX most l).length c1 (ints (K.zX most l))∧Sl w .u8 a2 (K.zR most l).length c2 (ints (K.zR most l))
theorem OpenAns.bad {most:Int} {l:List Nat} {w:World} {x:Int} (h:K.oE most l≠0) (hx:((K.oE most l:Nat):Int)=x):OpenAns most l w (.returned (.tuple #[.slice none 0 0,.slice none 0 0,.int .i64 x])):=by
 unfold OpenAns
 rw[(K.z_bad h).1,(K.z_bad h).2,hx]
 exact⟨none,0,none,0,rfl,Sl.nil _ _,Sl.nil _ _⟩
def openTbl9 (a0:Option Addr) (m c:Nat) (N:Nat) (l:List Nat):List (Nat × V.Ent) :=
 [(0,V.Ent.is (.slice a0 m c)),(7,V.Ent.is (.int .u64 (N:Int))),(39,V.Ent.is (.slice a0 m c)),(40,V.Ent.is (.int .u64 (N:Int))),(41,V.Ent.is (.int .i64 (N:Int))),(42,V.Ent.is (.slice a0 N c)),
  (43,V.Ent.is (.slice a0 m c)),(44,V.Ent.is (.int .u64 (N:Int))),(45,V.Ent.is (.int .i64 (N:Int))),(46,V.Ent.sl (m - N) (l.drop N)),(10,V.Ent.is (.slice a0 N c)),(11,V.Ent.sl (m - N) (l.drop N))]
def openTbl12 (B:Nat) (s4:List Nat) (a0:Option Addr) (N c:Nat) (x:List Nat) (b:Bool):List (Nat × V.Ent) :=
 [(12,V.Ent.is (.pointer (some ⟨B,0,none⟩))),(10,V.Ent.is (.slice a0 N c)),(52,V.Ent.is (.agg (B8 s4).toArray)),(53,entTab K.row),(54,V.Ent.is (.slice a0 N c)),(55,V.Ent.is (.int .u32 ((K.crc x:Nat):Int))),(56,V.Ent.is (.agg (B8 (K.le4 (K.crc x))).toArray)),(57,V.Ent.is (.bool b))]
set_option maxHeartbeats 2000000 in
theorem open_any (ao:Option Addr) (len cap:Nat) (l:List Nat) (most:Int) (w:World) (h:Sl w .u8 ao len cap (ints l)) (hm:len≤140737488355328) (h256:∀ x∈l,x<256) (hm0 : -9223372036854775808≤most) (hm1:most<9223372036854775808) :
  Calls Tryz.prog 18 #[.slice ao len cap,.int .i64 most] w fun e w'=>OpenAns most l w' e∧Below w.heap.size w w':=by
 obtain⟨hz,hzi⟩:=zero_of_info Tryz.infoFour
 obtain⟨Z4,hZ4⟩:∃ Z4:List Value,four 0 0 0 0=Z4.toArray:=⟨[.int .u8 0,.int .u8 0,.int .u8 0,.int .u8 0],rfl⟩
 have HZ4:Hid (Z4.length=4):=hide (by have:=congrArg Array.size hZ4;simpa [four_size] using this.symm)
 rw[hZ4] at hz
 clear hZ4 hzi
 have H:=hide h
 have H2:=hide h256
 have hll:l.length=len:=by rw[← h.1,ints_length]
 have HLL:=hide hll
 have hgN:=E.gN_lt h256
 have HG0:=hide (fun h=>E.gE_zero (l:=l) h h256)
 have HE:=hide (E.gE_le l)
 clear h h256 hll
 go_enter Tryz.func18,Tryz.ntmps18
 go_wp2_with fail
 refine (get_any _ _ _ l _ H.out H2.out hm).mono ?_
 rintro e w3 ⟨rfl,hb3⟩
 have H3:=hide (H.out.below hb3)
 obtain⟨N,hN⟩:∃ N,E.gN l=N:=⟨_,rfl⟩
 obtain⟨k,hk⟩:∃ k,E.gK l=k:=⟨_,rfl⟩
 obtain⟨G,hG⟩:∃ G,E.gE l=G:=⟨_,rfl⟩
 rw[hN] at hgN
 rw[hG] at HE
 have HNN:=hide hN
 have HKK:=hide hk
 have HGG:=hide hG
 obtain⟨X,hX⟩:∃ X:Int,((E.gN l:Nat):Int)=X:=⟨_,rfl⟩
 obtain⟨Y,hY⟩:∃ X:Int,((E.gK l:Nat):Int)=X:=⟨_,rfl⟩
 obtain⟨Z,hZ⟩:∃ X:Int,((E.gE l:Nat):Int)=X:=⟨_,rfl⟩
 rw[hX,hY,hZ]
 have hX0:0≤X:=by omega
 have hX1:X<18446744073709551616:=by omega
 have HXX:=hide (show X=(N:Int) by omega)
 have HYY:=hide (show Y=(k:Int) by omega)
 have HZZ:=hide (show ((G:Nat):Int)=Z by omega)
 by_cases hg:G=0
 ·have hZ0:Z=0:=by omega
  subst hZ0
  have HGz:=hide (show E.gE l=0 by omega)
  obtain⟨q1,q2,q3,q4,q5,q6⟩:=HG0.out HGz.out
  rw[HKK.out,HLL.out] at q1
  rw[HKK.out] at q2 q6
  have HQ:=hide (And.intro q1 (And.intro q2 q6))
  clear q1 q2 q3 q4 q5 q6 hX hY hZ hN hk hG hgN hg HZZ
  by_cases hneg:most<0
  ·have HO:=hide (K.oE_range (most:=most) HGz.out (.inl hneg))
   go_wp2
   go_ret3
   exact⟨OpenAns.bad (by rw[HO.out];decide) (by rw[HO.out];rfl),hb3⟩
  ·by_cases hbig:most<X
   ·have HO:=hide (K.oE_range (most:=most) HGz.out (.inr (by rw[HNN.out,← HXX.out];exact hbig)))
    go_wp2
    go_ret3
    exact⟨OpenAns.bad (by rw[HO.out];decide) (by rw[HO.out];rfl),hb3⟩
   ·have hY0:0≤Y:=by rw[HYY.out];omega
    go_wp2_with (guard_target =~ wpList _ _ _ ((⟨some 32,_,_,_,_,_⟩:Oper) :: _) _ _;refine wpList_rest rfl (.tmp 30) (.tmp 31) rfl ao len cap rfl Y rfl l H3.out hY0 (by rw[HYY.out,Int.toNat_natCast];exact HQ.out.1) ?_)
    intro a0 c0 hs0
    obtain⟨m,hme⟩:∃ m,len - Y.toNat=m:=⟨_,rfl⟩
    obtain⟨lr,hlr⟩:∃ lr,l.drop Y.toNat=lr:=⟨_,rfl⟩
    rw[hme,hlr] at hs0
    rw[hme]
    have HMe:=hide (show m=len - k by rw[← hme,HYY.out,Int.toNat_natCast])
    have HLr:=hide (show lr=l.drop k by rw[← hlr,HYY.out,Int.toNat_natCast])
    have hmI:(m:Int)≤140737488355328:=by omega
    have HS0:=hide hs0
    have hgt:decide (most<X)=false:=by simp;omega
    have hlt0:decide (most<0)=false:=by simp;omega
    clear hme hlr hs0 hm
    by_cases hsh:(m:Int)<X+4
    ·have HO:=hide (K.oE_short (most:=most) HGz.out hneg (by rw[HNN.out,← HXX.out];exact hbig) (by rw[HLL.out,HKK.out,HNN.out,← HMe.out];have:=HXX.out;omega))
     go_wp2
     go_ret3
     exact⟨OpenAns.bad (by rw[HO.out];decide) (by rw[HO.out];rfl),hb3⟩
    ·go_wp2_with fail
     have HNm:Hid (N+4≤m):=hide (by have:=HXX.out;omega)
     have hlrl:lr.length=m:=by rw[← HS0.out.1,ints_length]
     refine V.wp_region2 (w0:=w3) [39,40,41,42,43,44,45,46,10,11] [0,7] (openTbl9 a0 m c0 N lr) rfl (by kernel_rfl) (by kernel_rfl) (Below.refl _ _) ?hb ?hs ?hd
     case hb =>
      intro d hd
      simp only[List.mem_cons,List.not_mem_nil,or_false] at hd
      rcases hd with rfl|rfl
      ·rfl
      ·show Value.int .u64 X=Value.int .u64 (N:Int)
       rw[HXX.out]
     case hs =>
      have hNi:(N:Int)<9223372036854775808:=by have:=HXX.out;omega
      have hcv:∀ w:World,(convert 49 3 (.int .u64 (N:Int))).run Tryz.prog w=.ok (.int .i64 (N:Int)) w:=fun w=>by
       simp[go_sem,IntKind.wrap_i64];omega
      have hNc:N≤c0:=by have:=HS0.out.2.1;have:=HNm.out;omega
      refine⟨?_,?_,?_,?_,?_,?_,?_,?_,?_,?_,trivial⟩
      ·exact V.Step.move (.inl rfl) (.inl rfl) (.inl ⟨_,rfl⟩) (fun _ h=>by cases h;rfl)
      ·exact V.Step.move (.inl rfl) (.inl rfl) (.inl ⟨_,rfl⟩) (fun _ h=>by cases h;rfl)
      ·exact V.Step.conv (v:=.int .i64 (N:Int)) (.inl rfl) rfl rfl hcv (fun _ h=>by cases h;rfl)
      ·exact V.Step.head (.inl rfl) rfl rfl rfl hNc (fun _ h=>by cases h;rfl)
      ·exact V.Step.move (.inl rfl) (.inl rfl) (.inl ⟨_,rfl⟩) (fun _ h=>by cases h;rfl)
      ·exact V.Step.move (.inl rfl) (.inl rfl) (.inl ⟨_,rfl⟩) (fun _ h=>by cases h;rfl)
      ·exact V.Step.conv (v:=.int .i64 (N:Int)) (.inl rfl) rfl rfl hcv (fun _ h=>by cases h;rfl)
      ·exact V.Step.rest (.inl rfl) rfl rfl rfl HS0.out (by have:=HNm.out;omega) (fun _ h=>by cases h;rfl)
      ·exact V.Step.move (.inl rfl) (.inr rfl) (.inl ⟨_,rfl⟩) (fun _ h=>by cases h;rfl)
      ·exact V.Step.move (.inl rfl) (.inr rfl) (.inl ⟨_,rfl⟩) (fun _ h=>by cases h;rfl)
     case hd =>
      intro vs w4 hb4 hk
      have h10:vs 10=.slice a0 N c0:=hk 8 _ 10 rfl rfl
      obtain⟨a5,c5,h11,hs5⟩:=hk 9 _ 11 rfl rfl
      have HB4:=hide (hb3.trans (hb4.mono hb3.size))
      have HX4:=hide ((HS0.out.below hb4).head N c0 (by have:=HNm.out;omega) (by have:=HNm.out;have:=HS0.out.2.1;omega) (Nat.le_refl _))
      have HS5:=hide hs5
      clear hk hb4 hb3 hs5
      simp only[V.puts,List.foldl_cons,List.foldl_nil,h10,h11]
      clear h10 h11
      obtain⟨m5,hm5⟩:∃ m5,m - N=m5:=⟨_,rfl⟩
      rw[hm5] at HS5 ⊢
      have HM5:=hide (show 4≤m5 by have:=HNm.out;omega)
      obtain⟨l5,hl5⟩:∃ l5,lr.drop N=l5:=⟨_,rfl⟩
      rw[hl5] at HS5
      have HL5:=hide hl5
      have HLN:=hide (show l5.length=m5 by rw[← HS5.out.1,ints_length])
      obtain⟨cs,hcs⟩:∃ cs,B8 (l5.take 4)=cs:=⟨_,rfl⟩
      have HCS:=hide hcs
      have HCL:Hid (cs.length=4):=hide (by rw[← hcs,B8_length,List.length_take,HLN.out];have:=HM5.out;omega)
      have HSr:=hide (((HS5.out.head 4 c5 HM5.out (by have:=HS5.out.2.1;have:=HM5.out;omega) (Nat.le_refl _))))
      have HMm:=hide hm5
      clear hm5 hl5 hcs
      go_wp2_with (guard_target =~ wpList _ _ _ ((⟨some 50,_,_,_,_,_⟩:Oper) :: _) _ _;refine wpList_copy_splice rfl (.tmp 48) (.tmp 49) 22 22 rfl 5 Tryz.underlying22 Tryz.sizeU8 _ _ _ _ _ _ rfl rfl w4.heap.size 0 Z4 81 (heap_alloc_new _ _) cs ?hn ?hpos ?hfit ?h1 w4.heap.size w4 ((Below.refl _ _).alloc (Nat.le_refl _) _) (Nat.le_refl _) ?_)
      case hn=>rw[HCL.out];show _=min _ _;have:=HM5.out;omega
      case hpos =>
       intro h
       rw[← HCS.out] at h ⊢
       have hs6:=HSr.out.below ((Below.refl w4.heap.size w4).alloc (Nat.le_refl _) (.cells Z4.toArray 81))
       rw[← ints_take] at hs6
       have:=B8_src (p:=⟨a5,4,c5,l5.take 4⟩) hs6 h
       first|exact this|exact⟨rfl,this⟩
      case hfit=>rw[HCL.out,HZ4.out];omega
      case h1=>rw[← HCS.out];exact B8_one _
      intro w5 HG5 hB5
      rw[HCL.out]
      have HG6:Hid (w5.heap[w4.heap.size]?=some (.cells (B8 (l5.take 4)).toArray 81 (0,0))):=hide (by
       have:=HG5.out
       rw[splice_whole _ _ (by rw[HCL.out,HZ4.out]),← HCS.out] at this
       exact this)
      have HS6:=hide (HS5.out.below hB5)
      have HB5:=hide (HB4.out.trans (hB5.mono HB4.out.size))
      have HX5:=hide (HX4.out.below hB5)
      obtain⟨B,hBe⟩:∃ B,w4.heap.size=B:=⟨_,rfl⟩
      rw[hBe] at HG6 ⊢
      clear hB5 HG5 hBe
      go_wp2_with (guard_target =~ wpList _ _ _ ((⟨some 51,_,_,_,_,_⟩:Oper) :: _) _ _;refine wpList_rest rfl (.tmp 47) (.tmp 50) rfl a5 m5 c5 rfl 4 rfl l5 HS6.out (by decide) HM5.out ?_)
      intro a6 c6 hs6
      have HS7:=hide hs6
      clear hs6
      obtain⟨s4,hs4⟩:∃ s4,l5.take 4=s4:=⟨_,rfl⟩
      rw[hs4] at HG6
      have HS4:Hid (s4.length=4):=hide (by rw[← hs4,List.length_take,HLN.out];have:=HM5.out;omega)
      obtain⟨x,hx⟩:∃ x,lr.take N=x:=⟨_,rfl⟩
      rw[← ints_take,hx] at HX5
      have HX2:Hid (∀ y∈x,y<256):=hide (by
       intro y hy
       rw[← hx,HLr.out] at hy
       exact H2.out y (List.mem_of_mem_drop (List.mem_of_mem_take hy)))
      -- what the document's Open says
      have HoX:Hid (K.oX l=x):=hide (by unfold K.oX;rw[HKK.out,HNN.out,← HLr.out,hx])
      have HoS:Hid (K.oS l=s4):=hide (by unfold K.oS;rw[HKK.out,HNN.out,← HLr.out,HL5.out,hs4])
      have HoR:Hid (K.oR l=l5.drop 4):=hide (by unfold K.oR;rw[HKK.out,HNN.out,← HLr.out,HL5.out])
      have HOs:=hide (K.oE_sum (most:=most) HGz.out hneg (by rw[HNN.out,← HXX.out];exact hbig) (by rw[HLL.out,HKK.out,HNN.out,← HMe.out];exact HNm.out))
      rw[HoS.out,HoX.out] at HOs
      have hNx:x.length=N:=by rw[← HX5.out.1,ints_length]
      have HNx:=hide hNx
      have hN47:N≤140737488355328:=by have:=HNm.out;omega
      clear hs4 hx hNx
      by_cases hb:s4=K.le4 (K.crc x)
      ·go_wp2_with fail
       refine V.wp_region2 (w0:=w5) [52,53,54,55,56,57] [12,10] (openTbl12 B s4 a0 N c0 x false) rfl (by kernel_rfl) (by kernel_rfl) (Below.refl _ _) ?hb ?hs ?hd
       case hb =>
        intro d hd
        simp only[List.mem_cons,List.not_mem_nil,or_false] at hd
        rcases hd with rfl|rfl<;>rfl
       case hs =>
        refine⟨?_,?_,?_,?_,?_,?_,trivial⟩
        ·exact V.Step.load4 (.inl rfl) rfl rfl HG6.out (by simp[B8_length,HS4.out]) (fun _ h=>by cases h;rfl)
        ·refine V.Step.call0 (.inl rfl) rfl Tryz.func43 (by decide +kernel) rfl (fun w1 hw1=>?_)
         refine (table_any w1).mono ?_
         rintro e w9 ⟨C,rfl,hC,hb9⟩
         exact⟨_,rfl,hb9,fun d h=>by cases h;exact⟨C,rfl,hC⟩⟩
        ·exact V.Step.move (.inl rfl) (.inl rfl) (.inl ⟨_,rfl⟩) (fun _ h=>by cases h;rfl)
        ·refine V.Step.callR2 (.inl rfl) rfl Tryz.func42 (by decide +kernel) rfl (fun w1 v v2 hw1 hv hv2=>?_)
         obtain⟨C,rfl,hC⟩:=hv
         obtain rfl:v2=.slice a0 N c0:=hv2
         refine (sum_crc C a0 N c0 x w1 hC (HX5.out.below hw1) hN47 HX2.out).mono ?_
         rintro e w9 ⟨rfl,hb9⟩
         exact⟨_,rfl,hb9,fun d h=>by cases h;rfl⟩
        ·refine V.Step.callR (.inl rfl) rfl Tryz.func41 (by decide +kernel) rfl (fun w1 v hw1 hv=>?_)
         obtain rfl:v=.int .u32 ((K.crc x:Nat):Int):=hv
         refine (laid_any (K.crc x) w1 (K.crc_lt x)).mono ?_
         rintro e w9 ⟨rfl,hb9⟩
         exact⟨_,rfl,hb9,fun d h=>by cases h;rfl⟩
        ·exact V.Step.bin (v:=.bool false) (.inl rfl) rfl (.inl ⟨_,rfl⟩) (.inl ⟨_,rfl⟩) rfl rfl (fun w=>⟨four_guard _ _ _ _ w,by rw[four_neq s4 (K.le4 (K.crc x)) HS4.out (K.le4_length _) w];simp[hb]⟩) (fun _ h=>by cases h;rfl)
       case hd =>
        intro vs2 w8 hb8 hk
        have h57:vs2 57=.bool false:=hk 5 _ 57 rfl rfl
        have HO:Hid (K.oE most l=0):=hide (by rw[HOs.out,if_pos hb])
        have HB8:=hide (HB5.out.trans (hb8.mono HB5.out.size))
        have HX8:=hide (HX5.out.below hb8)
        have HS8:=hide (HS7.out.below hb8)
        simp only[V.puts,List.foldl_cons,List.foldl_nil,h57,Act.put,List.setIfInBounds_toArray,List.set_cons_zero,List.set_cons_succ]
        clear hk hb8 h57
        obtain⟨m6,hm6⟩:∃ m6,m5 - 4=m6:=⟨_,rfl⟩
        obtain⟨l6,hl6⟩:∃ l6,l5.drop 4=l6:=⟨_,rfl⟩
        rw[hm6,hl6] at HS8
        have HL6:=hide hl6
        have HM6:=hide (show l6.length=m6 by rw[← HS8.out.1,ints_length])
        have hm6b:m6≤140737488355328:=by have:=HMm.out;omega
        rw[hm6]
        clear hm6 hl6
        go_wp2_with fail
        have p1:=Parts.lit1 (p:=⟨a0,N,c0,x⟩) (heap_alloc_new w8 (.cells #[.slice a0 N c0] 22)) (HX8.out.below ((Below.refl _ _).alloc (Nat.le_refl _) _))
        have t1:=tog_any w8.heap.size [⟨a0,N,c0,x⟩] 1 _ p1 (by simp) (by simp[cat,HNx.out];exact hN47)
        rw[show cat [⟨a0,N,c0,x⟩]=x by simp[cat]] at t1
        refine t1.mono ?_
        rintro e w9 ⟨rfl,hg9,hb9⟩
        have HB9:=hide (HB8.out.trans ((((Below.refl w8.heap.size w8).alloc (Nat.le_refl _) (.cells #[.slice a0 N c0] 22)).trans (hb9.mono (by simp))).mono HB8.out.size))
        have HS9:=hide (HS8.out.below (((Below.refl w8.heap.size w8).alloc (Nat.le_refl _) (.cells #[.slice a0 N c0] 22)).trans (hb9.mono (by simp))))
        have HR9:=hide (Sl.of_row hg9 (by rw[HNx.out];unfold maxLen;omega))
        clear hb9 hg9 p1 t1
        go_wp2_with fail
        have p2:=Parts.lit1 (p:=⟨a6,m6,c6,l6⟩) (heap_alloc_new w9 (.cells #[.slice a6 m6 c6] 22)) (HS9.out.below ((Below.refl _ _).alloc (Nat.le_refl _) _))
        have t2:=tog_any w9.heap.size [⟨a6,m6,c6,l6⟩] 1 _ p2 (by simp) (by simp[cat,HM6.out];exact hm6b)
        rw[show cat [⟨a6,m6,c6,l6⟩]=l6 by simp[cat]] at t2
        refine t2.mono ?_
        rintro e w10 ⟨rfl,hg10,hb10⟩
        have HBa:=hide (((Below.refl w9.heap.size w9).alloc (Nat.le_refl _) (.cells #[.slice a6 m6 c6] 22)).trans (hb10.mono (by simp)))
        have HR10:=hide (Sl.of_row hg10 (by rw[HM6.out];unfold maxLen;omega))
        clear hb10 hg10 p2 t2
        go_wp2
        have r9:=HR9.out
        have r10:=HR10.out
        simp only[World.size_alloc] at r9 r10
        refine bodyPost_ret (v:=.tuple #[.slice (some ⟨w8.heap.size+1,0,none⟩) x.length x.length,.slice (some ⟨w9.heap.size+1,0,none⟩) l6.length l6.length,.int .i64 0]) (by simp[results,Tryz.results18,go_sem]) rfl ⟨?_,HB9.out.trans (HBa.out.mono HB9.out.size)⟩
        unfold OpenAns
        rw[HO.out,(K.z_good HO.out).1,(K.z_good HO.out).2,HoX.out,HoR.out,HL6.out]
        exact⟨_,_,_,_,rfl,r9.below HBa.out,r10⟩
      ·go_wp2_with fail
       refine V.wp_region2 (w0:=w5) [52,53,54,55,56,57] [12,10] (openTbl12 B s4 a0 N c0 x true) rfl (by kernel_rfl) (by kernel_rfl) (Below.refl _ _) ?hb ?hs ?hd
       case hb =>
        intro d hd
        simp only[List.mem_cons,List.not_mem_nil,or_false] at hd
        rcases hd with rfl|rfl<;>rfl
       case hs =>
        refine⟨?_,?_,?_,?_,?_,?_,trivial⟩
        ·exact V.Step.load4 (.inl rfl) rfl rfl HG6.out (by simp[B8_length,HS4.out]) (fun _ h=>by cases h;rfl)
        ·refine V.Step.call0 (.inl rfl) rfl Tryz.func43 (by decide +kernel) rfl (fun w1 hw1=>?_)
         refine (table_any w1).mono ?_
         rintro e w9 ⟨C,rfl,hC,hb9⟩
         exact⟨_,rfl,hb9,fun d h=>by cases h;exact⟨C,rfl,hC⟩⟩
        ·exact V.Step.move (.inl rfl) (.inl rfl) (.inl ⟨_,rfl⟩) (fun _ h=>by cases h;rfl)
        ·refine V.Step.callR2 (.inl rfl) rfl Tryz.func42 (by decide +kernel) rfl (fun w1 v v2 hw1 hv hv2=>?_)
         obtain⟨C,rfl,hC⟩:=hv
         obtain rfl:v2=.slice a0 N c0:=hv2
         refine (sum_crc C a0 N c0 x w1 hC (HX5.out.below hw1) hN47 HX2.out).mono ?_
         rintro e w9 ⟨rfl,hb9⟩
         exact⟨_,rfl,hb9,fun d h=>by cases h;rfl⟩
        ·refine V.Step.callR (.inl rfl) rfl Tryz.func41 (by decide +kernel) rfl (fun w1 v hw1 hv=>?_)
         obtain rfl:v=.int .u32 ((K.crc x:Nat):Int):=hv
         refine (laid_any (K.crc x) w1 (K.crc_lt x)).mono ?_
         rintro e w9 ⟨rfl,hb9⟩
         exact⟨_,rfl,hb9,fun d h=>by cases h;rfl⟩
        ·exact V.Step.bin (v:=.bool true) (.inl rfl) rfl (.inl ⟨_,rfl⟩) (.inl ⟨_,rfl⟩) rfl rfl (fun w=>⟨four_guard _ _ _ _ w,by rw[four_neq s4 (K.le4 (K.crc x)) HS4.out (K.le4_length _) w];simp[hb]⟩) (fun _ h=>by cases h;rfl)
       case hd =>
        intro vs2 w8 hb8 hk
        have h57:vs2 57=.bool true:=hk 5 _ 57 rfl rfl
        have HO:Hid (K.oE most l=5):=hide (by rw[HOs.out,if_neg hb])
        simp only[V.puts,List.foldl_cons,List.foldl_nil,h57,Act.put,List.setIfInBounds_toArray,List.set_cons_zero,List.set_cons_succ]
        clear hk
        go_wp2_with fail
        exact bodyPost_ret (v:=.tuple #[.slice none 0 0,.slice none 0 0,.int .i64 5]) (by simp[results,Tryz.results18,go_sem]) rfl ⟨OpenAns.bad (by rw[HO.out];decide) (by rw[HO.out];rfl),HB5.out.trans (hb8.mono HB5.out.size)⟩
 ·have HO:Hid (K.oE most l=G):=hide (by rw[K.oE_bad (by rw[HGG.out];exact hg),HGG.out])
  have hZ0:(Z==0)=false:=by simp;omega
  have hZ1:(Z != 0)=true:=by simp;omega
  clear hX hY hZ hN hk hG hgN
  go_wp2
  go_ret3
  exact⟨OpenAns.bad (by rw[HO.out];exact hg) (by rw[HO.out];exact HZZ.out),hb3⟩
end Go.Proofs.YtnkpgmibhpmdhaaGreat
namespace Go.Proofs.YtnkpgmibhpmdhaaGreat
set_option maxRecDepth 10000
set_option linter.unusedVariables false
open Go.RowKit
def SegOfAns (b:List Nat) (w:World) (e:Ending) (w':World):Prop :=
 Below w.heap.size w w'∧((Z.ofE b=0∧∃ v a cp,e=.returned (.tuple #[v,.slice a (Z.ofR b).length cp,.int .i64 0])∧SegAt w' v (Z.rS (K.oX b))∧Sl w' .u8 a (Z.ofR b).length cp (ints (Z.ofR b))) ∨
  (Z.ofE b≠0∧e=.returned (.tuple #[.agg segZ,.slice none 0 0,.int .i64 (Z.ofE b)])))
theorem oX_lt {b:List Nat} (h:∀ x∈b,x<256):∀ x∈K.oX b,x<256:=by
 unfold K.oX
 exact fun x hx=>h x (List.mem_of_mem_drop (List.mem_of_mem_take hx))
theorem oX_len (b:List Nat):(K.oX b).length≤b.length:=by
 unfold K.oX
 simp only[List.length_take,List.length_drop]
 omega
set_option maxHeartbeats 2000000 in
theorem sof_any (ao:Option Addr) (len cap:Nat) (b:List Nat) (w:World) (h:Sl w .u8 ao len cap (ints b)) (h256:∀ x∈b,x<256) (hm:len≤140737488355328) :
  Calls Tryz.prog 8 #[.slice ao len cap] w (SegOfAns b w):=by
 obtain⟨w0,hw0⟩:∃ w0,w.alloc (.cells segZ 30)=w0:=⟨_,rfl⟩
 have hb0:Below w.heap.size w w0:=by rw[← hw0];exact below_one w _
 have HB0:=hide hb0
 have HR0:Hid (Blk w0 w.heap.size segZ 30):=by show Blk _ _ _ _;rw[← hw0];exact Blk.new w _ _
 unfold segZ at hw0
 have HW0:=hide hw0
 have HS:=hide (h.below hb0)
 have H256:=hide h256
 have hbl:b.length=len:=by rw[← h.1,ints_length]
 have HBL:=hide hbl
 clear hw0 hb0 h h256 hbl
 go_enter Tryz.func8,Tryz.ntmps8
 go_wp2_with fail
 rw[HW0.out]
 refine (open_any ao len cap b 1048576 w0 HS.out hm H256.out (by decide) (by decide)).mono ?_
 rintro e w2 ⟨⟨a1,c1,a2,c2,rfl,hs1,hs2⟩,hb2⟩
 have HB2:=hide (bthen HB0.out hb2)
 have HR2:=hide (HR0.out.below hb2)
 obtain⟨E,hE⟩:∃ E,K.oE 1048576 b=E:=⟨_,rfl⟩
 rw[hE]
 by_cases hE0:E=0
 ·have hg:=K.z_good (hE.trans hE0)
  rw[hg.1] at hs1 ⊢
  rw[hg.2] at hs2 ⊢
  obtain⟨n1,hn1⟩:∃ n,(K.oX b).length=n:=⟨_,rfl⟩
  obtain⟨n2,hn2⟩:∃ n,(K.oR b).length=n:=⟨_,rfl⟩
  have hn1m:n1≤140737488355328:=by have:=oX_len b;have:=HBL.out;omega
  rw[hn1] at hs1 ⊢
  rw[hn2] at hs2 ⊢
  have HN2:=hide hn2
  have HS1:=hide hs1
  have HS2:=hide hs2
  have HP:Hid (Z.ofE b=Z.rE (K.oX b)):=by show _=_;unfold Z.ofE;rw[hE,hE0,if_neg (by decide)]
  subst hE0
  clear hE hg hn1 hn2 hs1 hs2 hb2 HB0 HR0 HS
  go_wp2_with fail
  refine (toseg_any a1 n1 c1 (K.oX b) w2 HS1.out (oX_lt H256.out) hn1m).mono ?_
  rintro e w3 ⟨hb3,hans⟩
  have HB3:=hide (bthen HB2.out hb3)
  have HR3:=hide (HR2.out.below hb3)
  have HS3:=hide (HS2.out.below hb3)
  clear HS1 HW0
  rcases hans with ⟨h0,v,rfl,hv⟩|⟨hne,rfl⟩
  ·obtain⟨S,hS⟩:∃ S,Z.rS (K.oX b)=S:=⟨_,rfl⟩
   rw[hS] at hv
   have HSS:=hide hS
   have HV:=hide hv
   have HZ0:=hide h0
   obtain⟨an,cn,ab,cb,hveq,hsb,hsl⟩:=hv
   obtain⟨C,hC⟩:∃ C,segC S.k S.c S.rows S.nulls S.mn S.mx (.slice an S.ns.length cn) (.slice ab S.bd.length cb)=C:=⟨_,rfl⟩
   have HCI:Hid ((Tryz.prog.info? 30).map (·.size)=some C.size):=by show _=_;rw[← hC,segC_size];exact Tryz.sizeSeg
   have HC8:Hid (segZ.size=C.size):=by show _=_;rw[← hC,segC_size];rfl
   have HC1:Hid (C.all (·.oneCell')=true):=by show _=_;rw[← hC];exact segC_one _ _ _ _ _ _ _ _ _ _ _ _
   rw[hC] at hveq
   subst hveq
   obtain⟨G,hG⟩:∃ G,w3.heap.size=G:=⟨_,rfl⟩
   obtain⟨w4,hw4⟩:∃ w4,w3.alloc (.cells segZ 30)=w4:=⟨_,rfl⟩
   have hb4:Below w3.heap.size w3 w4:=by rw[← hw4];exact below_one w3 _
   have hA4:Blk w4 G segZ 30:=by rw[← hw4,← hG];exact Blk.new w3 _ _
   have hG1:w.heap.size<G:=by have:=HR3.out.lt;omega
   have HA4:=hide hA4
   have HB4:=hide (bthen HB3.out hb4)
   have HR4:=hide (HR3.out.below hb4)
   have HV4:=hide (HV.out.below hb4)
   have HS4:=hide (HS3.out.below hb4)
   unfold segZ at hw4
   have HW4:=hide hw4
   have HG1:=hide hG1
   obtain⟨w5,hw5⟩:∃ w5,w4.setRow G C=w5:=⟨_,rfl⟩
   have HW5:=hide hw5
   have HA5:Hid (Blk w5 G C 30):=by show Blk _ _ _ _;rw[← hw5];exact hA4.row C
   have HR5:Hid (Blk w5 w.heap.size segZ 30):=by show Blk _ _ _ _;rw[← hw5];exact HR4.out.rowO (by omega) C
   have HB5:Hid (Below w.heap.size w w5):=by show Below _ _ _;rw[← hw5];exact below_setRow HB4.out (by omega) C
   have HV5:Hid (SegAt w5 (.agg C) S):=by show SegAt _ _ _;rw[← hw5];exact HV4.out.row hA4 C
   have HS5:Hid (Sl w5 .u8 a2 n2 c2 (ints (K.oR b))):=by show Sl _ _ _ _ _ _;rw[← hw5];exact HS4.out.row hA4 segZ_u8 C
   clear hS hC hb4 hA4 hw4 hw5 hb3 h0 hsb hsl hG1 HV HB3 HR3 HS3
   go_wp2_with (first
    | (guard_target =~ wpList _ _ _ ((⟨none,.store _ (.tmp 8) _,_,_,_,_⟩:Oper) :: _) _ _;rw[HW4.out];refine wpList_store_row rfl 30 (.tmp 8) (.tmp 22) rfl G C rfl rfl 30 segZ HA4.out HCI.out HC8.out HC1.out ?_;rw[HW5.out])
    | (guard_target =~ wpList _ _ _ ((⟨some 28,.load _ _,_,_,_,_⟩:Oper) :: _) _ _;refine wpList_load_row rfl 30 (.tmp 8) rfl G rfl 30 C (0,0) _ HA5.out Tryz.underlying30 rfl HCI.out ?_)
    | (guard_target =~ wpList _ _ _ ((⟨none,.store _ (.tmp 2) _,_,_,_,_⟩:Oper) :: _) _ _;refine wpList_store_row rfl 30 (.tmp 2) (.tmp 28) rfl w.heap.size C rfl rfl 30 segZ HR5.out HCI.out HC8.out HC1.out ?_)
    | fail)
   have HRF:=hide (Blk.row HR5.out C)
   have HBF:=hide (below_setRow HB5.out (Nat.le_refl _) C)
   have HE0:Hid (Z.ofE b=0):=by show _=_;rw[HP.out];exact HZ0.out
   have HRR:Hid (Z.ofR b=K.oR b):=by show _=_;unfold Z.ofR;rw[if_pos HE0.out]
   refine bodyPost_ret (results_seg2 Tryz.results8 _ _ w.heap.size rfl HRF.out HCI.out) rfl ⟨HBF.out,.inl ⟨HE0.out,_,a2,c2,?_,by rw[HSS.out];exact HV5.out.row HR5.out C,?_⟩⟩
   ·rw[HRR.out,HN2.out];rfl
   ·rw[HRR.out,HN2.out];exact HS5.out.row HR5.out segZ_u8 C
  ·obtain⟨X,hX⟩:∃ X,Z.rE (K.oX b)=X:=⟨_,rfl⟩
   rw[hX] at hne HP ⊢
   have HNE:=hide hne
   have heb:(X != 0)=true:=by simpa using hne
   have HB4:=hide (bthen HB3.out (below_one w3 (.cells segZ 30)))
   have HR4:=hide (HR3.out.alloc (.cells segZ 30))
   unfold segZ at HB4 HR4 ⊢
   clear hX hne hb3
   go_wp2_with (first
    | (guard_target =~ wpList _ _ _ ((⟨none,.store _ _ _,_,_,_,_⟩:Oper) :: _) _ _;refine wpList_store_row rfl 30 (.tmp 2) (.tmp 26) rfl w.heap.size segZ rfl rfl 30 segZ HR4.out Tryz.sizeSeg rfl segZ_one ?_)
    | fail)
   have HRF:=hide (Blk.row HR4.out segZ)
   have HBF:=hide (below_setRow HB4.out (Nat.le_refl _) segZ)
   exact bodyPost_ret (results_seg2 Tryz.results8 _ _ w.heap.size rfl HRF.out Tryz.sizeSeg) rfl ⟨HBF.out,.inr ⟨by rw[HP.out];exact HNE.out,by rw[HP.out];rfl⟩⟩
 ·have hz:=K.z_bad (most:=1048576) (b:=b) (by rw[hE];exact hE0)
  rw[hz.1] at hs1 ⊢
  rw[hz.2] at hs2 ⊢
  have HP:Hid (Z.ofE b=(E:Int)):=by show _=_;unfold Z.ofE;rw[hE,if_pos hE0]
  have HNE:Hid (((E:Nat):Int)≠0):=by show _≠_;omega
  have heb:(((E:Nat):Int) != 0)=true:=by simp;omega
  simp only[List.length_nil]
  clear hE hE0 hz hs1 hs2 hb2
  go_wp2_with (first
   | (guard_target =~ wpList _ _ _ ((⟨none,.store _ _ _,_,_,_,_⟩:Oper) :: _) _ _;refine wpList_store_row rfl 30 (.tmp 2) (.tmp 17) rfl w.heap.size segZ rfl rfl 30 segZ HR2.out Tryz.sizeSeg rfl segZ_one ?_)
   | fail)
  have HRF:=hide (Blk.row HR2.out segZ)
  have HBF:=hide (below_setRow HB2.out (Nat.le_refl _) segZ)
  exact bodyPost_ret (results_seg2 Tryz.results8 _ _ w.heap.size rfl HRF.out Tryz.sizeSeg) rfl ⟨HBF.out,.inr ⟨by rw[HP.out];exact HNE.out,by rw[HP.out];rfl⟩⟩
structure RowsAt (w:World) (g:Nat) (ls:List (List Nat)):Prop where
 lt:g<w.heap.size
 rows:∀ (j:Nat) (l:List Nat),ls[j]?=some l→∃ a c,w.cell? ⟨g,j,none⟩=some (.slice a l.length c)∧Sl w .u8 a l.length c (ints l)
def upToL (ls:List (List Nat)) (j:Nat):List Nat:=(ls.take j).flatten
theorem RowsAt.at {w:World} {g:Nat} {ls:List (List Nat)} (h:RowsAt w g ls) {j:Nat} (hj:j<ls.length):∃ a n c l,w.cell? ⟨g,j,none⟩=some (.slice a n c)∧Sl w .u8 a n c (ints l)∧upToL ls j++l=upToL ls (j+1):=by
 obtain⟨a,c,h1,h2⟩:=h.rows j ls[j] (List.getElem?_eq_getElem hj)
 refine⟨a,_,c,ls[j],h1,h2,?_⟩
 unfold upToL
 rw[List.take_succ_eq_append_getElem hj,List.flatten_append]
 simp
theorem upToL_le (ls:List (List Nat)) (j:Nat):(upToL ls j).length≤ls.flatten.length:=by
 have:ls.flatten=(ls.take j).flatten++(ls.drop j).flatten:=by rw[← List.flatten_append,List.take_append_drop]
 rw[this,List.length_append]
 unfold upToL
 omega
set_option maxHeartbeats 2000000 in
theorem concat_rows (g N:Nat) (ls:List (List Nat)) (hN:ls.length=N) (hNm:N≤1000) (w:World) (h:RowsAt w g ls) (hn:ls.flatten.length≤70368744177664) :
  Calls Tryz.prog 33 #[.slice (some ⟨g,0,none⟩) N N] w fun e w'=>∃ v,e=.returned v∧w'.ownsRow w.heap.size 5 1 v ls.flatten.length (B8 ls.flatten)∧Below w.heap.size w w':=by
 have HT:=hide h
 have HU:Hid (∀ j,(upToL ls j).length≤70368744177664):=fun j=>Nat.le_trans (upToL_le ls j) hn
 have HG:=h.lt
 have HNN:=hide hN
 have HFL:Hid (upToL ls N=ls.flatten):=by show _=_;unfold upToL;rw[← hN,List.take_length]
 clear h hn hN
 go_enter Tryz.func33,Tryz.ntmps33
 go_wp2_with fail
 go_loopw [3,11] (fun s i wr=>∃ j m:Nat,j≤N∧i=.int .i64 j∧s=.int .i64 m∧Hid (m=(upToL ls j).length)∧m≤70368744177664∧wr=w) (fun _ i _=>N - (intOf i).toNat)
 case atStart=>exact⟨0,0,by omega,rfl,rfl,hide rfl,by omega,rfl⟩
 case round =>
  obtain⟨j,m,hj,rfl,rfl,HM,hm,hww⟩:=hrel
  obtain rfl:w=wr:=hww.symm
  by_cases hjl:j<N
  ·obtain⟨a,n,c,l,d1,hs,hup⟩:=HT.out.at (by rw[HNN.out];exact hjl)
   have hnl:l.length=n:=by rw[← hs.1,ints_length]
   have hmn:m+n=(upToL ls (j+1)).length:=by rw[← hup,List.length_append,HM.out,hnl]
   have hmb:m+n≤70368744177664:=by rw[hmn];exact HU.out _
   have HMN:=hide hmn
   have e1:decide ((m:Int)+(n:Int)<0)=false:=by simp;omega
   clear hs hup hnl hmn
   go_wp2
   go_round
   ·exact⟨j+1,m+n,by omega,by go_num,by go_num,HMN,hmb,trivial⟩
   ·simp[intOf];omega
  ·obtain rfl:N=j:=by omega
   have HM3:m=(upToL ls N).length:=HM.out
   have HGR:=hide (grow_any m w hm)
   clear HM HM3
   go_wp2_with fail
   refine HGR.out.mono ?_
   rintro e w1 ⟨v1,rfl,ho1,hb1⟩
   have HB1:=hide hb1
   have HO1:=hide ho1
   clear hb1 ho1 HGR
   go_wp2_with fail
   go_loopw [6,27] (fun s i w2=>∃ j:Nat,j≤N∧i=.int .i64 j∧Hid (w2.ownsRow w.heap.size 5 1 s (upToL ls j).length (B8 (upToL ls j)))∧Hid (Below w.heap.size w w2)) (fun _ i _=>N - (intOf i).toNat)
   case atStart=>exact⟨0,by omega,rfl,HO1,HB1⟩
   case round =>
    obtain⟨j,hj,rfl,HO,HB⟩:=hrel
    by_cases hjl:j<N
    ·obtain⟨a,n,c,l,d1,hs,hup⟩:=HT.out.at (by rw[HNN.out];exact hjl)
     have d2:wr.cell? ⟨g,j,none⟩=some (.slice a n c):=by rw[HB.out.cell (p:=⟨g,j,none⟩) HG];exact d1
     have hnl:l.length=n:=by rw[← hs.1,ints_length]
     have hlim:(upToL ls j).length+n≤140737488355328:=by
      have:=HU.out (j+1)
      rw[← hup,List.length_append,hnl] at this
      omega
     have HS:=hide (hs.below HB.out)
     have hsz:=HB.out.size
     have HUP:=hide hup
     clear d1 hs hup hnl
     go_wp2_with (at_builtin;refine wpList_app rfl _ _ rfl w.heap.size _ (upToL ls j) rfl HO.out a n c l rfl HS.out hlim hsz (upToL ls (j+1)) HUP.out ?_)
     intro v3 w3 hown has
     have hb3:Below w.heap.size w w3:=HB.out.trans (has.below hsz (fun k hk=>(owns_lt HO.out hk).1))
     have HB3:=hide hb3
     have HO3:=hide hown
     clear hb3 hown has
     go_wp2
     go_roundw
     case rel=>exact⟨j+1,by omega,by go_num,HO3,HB3⟩
     case measure=>simp[intOf];omega
    ·obtain rfl:N=j:=by omega
     go_wp2
     go_ret
     have e:=HFL.out
     have ho:=HO.out
     rw[e] at ho
     exact⟨_,rfl,ho,HB.out⟩
def Z.nb (l:List Int):List Nat:=l.flatMap fun x=>E.leb x.toNat
theorem nb_snoc {l:List Int} {j:Nat} (h:j<l.length):Z.nb (l.take j)++E.leb (l.getD j 0).toNat=Z.nb (l.take (j+1)):=by
 unfold Z.nb
 rw[List.take_succ_eq_append_getElem h,List.flatMap_append]
 simp[List.getD,h]
theorem nb_len:∀ (l:List Int),(∀ x∈l,0≤x∧x<9223372036854775808)→(Z.nb l).length≤10*l.length
 | [],_=>by simp[Z.nb]
 | x :: l,h=>by
  have h1:=nb_len l fun y hy=>h y (by simp[hy])
  have h2:=E.leb_ten x.toNat (by have:=h x (by simp);omega)
  unfold Z.nb at *
  simp only[List.flatMap_cons,List.length_append,List.length_cons]
  omega
set_option maxHeartbeats 2000000 in
theorem numbers_any (ao:Option Addr) (n cap:Nat) (l:List Int) (w:World) (h:Sl w .i64 ao n cap l) (hp:∀ x∈l,0≤x∧x<9223372036854775808) (hn:n≤1000) :
  Calls Tryz.prog 31 #[.slice ao n cap] w fun e w'=>∃ v,e=.returned v∧w'.ownsRow w.heap.size 5 1 v (Z.nb l).length (B8 (Z.nb l))∧Below w.heap.size w w':=by
 have HS:=hide h
 have HL:=hide h.1
 have HP:=hide hp
 clear h hp
 go_enter Tryz.func31,Tryz.ntmps31
 go_wp2_with fail
 go_loopw [3,8] (fun v i wr=>∃ j:Nat,j≤n∧i=.int .i64 j∧Hid (wr.ownsRow w.heap.size 5 1 v (Z.nb (l.take j)).length (B8 (Z.nb (l.take j))))∧Hid (Below w.heap.size w wr)) (fun _ i _=>n - (intOf i).toNat)
 case atStart=>exact⟨0,Nat.zero_le _,rfl,hide (World.ownsRow_nil _ _ _ _),hide (Below.refl _ _)⟩
 case round =>
  obtain⟨j,hj,rfl,HO,HB⟩:=hrel
  by_cases hjl:j<n
  ·obtain⟨b,off,rfl,hlt,d0⟩:=HS.out.at hjl
   have d1:=(HB.out.cell (p:=⟨b,off+j,none⟩) hlt).trans d0
   obtain⟨x,hx⟩:∃ x,l.getD j 0=x:=⟨_,rfl⟩
   have hxm:0≤x∧x<9223372036854775808:=by
    rw[← hx]
    refine HP.out _ ?_
    have hl:j<l.length:=by rw[HL.out];exact hjl
    simp[List.getD,hl]
   have hnx:=nb_snoc (l:=l) (j:=j) (by rw[HL.out];exact hjl)
   rw[hx] at d1 hnx
   have HNX:=hide hnx
   have hx0:=hxm.1
   have hx1:=hxm.2
   have e1:IntKind.u64.wrap x=x:=by rw[u64_wrap];omega
   have hlen:=nb_len (l.take j) fun y hy=>HP.out y (List.mem_of_mem_take hy)
   have hl10:=E.leb_ten x.toNat (by omega)
   have hlm:(l.take j).length≤1000:=by rw[List.length_take];omega
   have HLN:Hid ((Z.nb (l.take j)).length≤10000):=by show _≤_;omega
   clear d0 hx hnx hxm hlen hlm
   go_wp2_with fail
   refine (put_any x wr hx0 (by omega)).mono ?_
   rintro e w2 ⟨v2,rfl,ho2,hb2⟩
   obtain⟨m,hm⟩:∃ m,(E.leb x.toNat).length=m:=⟨_,rfl⟩
   obtain⟨a2,c2,rfl,hs2⟩:=Sl.of_own ho2 hm
   rw[hm] at hl10
   have HS2:=hide hs2
   have HB2:=hide (bthen HB.out hb2)
   have HO2:=hide (owns_of_block HO.out fun g hg=>hb2.block g (owns_lt HO.out hg).2)
   have hsz:=HB2.out.size
   have hlim:(Z.nb (l.take j)).length+m≤140737488355328:=by have:=HLN.out;omega
   have HLIM:=hide hlim
   clear ho2 hb2 hs2 HO HB d1 hm hlim
   go_wp2_with (at_builtin;refine wpList_app rfl (.tmp 12) (.tmp 15) rfl w.heap.size _ (Z.nb (l.take j)) rfl HO2.out a2 m c2 (E.leb x.toNat) rfl HS2.out HLIM.out hsz (Z.nb (l.take (j+1))) HNX.out ?_)
   intro v3 w3 hown has
   have hb3:Below w.heap.size w w3:=HB2.out.trans (has.below hsz (fun k hk=>(owns_lt HO2.out hk).1))
   have HB3:=hide hb3
   have HO3:=hide hown
   clear hb3 hown has
   go_wp2
   go_roundw
   case rel=>exact⟨j+1,hjl,by go_num,HO3,HB3⟩
   case measure=>simp[intOf];omega
  ·obtain rfl:n=j:=by omega
   have ho:=HO.out
   rw[← HL.out,List.take_length] at ho
   have HO4:=hide ho
   clear ho HO
   go_wp2
   go_ret
   exact⟨_,rfl,HO4.out,HB.out⟩
end Go.Proofs.YtnkpgmibhpmdhaaGreat

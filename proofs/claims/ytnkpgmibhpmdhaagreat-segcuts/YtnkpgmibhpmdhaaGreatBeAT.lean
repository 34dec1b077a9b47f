/- Contracts and plain facts, one behind the other: SF SG SHa SH SI SJ -/
import Derived.BigQuiet
import Derived.WalkSmall
import Derived.Test.YtnkpgmibhpmdhaaGreatBeAS
namespace Go.Proofs.YtnkpgmibhpmdhaaGreat
set_option linter.unusedVariables false
open Go.RowKit
theorem take_snocR {rs:List Z.R} {j:Nat} {r:Z.R} (h:rs[j]?=some r):rs.take (j+1)=rs.take j++[r]:=by
 obtain⟨hj,hr⟩:=List.getElem?_eq_some_iff.1 h
 rw[List.take_succ_eq_append_getElem hj,hr]
def Z.spr (rs:List Z.R):List Z.V:=(Z.sp rs).take 4096
theorem spr_few {rs:List Z.R} (h:(Z.sp rs).length≤4096):Z.spr rs=Z.sp rs:=List.take_of_length_le h
theorem spr_length (rs:List Z.R):(Z.spr rs).length≤4096:=by unfold Z.spr;rw[List.length_take];omega
def Z.spK (rs:List Z.R) (n:Int):Nat:=(min n (4096 - ((Z.spr rs).length:Int))).toNat
theorem spr_snoc (rs:List Z.R) (n:Int) (x:Z.V):Z.spr (rs++[⟨n,x⟩])=Z.spr rs++List.replicate (Z.spK rs n) x:=by
 unfold Z.spr Z.spK Z.spr
 rw[sp_append,List.take_append]
 have e:Z.sp [(⟨n,x⟩:Z.R)]=List.replicate n.toNat x:=by simp[Z.sp]
 rw[e,List.take_replicate]
 congr 2
 rw[List.length_take]
 omega
set_option maxHeartbeats 1000000 in
theorem spread_some (b off len cap:Nat) (rs:List Z.R) (w:World) (hl:rs.length=len) (hm:len≤100000000) (hlt:b<w.heap.size)
  (hc:∀ j x,rs[j]?=some x→w.cell? ⟨b,off+j*4,none⟩=some (.int .i64 x.n)∧w.cell? ⟨b,off+j*4+1,none⟩=some (.int .i64 x.v.k)∧w.cell? ⟨b,off+j*4+2,none⟩=some (.int .i64 x.v.i)∧w.cell? ⟨b,off+j*4+3,none⟩=some (.string x.v.s)) :
  Calls Tryz.prog 153 #[.slice (some ⟨b,off,none⟩) len cap] w fun e w'=>∃ v,e=.returned v∧OwnV w' w.heap.size v (Z.spr rs)∧Below w.heap.size w w':=by
 have HC:=hide hc
 have HL:=hide hl
 clear hc hl
 go_enter Tryz.func153,Tryz.ntmps153
 go_wp2_with fail
 go_loopw [3,8] (fun v i wr=>∃ j:Nat,j≤len∧i=.int .i64 j∧Hid (OwnV wr w.heap.size v (Z.spr (rs.take j)))∧Hid (Below w.heap.size w wr)) (fun _ i _=>len - (intOf i).toNat)
 case atStart=>exact⟨0,Nat.zero_le _,rfl,hide (World.ownsRow_nil _ _ _ _),hide (Below.refl _ _)⟩
 case round =>
  obtain⟨j,hj,rfl,hrow,hbw⟩:=hrel
  by_cases hjl:j<len
  ·obtain⟨⟨n,⟨xk,xi,xs⟩⟩,hx⟩:∃ x,rs[j]?=some x:=⟨rs[j]'(by rw[HL.out];exact hjl),List.getElem?_eq_getElem _⟩
   obtain⟨c1,c2,c3,c4⟩:=HC.out j _ hx
   have d1:wr.cell? ⟨b,off+j*4,none⟩=some (.int .i64 n):=by rw[hbw.out.cell (p:=⟨b,off+j*4,none⟩) hlt];exact c1
   have d2:wr.cell? ⟨b,off+j*4+1,none⟩=some (.int .i64 xk):=by rw[hbw.out.cell (p:=⟨b,off+j*4+1,none⟩) hlt];exact c2
   have d3:wr.cell? ⟨b,off+j*4+2,none⟩=some (.int .i64 xi):=by rw[hbw.out.cell (p:=⟨b,off+j*4+2,none⟩) hlt];exact c3
   have d4:wr.cell? ⟨b,off+j*4+3,none⟩=some (.string xs):=by rw[hbw.out.cell (p:=⟨b,off+j*4+3,none⟩) hlt];exact c4
   have HX:=hide hx
   have b1:=below_one wr (.cells #[.int .i64 n,.int .i64 xk,.int .i64 xi,.string xs] 182)
   have hrow1:=hrow.out.below b1
   obtain⟨ra,rc,hv,hsl,hob⟩:=SlV.of_own hrow1
   have hl4:=spr_length (rs.take j)
   have hA:=AtR.new wr 182 n xk xi xs
   obtain⟨a0,a1,a2,a3⟩:=hA.cells
   obtain⟨M,hM⟩:∃ M,min n (4096 - ((Z.spr (rs.take j)).length:Int))=M:=⟨_,rfl⟩
   have HK:Hid (Z.spK (rs.take j) n=M.toNat):=by show _=_;unfold Z.spK;rw[hM]
   obtain⟨m,hmm⟩:∃ m,(Z.spr (rs.take j)).length=m:=⟨_,rfl⟩
   rw[hmm] at hv hl4 hM
   have hM1:M≤4096:=by omega
   have hMm:(m:Int)+M≤4096:=by omega
   have hmin:∀ (ts:Array TypeId) (t:TypeId) (w:World),(Builtin.min_ ts t #[.int .i64 n,.int .i64 (4096 - (m:Int))]).run Tryz.prog w=.ok (.int .i64 M) w:=fun ts t w=>by
    rw[run_min_int2]
    congr 2
    rw[← hM]
    split<;>omega
   have HA:=hide hA
   have HR1:=hide hrow1
   have HB1:=hide (bthen hbw.out b1)
   have HMM:=hide hmm
   have HV:=hide hv
   rw[hv]
   rw[hv] at HR1
   clear c1 c2 c3 c4 hx b1 hrow1 hsl hob hA hmm hM hv
   go_wp2_with fail
   obtain⟨R,hR⟩:∃ R,wr.heap.size=R:=⟨_,rfl⟩
   rw[hR] at HA ⊢
   clear hR hmin a0 a1 a2 a3 d1 d2 d3 d4
   go_loopw [3,18] (fun v i wq=>∃ c:Nat,c≤M.toNat∧i=.int .i64 c∧Hid (OwnV wq w.heap.size v (Z.spr (rs.take j)++List.replicate c ⟨xk,xi,xs⟩))∧Hid (AtR wq R 182 n xk xi xs)∧Hid (Below w.heap.size w wq)) (fun _ i _=>M.toNat - (intOf i).toNat)
   case atStart=>exact⟨0,Nat.zero_le _,rfl,by rw[List.replicate_zero,List.append_nil];exact HR1,HA,HB1⟩
   case round =>
    obtain⟨c,hcM,rfl,hrow,hA,hbw⟩:=hrel
    by_cases hcl:(c:Int)<M
    ·have hd:decide ((c:Int)<M)=true:=by simpa using hcl
     have b1:=below_one wr (.cells #[.int .i64 xk,.int .i64 xi,.string xs] 25)
     obtain⟨a0,a1,a2,a3⟩:=hA.out.cells
     have hsz:=hbw.out.size
     have HB1:=hide (bthen hbw.out b1)
     have HR2:=hide (hrow.out.below b1)
     have HA2:=hide (hA.out.below b1)
     have HNL:Hid ((Z.spr (rs.take j)++List.replicate c (⟨xk,xi,xs⟩:Z.V)).length=m+c):=by show _=_;rw[List.length_append,HMM.out,List.length_replicate]
     clear b1
     go_wp2_with (at_builtin;refine wpList_appV rfl _ _ rfl w.heap.size u3 (Z.spr (rs.take j)++List.replicate c ⟨xk,xi,xs⟩) rfl HR2.out (some ⟨wr.heap.size,0,none⟩) 1 1 [⟨xk,xi,xs⟩] rfl (slV_one wr xk xi xs) (by rw[HNL.out];omega) (by simp;omega) ?_)
     intro v4 w4 ho4 has _
     have hb4:Below w.heap.size w w4:=HB1.out.trans (has.below (by simp;omega) (fun k hk=>(owns_lt HR2.out hk).1))
     have hA4:AtR w4 R 182 n xk xi xs:=(has.1.block R (lt_of_block HA2.out) (owns_ne_block HR2.out HA2.out (by decide))).trans HA2.out
     rw[show List.replicate c (⟨xk,xi,xs⟩:Z.V)++[⟨xk,xi,xs⟩]=List.replicate (c+1) ⟨xk,xi,xs⟩ from List.replicate_succ'.symm] at ho4
     have HO4:=hide ho4
     have HB4:=hide hb4
     have HA4:=hide hA4
     clear ho4 hb4 has hA4
     go_wp2
     go_roundw
     case rel=>exact⟨c+1,by omega,by go_num,HO4,HA4,HB4⟩
     case measure=>simp[intOf];omega
    ·have hd:decide ((c:Int)<M)=false:=by simpa using hcl
     have HRN:Hid (OwnV wr w.heap.size u3 (Z.spr (rs.take (j+1)))):=by
      have h1:=hrow.out
      rw[take_snocR HX.out,spr_snoc,HK.out,show M.toNat=c by omega]
      exact h1
     clear hrow hA
     go_wp2
     go_roundw
     case rel=>exact⟨j+1,hjl,by go_num,HRN,hbw⟩
     case measure=>simp[intOf];omega
  ·obtain rfl:j=len:=by omega
   have hll:rs.take j=rs:=by rw[← HL.out,List.take_length]
   have HR:Hid (OwnV wr w.heap.size u3 (Z.spr rs)):=by
    have:=hrow.out
    rwa [hll] at this
   clear hll hrow
   go_wp2
   go_ret
   exact⟨_,rfl,HR.out,hbw.out⟩
theorem spread_none (ao:Option Addr) (cap:Nat) (w:World):Calls Tryz.prog 153 #[.slice ao 0 cap] w fun e w'=>∃ v,e=.returned v∧OwnV w' w.heap.size v (Z.spr [])∧Below w.heap.size w w':=by
 go_enter Tryz.func153,Tryz.ntmps153
 go_wp2_with fail
 go_rounds 1
 go_ret
 exact⟨_,rfl,World.ownsRow_nil _ _ _ _,Below.refl _ _⟩
theorem spread_any (ao:Option Addr) (len cap:Nat) (rs:List Z.R) (w:World) (h:SlR w ao len cap rs) (hm:len≤100000000) :
  Calls Tryz.prog 153 #[.slice ao len cap] w fun e w'=>∃ v,e=.returned v∧OwnV w' w.heap.size v (Z.spr rs)∧Below w.heap.size w w':=by
 rcases h.2.2.2.2 with h5|⟨b,off,rfl,hlt,h5⟩
 ·subst h5
  obtain rfl:rs=[]:=List.eq_nil_of_length_eq_zero h.1
  exact spread_none ao cap w
 ·exact spread_some b off len cap rs w h.1 hm hlt h5
def RunBytes (l:List Z.V) (kind:Int) (w:World) (e:Ending) (w':World):Prop:=∃ a c,e=.returned (.tuple #[.slice a (Z.rcb l kind).length c,.int .i64 (Z.chk l kind)])∧Sl w' .u8 a (Z.rcb l kind).length c (ints (Z.rcb l kind))∧Below w.heap.size w w'
theorem RunBytes.no {l:List Z.V} {kind E:Int} {w w':World} (h:Z.chk l kind=E) (h0:E≠0) (hb:Below w.heap.size w w'):RunBytes l kind w (.returned (.tuple #[.slice none 0 0,.int .i64 E])) w':=by
 unfold RunBytes;rw[rcb_bad (by rw[h];exact h0),h]
 exact⟨none,0,rfl,Sl.nil _ _,hb⟩
theorem RunBytes.yes {l:List Z.V} {kind:Int} {w w':World} {B:Nat} {v:Value} (h:Z.chk l kind=0) (ho:w'.ownsRow B 5 1 v (Z.rb (Z.runs l)).length (B8 (Z.rb (Z.runs l)))) (hb:Below w.heap.size w w'):RunBytes l kind w (.returned (.tuple #[v,.int .i64 0])) w':=by
 obtain⟨a,c,rfl,hs,_⟩:=Sl.of_bytes ho
 unfold RunBytes;rw[rcb_ok h,h]
 exact⟨a,c,rfl,hs,hb⟩
def Z.RFit (r:Z.R):Prop:=1≤r.n∧r.n≤4096∧Z.may r.v=true∧Z.I64 r.v.i
theorem rfit_runs {l:List Z.V} {kind:Int} (hI:∀ x∈l,Z.I64 x.i) (h:Z.chk l kind=0):∀ r∈Z.runs l,Z.RFit r:=fun r hr=>by
 obtain⟨_,h2,_,h4⟩:=chk_zero h
 have:=run_n_le hr
 exact⟨neat_pos (neat_runs l) r hr,by omega,h4 _ (run_mem hr),hI _ (run_mem hr)⟩
theorem rb_le:∀ rs:List Z.R,(∀ r∈rs,Z.RFit r)→(Z.rb rs).length≤1044*rs.length
 | [],_=>by simp[Z.rb]
 | r :: rs,h=>by
  obtain⟨h1,h2,h3,h4⟩:=h r (by simp)
  have a1:=lb_le h4 h3
  have a2:=E.leb_ten r.n.toNat (by omega)
  have a3:=rb_le rs fun y hy=>h y (by simp[hy])
  rw[rb_cons,List.length_append,List.length_append,List.length_cons]
  omega
theorem rb_take_le {rs:List Z.R} (h:∀ r∈rs,Z.RFit r) (j:Nat):(Z.rb (rs.take j)).length≤1044*rs.length:=by
 have:=rb_le (rs.take j) fun y hy=>h y (List.mem_of_mem_take hy)
 rw[List.length_take] at this
 omega
theorem rb_take {rs:List Z.R} {j:Nat} {r:Z.R} (h:rs[j]?=some r):(Z.rb (rs.take j)++E.leb r.n.toNat)++Z.lb r.v=Z.rb (rs.take (j+1)):=by rw[take_snocR h,rb_snoc]
set_option maxHeartbeats 2000000 in
theorem rlbytes_some (ao:Option Addr) (len cap:Nat) (l:List Z.V) (kind:Int) (w:World) (h:SlV w ao len cap l) (hI:∀ x∈l,Z.I64 x.i) (h0:Z.chk l kind=0) :
  Calls Tryz.prog 105 #[.slice ao len cap,.int .i64 kind] w (RunBytes l kind w):=by
 have HK:=hide h0
 have hm:len≤4096:=by rw[← h.1];exact (chk_zero h0).2.1
 have HF:=hide (rfit_runs hI h0)
 have HCK:=hide (check_any _ _ _ l kind w h hI)
 have HS:=hide h
 have HRL:Hid ((Z.runs l).length≤4096):=by have:=runs_few l;have:=h.1;show _≤_;omega
 clear hI h0 h
 go_enter Tryz.func105,Tryz.ntmps105
 go_wp2_with fail
 refine HCK.out.mono ?_
 rintro e w1 ⟨rfl,hb1⟩
 rw[HK.out]
 replace HS:=hide (HS.out.below hb1)
 replace hb1:=hide hb1
 clear HCK
 go_wp2_with fail
 refine (runs_any ao len cap l w1 HS.out (by omega)).mono ?_
 rintro e w2 ⟨v,rfl,ho,hb2⟩
 obtain⟨ra,rc,rfl,hsl,_⟩:=SlR.of_own ho
 obtain⟨m,hmm⟩:∃ m,(Z.runs l).length=m:=⟨_,rfl⟩
 obtain⟨rs,hrs⟩:∃ rs,Z.runs l=rs:=⟨_,rfl⟩
 rw[hrs] at HF HRL hsl hmm
 rw[hrs,hmm]
 rw[hmm] at hsl HRL
 have hm4:m≤4096:=HRL.out
 have HB2:=hide (bthen hb1.out hb2)
 have HSL:=hide hsl
 have HMM:=hide hmm
 have HRS:=hide hrs
 clear ho hb2 hsl hmm hrs HS HRL
 go_wp2_with fail
 go_loopw [7,21] (fun v i wr=>∃ j:Nat,j≤m∧i=.int .i64 j∧Hid (wr.ownsRow w2.heap.size 5 1 v (Z.rb (rs.take j)).length (B8 (Z.rb (rs.take j))))∧Hid (Below w2.heap.size w2 wr)) (fun _ i _=>m - (intOf i).toNat)
 case atStart=>exact⟨0,Nat.zero_le _,rfl,hide (World.ownsRow_nil _ _ _ _),hide (Below.refl _ _)⟩
 case round =>
  obtain⟨j,hj,rfl,hrow,hbw⟩:=hrel
  by_cases hjl:j<m
  ·obtain⟨⟨n,⟨xk,xi,xs⟩⟩,hx⟩:∃ x,rs[j]?=some x:=⟨rs[j]'(by rw[HMM.out];exact hjl),List.getElem?_eq_getElem _⟩
   rcases (HSL.out.below hbw.out).2.2.2.2 with h5|⟨b,off,rfl,hlt,h5⟩
   ·omega
   ·obtain⟨d1,d2,d3,d4⟩:=h5 j _ hx
    obtain⟨f1,f2,f3,f4⟩:=HF.out _ (List.mem_of_getElem? hx)
    replace f1:1≤n:=f1
    replace f2:n≤4096:=f2
    have HX:=hide hx
    have HXM:=hide f3
    have HXI:=hide f4
    have HLE:=hide (rb_take_le HF.out j)
    have b1:=below_one wr (.cells #[.int .i64 n,.int .i64 xk,.int .i64 xi,.string xs] 182)
    have hA:=AtR.new wr 182 n xk xi xs
    obtain⟨a0,a1,a2,a3⟩:=hA.cells
    have HA:=hide hA
    have HB3:=hide (bthen hbw.out b1)
    have HR3:=hide (owns_below hrow.out b1)
    clear hx f3 f4 b1 hA h5
    go_wp2_with fail
    refine (put_any n _ (by omega) (by omega)).mono ?_
    rintro e w4 ⟨pv,rfl,hpo,hb4⟩
    have hten:=E.leb_ten n.toNat (by omega)
    obtain⟨k,hk⟩:∃ k,(E.leb n.toNat).length=k:=⟨_,rfl⟩
    obtain⟨pa,pc,rfl,hps⟩:=Sl.of_own hpo hk
    rw[hk] at hten
    have HPS:=hide hps
    have HB4:=hide (bthen HB3.out hb4)
    have HR4:=hide (owns_below HR3.out hb4)
    have HA4:=hide (HA.out.below hb4)
    have hsz4:=(bthen HB3.out hb4).size
    obtain⟨pre,hpre⟩:∃ pre,Z.rb (rs.take j)++E.leb n.toNat=pre:=⟨_,rfl⟩
    have HP:=hide hpre
    clear hps hpo hb4 hk a0 a1 a2 a3 d1 d2 d3 d4 hpre
    go_wp2_with (at_builtin;refine wpList_app rfl _ _ rfl w2.heap.size u7 (Z.rb (rs.take j)) rfl HR4.out pa k pc (E.leb n.toNat) rfl HPS.out ?c0 hsz4 pre HP.out ?_)
    case c0 =>
     have h1:=HLE.out
     rw[HMM.out] at h1
     omega
    intro v5 w5 ho5 has5
    have hb5:Below w2.heap.size w2 w5:=HB4.out.trans (has5.below hsz4 (fun k hk=>(owns_lt HR4.out hk).1))
    have hA5:AtR w5 wr.heap.size 182 n xk xi xs:=(has5.1.block _ (lt_of_block HA4.out) (owns_ne_block HR4.out HA4.out (by decide))).trans HA4.out
    obtain⟨a0,a1,a2,a3⟩:=hA5.cells
    have HB5:=hide hb5
    have HO5:=hide ho5
    have HLB:=hide (lb_le HXI.out HXM.out)
    clear hb5 ho5 has5 hA5
    go_wp2_with fail
    refine (vbytes_any _ _ _ _ HXI.out).mono ?_
    rintro e w6 ⟨qa,qc,rfl,hs6,hb6⟩
    rw[bl_may HXM.out]
    rw[bl_may HXM.out] at hs6
    obtain⟨m6,hm6⟩:∃ m,(Z.lb ⟨xk,xi,xs⟩).length=m:=⟨_,rfl⟩
    rw[hm6]
    rw[hm6] at hs6 HLB
    have HB6:=hide (bthen HB5.out hb6)
    have hsz6:=HB6.out.size
    have HR6:=hide (owns_below HO5.out hb6)
    have HS6:=hide hs6
    have HT:Hid (pre++Z.lb ⟨xk,xi,xs⟩=Z.rb (rs.take (j+1))):=by show _=_;rw[← HP.out];exact rb_take HX.out
    have HPL:Hid (pre.length≤4276224+10):=by
     have h1:=HLE.out
     have h3:=E.leb_ten n.toNat (by omega)
     rw[HMM.out] at h1
     show _≤_
     rw[← HP.out,List.length_append]
     omega
    clear hm6 hs6 hb6 a0 a1 a2 a3 HO5
    go_wp2_with (at_builtin;refine wpList_app rfl _ _ rfl w2.heap.size v5 pre rfl HR6.out qa m6 qc (Z.lb ⟨xk,xi,xs⟩) rfl HS6.out ?c1 hsz6 (Z.rb (rs.take (j+1))) HT.out ?_)
    case c1 =>
     have h1:=HPL.out
     have h2:=HLB.out
     omega
    intro v7 w7 ho7 has7
    have hb7:Below w2.heap.size w2 w7:=HB6.out.trans (has7.below hsz6 (fun k hk=>(owns_lt HR6.out hk).1))
    have HB7:=hide hb7
    have HO7:=hide ho7
    clear hb7 ho7 has7
    go_wp2
    go_roundw
    case rel=>exact⟨j+1,hjl,by go_num,HO7,HB7⟩
    case measure=>simp[intOf];omega
  ·obtain rfl:j=m:=by omega
   have hll:rs.take j=rs:=by rw[← HMM.out,List.take_length]
   have HR:Hid (wr.ownsRow w2.heap.size 5 1 u7 (Z.rb (Z.runs l)).length (B8 (Z.rb (Z.runs l)))):=by
    have:=hrow.out
    rwa [hll,← HRS.out] at this
   have HBE:=hide (bthen HB2.out hbw.out)
   clear hll hrow
   go_wp2
   go_ret2
   exact RunBytes.yes HK.out HR.out HBE.out
theorem rlbytes_any (ao:Option Addr) (len cap:Nat) (l:List Z.V) (kind:Int) (w:World) (h:SlV w ao len cap l) (hI:∀ x∈l,Z.I64 x.i) :
  Calls Tryz.prog 105 #[.slice ao len cap,.int .i64 kind] w (RunBytes l kind w):=by
 by_cases h0:Z.chk l kind=0
 ·exact rlbytes_some ao len cap l kind w h hI h0
 ·have HCK:=hide (check_any _ _ _ l kind w h hI)
  obtain⟨E,hE⟩:∃ E,Z.chk l kind=E:=⟨_,rfl⟩
  have HE:=hide hE
  have hE0:(E != 0)=true:=by rw[← hE];simpa using h0
  have HE0:=hide (show E≠0 by rw[← hE];exact h0)
  clear h hI hE h0
  go_enter Tryz.func105,Tryz.ntmps105
  go_wp2_with fail
  refine HCK.out.mono ?_
  rintro e w1 ⟨rfl,hb1⟩
  rw[HE.out]
  replace hb1:=hide hb1
  clear HCK
  go_wp2
  go_ret2
  exact RunBytes.no HE.out HE0.out hb1.out
theorem o_ahead4 {kind:Int} (hk:kind=1∨kind=2∨kind=3) (l:List Nat) :
  Z.oE (l.take 1034) kind=Z.oE l kind∧Z.oV (l.take 1034) kind=Z.oV l kind∧(Z.oE l kind=0→l.drop ((l.take 1034).length - (Z.oR (l.take 1034) kind).length)=Z.oR l kind)∧(Z.oR (l.take 1034) kind).length≤(l.take 1034).length:=by
 have hm:Z.most kind≤1034:=by unfold Z.most;split<;>omega
 obtain⟨a1,a2,a3,a4⟩:=o_ahead hk l
 obtain⟨b1,b2,b3,b4⟩:=o_ahead hk (l.take 1034)
 rw[List.take_take,Nat.min_eq_left hm] at b1 b2 b3 b4
 obtain⟨q,hq⟩:∃ q,l.take (Z.most kind)=q:=⟨_,rfl⟩
 have hql:q.length≤(l.take 1034).length:=by rw[← hq,List.length_take,List.length_take];omega
 rw[hq] at a1 a2 a3 a4 b1 b2 b3 b4
 have hE:Z.oE (l.take 1034) kind=Z.oE l kind:=b1.symm.trans a1
 refine⟨hE,b2.symm.trans a2,fun h0=>?_,?_⟩
 ·have h1:=b3 (hE.trans h0)
  have h2:(Z.oR (l.take 1034) kind).length=(l.take 1034).length - (q.length - (Z.oR q kind).length):=by rw[← h1,List.length_drop]
  rw[h2,show (l.take 1034).length - ((l.take 1034).length - (q.length - (Z.oR q kind).length))=q.length - (Z.oR q kind).length by omega]
  exact a3 h0
 ·by_cases h0:Z.oE (l.take 1034) kind=0
  ·rw[← b3 h0,List.length_drop];omega
  ·unfold Z.oR;rw[if_neg h0];simp
theorem results_run2 {fn:Func} {p u v:Tmp} (h:fn.results=#[.cell p 182,.tmp u,.tmp v]) (tmps:Array Value) (w:World) (g:Nat) {n k i:Int} {s:ByteArray} (hp:tmps.getD p undef=.pointer (some ⟨g,0,none⟩)) (hA:AtR w g 182 n k i s) :
  (results fn tmps).run Tryz.prog w=.ok (.tuple #[.agg #[.int .i64 n,.int .i64 k,.int .i64 i,.string s],tmps.getD u undef,tmps.getD v undef]) w:=by
 have hp':tmps[p]?.getD undef=.pointer (some ⟨g,0,none⟩):=by simpa using hp
 unfold AtR at hA
 simp[results,h,hp',asAddr,run_loadVar_row w g 182 182 _ (0,0) _ hA Tryz.underlying182 rfl (by kernel_rfl)]
def ToRunAns (W:World) (b:List Nat) (N:Nat) (kind:Int) (w:World) (e:Ending) (w':World):Prop :=
 Below w.heap.size w w'∧((Z.r1 kind N b≠0∧e=.returned (.tuple #[.agg #[.int .i64 0,.int .i64 0,.int .i64 0,.string ⟨#[]⟩],.slice none 0 0,.int .i64 ((Z.r1 kind N b:Nat):Int)])) ∨
  (Z.r1 kind N b=0∧∃ a c,e=.returned (.tuple #[.agg #[.int .i64 ((E.gN b:Nat):Int),.int .i64 (Z.rnV kind b).k,.int .i64 (Z.rnV kind b).i,.string (Z.rnV kind b).s],.slice a (Z.rnR kind b).length c,.int .i64 0])∧Sl W .u8 a (Z.rnR kind b).length c (ints (Z.rnR kind b))))
theorem ToRunAns.no {W:World} {b:List Nat} {N:Nat} {kind E:Int} {w w':World} (h:((Z.r1 kind N b:Nat):Int)=E) (h0:E≠0) (hb:Below w.heap.size w w'):ToRunAns W b N kind w (.returned (.tuple #[.agg #[.int .i64 0,.int .i64 0,.int .i64 0,.string ⟨#[]⟩],.slice none 0 0,.int .i64 E])) w' :=
 ⟨hb,.inl ⟨by omega,by rw[h]⟩⟩
set_option maxHeartbeats 2000000 in
theorem torun_any (ao:Option Addr) (len cap:Nat) (b:List Nat) (N:Nat) (kind:Int) (w W:World) (hW:Sl W .u8 ao len cap (ints b)) (h:Sl w .u8 ao len cap (ints b)) (h256:∀ x∈b,x<256) (hm:len≤140737488355328) (hN:N≤4096) (hN0:1≤N) (hk:Z.kindOk kind=true) :
  Calls Tryz.prog 201 #[.slice ao len cap,.int .i64 (N:Int),.int .i64 kind] w (ToRunAns W b N kind w):=by
 have hl:b.length=len:=by rw[← h.1,ints_length]
 have hA:=AtR.new w 182 0 0 0 ⟨#[]⟩
 have b0:=below_one w (.cells #[.int .i64 0,.int .i64 0,.int .i64 0,.string ⟨#[]⟩] 182)
 have HA:=hide hA
 have HS:=hide (h.below b0)
 have HW:=hide hW
 have H256:=hide h256
 have HL:=hide hl
 have HK:=hide (kind_is hk)
 have HB0:=hide b0
 have hsz0:w.heap.size≤w.heap.size:=Nat.le_refl _
 clear h hW h256 hl hk hA b0
 go_enter Tryz.func201,Tryz.ntmps201
 go_wp2_with fail
 refine (get_any _ _ _ b _ HS.out H256.out hm).mono ?_
 rintro e w1 ⟨rfl,hb1⟩
 have hA1:=HA.out.below hb1
 have HA1:=hide hA1
 have HB1:=hide (bthen HB0.out hb1)
 have HS1:=hide (HS.out.below hb1)
 obtain⟨a0,a1,a2,a3⟩:=hA1.cells
 obtain⟨t0,t1,t2,t3⟩:=hA1.thawed
 obtain⟨X,hX⟩:∃ X:Nat,E.gE b=X:=⟨_,rfl⟩
 obtain⟨K,hK⟩:∃ K:Nat,E.gK b=K:=⟨_,rfl⟩
 obtain⟨M,hM⟩:∃ M:Nat,E.gN b=M:=⟨_,rfl⟩
 have hMlt:M<18446744073709551616:=by rw[← hM];exact E.gN_lt H256.out
 rw[hX,hK,hM]
 have HE:=hide hX
 have HKK:=hide hK
 have HM:=hide hM
 clear hb1 hA1 hX hK hM HA HS HB0
 by_cases hX0:X=0
 ·subst hX0
  by_cases hbad:M=0∨N<M
  ·have HP:Hid (((Z.r1 kind N b:Nat):Int)=4):=by show _=_;rw[r1_form HE.out (by rw[HM.out];exact hbad)];rfl
   rcases hbad with rfl|hbad
   ·go_wp2
    exact bodyPost_ret (results_run2 Tryz.results201 _ _ w.heap.size rfl (HA1.out.set 0 0 0 ⟨#[]⟩)) rfl (ToRunAns.no HP.out (by decide) (putR_below 0 0 0 ⟨#[]⟩ HB1.out (Nat.le_refl _)))
   ·have hM0:((M:Int)==0)=false:=by simp;omega
    go_wp2
    exact bodyPost_ret (results_run2 Tryz.results201 _ _ w.heap.size rfl (HA1.out.set 0 0 0 ⟨#[]⟩)) rfl (ToRunAns.no HP.out (by decide) (putR_below 0 0 0 ⟨#[]⟩ HB1.out (Nat.le_refl _)))
  ·have hM0:((M:Int)==0)=false:=by simp;omega
   have hMN:¬ N<M:=by omega
   have HBAD:=hide hbad
   have hKl:K≤len:=by rw[← HKK.out,← HL.out];exact (E.gE_zero HE.out H256.out).1
   obtain⟨qa,hq,hr1,hr2⟩:=rest_of HS1.out hKl
   obtain⟨qw,hqw,hw1,hw2⟩:=rest_of HW.out hKl
   have hqq:qw=qa:=by
    have h1:=hw1 w
    rw[hr1 w] at h1
    injection h1 with h1
    injection h1 with h1
    exact h1.symm
   subst hqq
   obtain⟨D,hD⟩:∃ D,len - K=D:=⟨_,rfl⟩
   obtain⟨cp,hcp⟩:∃ c,cap - K=c:=⟨_,rfl⟩
   obtain⟨bd,hbd⟩:∃ d,b.drop K=d:=⟨_,rfl⟩
   rw[hD,hcp,hbd] at hq hqw
   rw[hD,hcp] at hr1 hr2
   have hDm:D≤140737488355328:=by omega
   have hbl:bd.length=D:=by rw[← hq.1,ints_length]
   obtain⟨o1,o2,o3,o4⟩:=o_ahead4 HK.out bd
   obtain⟨Q,hQ⟩:∃ Q,min 1034 D=Q:=⟨_,rfl⟩
   have hQD:Q≤D:=by omega
   have hQ4:Q≤1034:=by omega
   have hlt:bd.take Q=bd.take 1034:=by
    rw[← hQ]
    by_cases h5:1034≤D
    ·rw[Nat.min_eq_left h5]
    ·rw[Nat.min_eq_right (by omega),List.take_of_length_le (by omega),List.take_of_length_le (by omega)]
   have hQl:(bd.take 1034).length=Q:=by rw[List.length_take,hbl,hQ]
   obtain⟨pa,hp,hp1,hp2⟩:=head_of hq hQD
   rw[hlt] at hp
   have hmin:∀ (ts:Array TypeId) (t:TypeId) (w:World),(Builtin.min_ ts t #[.int .i64 1034,.int .i64 (D:Int)]).run Tryz.prog w=.ok (.int .i64 (Q:Int)) w:=fun ts t w=>by
    rw[run_min_int2]
    have:(if (D:Int)<1034 then (D:Int) else 1034)=(Q:Int):=by split<;>omega
    rw[this]
   have HPS:=hide hp
   have HO1:=hide o1
   have HO2:=hide o2
   have HO3:=hide o3
   have HO4:=hide o4
   have HQL:=hide hQl
   have HQ:=hide hq
   have HQW:=hide hqw
   have HBD:=hide hbd
   have HB256:Hid (∀ x∈bd,x<256):=fun x hx=>H256.out x (by rw[← HBD.out] at hx;exact List.mem_of_mem_drop hx)
   clear hp o1 o2 o3 o4 hQl hlt hQ hq hqw hbl hD hcp hbd hw1 hw2 hbad
   go_wp2_with fail
   refine (vof_any _ _ _ (bd.take 1034) kind _ HPS.out (fun x hx=>HB256.out x (List.mem_of_mem_take hx)) (by omega)).mono ?_
   rintro e w2 ⟨ra,rc,rfl,_,hb2⟩
   rw[HO1.out,HO2.out]
   obtain⟨n,hn⟩:∃ n,(Z.oR (bd.take 1034) kind).length=n:=⟨_,rfl⟩
   obtain⟨⟨vk,vi,vs⟩,hv⟩:∃ x,Z.oV bd kind=x:=⟨_,rfl⟩
   obtain⟨Y,hY⟩:∃ Y:Nat,Z.oE bd kind=Y:=⟨_,rfl⟩
   have HR1:Hid (Z.r1 kind N b=Y):=by
    show _=_
    rw[r1_val HE.out (by rw[HM.out];exact HBAD.out),HKK.out,HBD.out]
    exact hY
   rw[hn,hv,hY,show (Z.V.v ⟨vk,vi,vs⟩)=.agg #[.int .i64 vk,.int .i64 vi,.string vs] from rfl]
   have b2:=below_one w2 (.cells #[.int .i64 vk,.int .i64 vi,.string vs] 25)
   have hA2:=(HA1.out.below hb2).below b2
   have HA2:=hide hA2
   have HB2:=hide (bthen (bthen HB1.out hb2) b2)
   clear a0 a1 a2 a3 t0 t1 t2 t3
   obtain⟨a0,a1,a2,a3⟩:=hA2.cells
   obtain⟨t0,t1,t2,t3⟩:=hA2.thawed
   by_cases hY0:Y=0
   ·subst hY0
    have hnQ:n≤Q:=by have:=HO4.out;rw[hn,HQL.out] at this;exact this
    obtain⟨G,hG⟩:∃ G,Q - n=G:=⟨_,rfl⟩
    have hQG:(Q:Int) - (n:Int)=(G:Int):=by omega
    have hGD:G≤D:=by omega
    obtain⟨sa,hsa,hr3,hr4⟩:=rest_of HQ.out hGD
    obtain⟨sw,hsw,hw3,hw4⟩:=rest_of HQW.out hGD
    have hss:sw=sa:=by
     have h1:=hw3 w
     rw[hr3 w] at h1
     injection h1 with h1
     injection h1 with h1
     exact h1.symm
    subst hss
    have HSW:Hid (bd.drop G=Z.rnR kind b):=by
     have h1:=HO3.out hY
     rw[hn,HQL.out,hG] at h1
     show _=_
     rw[h1]
     unfold Z.rnR
     rw[HKK.out,HBD.out]
    have HV:Hid (Z.rnV kind b=⟨vk,vi,vs⟩):=by
     show _=_
     unfold Z.rnV
     rw[HKK.out,HBD.out]
     exact hv
    have HSL:=hide hsw
    have hM4:M≤4096:=by omega
    obtain⟨v0,v1,v2⟩:=(At.new w2 vk vi vs).cells
    rw[← hQG] at hr3 hr4
    clear hY hn hv hb2 hA2 b2 hr1 hr2 hp1 hp2 hmin hsa hsw hw3 hw4 hG hQG
    obtain⟨w3,hw3⟩:∃ w3,w2.alloc (.cells #[.int .i64 vk,.int .i64 vi,.string vs] 25)=w3:=⟨_,rfl⟩
    go_wp2_with fail
    rw[hw3] at v0 v1 v2 a0 a1 a2 a3 t0 t1 t2 t3 HA2 HB2
    clear hw3
    go_region
    have hat:AtR (putR w3 w.heap.size (M:Int) vk vi vs).drew w.heap.size 182 (M:Int) vk vi vs:=HA2.out.set (M:Int) vk vi vs
    have hbl:(Z.rnR kind b).length=D - G:=by rw[← HSW.out,← HSL.out.1,ints_length]
    have hsl:=HSL.out
    rw[HSW.out,← hbl] at hsl
    have HAT:=hide hat
    have HBF:=hide (putR_below (M:Int) vk vi vs HB2.out (Nat.le_refl _)).drew
    have HFI:Hid (ToRunAns W b N kind w (.returned (.tuple #[.agg #[.int .i64 (M:Int),.int .i64 vk,.int .i64 vi,.string vs],.slice sw (D - G) (cp - G),.int .i64 0])) (putR w3 w.heap.size (M:Int) vk vi vs).drew) :=
     ⟨HBF.out,.inr ⟨HR1.out,sw,cp - G,by rw[HM.out,HV.out,hbl],hsl⟩⟩
    clear hat hbl hsl
    go_wp2
    exact bodyPost_ret (results_run2 Tryz.results201 _ _ w.heap.size rfl HAT.out) rfl HFI.out
   ·obtain⟨y,hy⟩:∃ y:Int,((Y:Nat):Int)=y:=⟨_,rfl⟩
    have hy0:y≠0:=by omega
    have HY0:=hide hy0
    have hyb:(y != 0)=true:=by simpa using hy0
    have HP:Hid (((Z.r1 kind N b:Nat):Int)=y):=by show _=_;rw[HR1.out];exact hy
    rw[hy]
    clear hY hy hY0 hn hv hb2 hA2 b2 hr1 hr2 hp1 hp2 hmin
    go_wp2
    exact bodyPost_ret (results_run2 Tryz.results201 _ _ w.heap.size rfl (HA2.out.set 0 0 0 ⟨#[]⟩)) rfl (ToRunAns.no HP.out HY0.out (putR_below 0 0 0 ⟨#[]⟩ HB2.out (Nat.le_refl _)))
 ·obtain⟨y,hy⟩:∃ y:Int,((X:Nat):Int)=y:=⟨_,rfl⟩
  have hy0:y≠0:=by omega
  have HY0:=hide hy0
  have hyb:(y != 0)=true:=by simpa using hy0
  have HP:Hid (((Z.r1 kind N b:Nat):Int)=y):=by show _=_;rw[r1_num (by rw[HE.out];exact hX0),HE.out];exact hy
  rw[hy]
  clear hy hX0
  go_wp2
  exact bodyPost_ret (results_run2 Tryz.results201 _ _ w.heap.size rfl (HA1.out.set 0 0 0 ⟨#[]⟩)) rfl (ToRunAns.no HP.out HY0.out (putR_below 0 0 0 ⟨#[]⟩ HB1.out (Nat.le_refl _)))
def RunsAns (t:TypeId) (b:List Nat) (n kind:Int) (w:World) (e:Ending) (w':World):Prop:=∃ v,e=.returned (.tuple #[v,.int .i64 (Z.uE b n kind)])∧OwnR w' t w.heap.size v (Z.uL b n kind)∧Below w.heap.size w w'
theorem RunsAns.no {t:TypeId} {b:List Nat} {n kind X:Int} {w w':World} (h:Z.uE b n kind=X) (h0:X≠0) (hb:Below w.heap.size w w'):RunsAns t b n kind w (.returned (.tuple #[.slice none 0 0,.int .i64 X])) w':=by
 unfold RunsAns;rw[uL_bad (by rw[h];exact h0),h]
 exact⟨_,rfl,ownR_nil _ _ _,hb⟩
theorem RunsAns.yes {t:TypeId} {b:List Nat} {n kind:Int} {w w':World} {v:Value} {rs:List Z.R} (h:Z.uE b n kind=0) (hr:Z.uL b n kind=rs) (ho:OwnR w' t w.heap.size v rs) (hb:Below w.heap.size w w'):RunsAns t b n kind w (.returned (.tuple #[v,.int .i64 0])) w':=by
 subst hr
 unfold RunsAns;rw[h]
 exact⟨_,rfl,ho,hb⟩
theorem chk_nil {kind:Int} (h:Z.kindOk kind=true):Z.chk [] kind=0:=chk_yes h (by simp) rfl rfl
theorem slV_nil (w:World):SlV w none 0 0 []:=⟨rfl,Nat.le_refl _,by simp[maxLen],fun _=>rfl,.inl rfl⟩
theorem rnR_len (kind:Int) (b:List Nat):(Z.rnR kind b).length≤b.length:=by
 have h1:=pR_len kind 1 (b.drop (E.gK b))
 have h2:(b.drop (E.gK b)).length≤b.length:=by rw[List.length_drop];omega
 exact Nat.le_trans h1 h2
theorem rnR_lt {kind:Int} {b:List Nat} (h:∀ x∈b,x<256):∀ x∈Z.rnR kind b,x<256:=oR_lt (fun x hx=>h x (List.mem_of_mem_drop hx)) kind
structure RunLoop (kind:Int) (N:Nat) (b:List Nat) (left:Nat) (bs:List Nat) (rs:List Z.R):Prop where
 err:Z.te kind N none b=Z.te kind left (Z.top rs.reverse) bs
 list:Z.tl kind N none b=rs++Z.tl kind left (Z.top rs.reverse) bs
 low:∀ x∈bs,x<256
 few:rs.length+left≤N
theorem RunLoop.step {kind:Int} {N:Nat} {b:List Nat} {left:Nat} {bs:List Nat} {rs:List Z.R} (h:RunLoop kind N b left bs rs) (h0:0<left) (h1:Z.r1 kind left bs=0) (h2:Z.isV (Z.top rs.reverse) (Z.rnV kind bs)=false) :
  RunLoop kind N b (left - E.gN bs) (Z.rnR kind bs) (rs++[⟨((E.gN bs:Nat):Int),Z.rnV kind bs⟩]):=by
 have h3:=r2_of (p:=Z.top rs.reverse) h1 (fun e=>by rw[(isV_iff _ _).2 e] at h2;exact absurd h2 (by decide))
 obtain⟨_,g2,g3,_⟩:=r1_ok h1
 refine⟨?_,?_,rnR_lt h.low,?_⟩
 ·rw[top_snoc,h.err,te_step h0 h3]
 ·rw[top_snoc,h.list,tl_step h0 h3,List.append_assoc];rfl
 ·have:=h.few
  rw[List.length_append]
  simp
  omega
set_option maxHeartbeats 2000000 in
theorem toruns_some (ao:Option Addr) (len cap:Nat) (b:List Nat) (N:Nat) (kind:Int) (w:World) (h:Sl w .u8 ao len cap (ints b)) (h256:∀ x∈b,x<256) (hm:len≤140737488355328) (hN:N≤4096) (hk:Z.kindOk kind=true) :
  Calls Tryz.prog 152 #[.slice ao len cap,.int .i64 (N:Int),.int .i64 kind] w (RunsAns 182 b (N:Int) kind w):=by
 have hd1:decide ((N:Int)<0)=false:=by simp
 have hd2:decide ((4096:Int)<(N:Int))=false:=by simp;omega
 have HCK:=hide (check_any none 0 0 [] kind w (slV_nil w) (by simp))
 have HS:=hide h
 have HK:=hide hk
 have H0:Hid (RunLoop kind N b N b []):=⟨rfl,rfl,h256,by simp⟩
 clear h h256 hk
 go_enter Tryz.func152,Tryz.ntmps152
 go_wp2_with fail
 refine HCK.out.mono ?_
 rintro e w1 ⟨rfl,hb1⟩
 rw[chk_nil HK.out]
 replace hb1:=hide hb1
 clear HCK
 go_wp2_with fail
 go_loopw [0,1,9] (fun s nn v wr=>∃ (left L c:Nat) (a:Option Addr) (bs:List Nat) (rs:List Z.R),left≤4096∧L≤140737488355328∧nn=.int .i64 left∧s=.slice a L c∧Hid (Sl w .u8 a L c (ints bs))∧Hid (OwnR wr 182 w.heap.size v rs)∧Hid (RunLoop kind N b left bs rs)∧Hid (Below w.heap.size w wr)) (fun _ nn _ _=>(intOf nn).toNat)
 case atStart=>exact⟨N,len,cap,ao,b,[],hN,hm,rfl,rfl,HS,hide (ownR_nil _ _ _),H0,hb1⟩
 case round =>
  obtain⟨left,L,c,a,bs,rs,hleft,hL,rfl,rfl,hs,hrow,hlp,hbw⟩:=hrel
  by_cases h0:0<left
  ·have HT:=hide (torun_any a L c bs left kind wr w hs.out (hs.out.below hbw.out) hlp.out.low hL hleft h0 HK.out)
   go_wp2_with fail
   refine HT.out.mono ?_
   rintro e w2 ⟨hb2,hr⟩
   have HB2:=hide (bthen hbw.out hb2)
   have hrow2:=hrow.out.below hb2
   clear HT
   rcases hr with ⟨hbad,rfl⟩|⟨hok,ra,rc,rfl,hsr⟩
   ·obtain⟨X,hX⟩:∃ X:Int,((Z.r1 kind left bs:Nat):Int)=X:=⟨_,rfl⟩
    have HP:Hid (Z.uE b (N:Int) kind=X):=by
     show _=_
     rw[uE_is HK.out hN,hlp.out.err,te_bad h0 (by rw[r2_bad hbad];exact hbad),r2_bad hbad,hX]
    have hX0:X≠0:=by omega
    have HX0:=hide hX0
    have hXb:(X != 0)=true:=by simpa using hX0
    have HBE:=hide (bthen HB2.out (below_one w2 (.cells #[.int .i64 0,.int .i64 0,.int .i64 0,.string ⟨#[]⟩] 182)))
    rw[hX]
    clear hbad hX hrow2 hb2
    go_wp2
    go_ret2
    exact RunsAns.no HP.out HX0.out HBE.out
   ·obtain⟨_,g2,g3,_⟩:=r1_ok hok
    obtain⟨⟨vk,vi,vs⟩,hv⟩:∃ x,Z.rnV kind bs=x:=⟨_,rfl⟩
    obtain⟨m,hmm⟩:∃ m,E.gN bs=m:=⟨_,rfl⟩
    obtain⟨q,hq⟩:∃ q,(Z.rnR kind bs).length=q:=⟨_,rfl⟩
    have hbl:bs.length=L:=by rw[← hs.out.1,ints_length]
    have hqL:q≤140737488355328:=by have:=rnR_len kind bs;omega
    rw[hv,hmm,hq]
    rw[hq] at hsr
    rw[hmm] at g2 g3
    have b3:=below_one w2 (.cells #[.int .i64 (m:Int),.int .i64 vk,.int .i64 vi,.string vs] 182)
    have hA:=AtR.new w2 182 (m:Int) vk vi vs
    have hrow3:=hrow2.below b3
    obtain⟨oa,oc,hov,hosl,_⟩:=SlR.of_own hrow3
    have hrl:=hlp.out.few
    have HG:=hide (goes_any oa _ oc rs vk vi vs _ hosl (by omega))
    obtain⟨k,hkk⟩:∃ k,rs.length=k:=⟨_,rfl⟩
    rw[hkk] at hov HG hrl
    obtain⟨a0,a1,a2,a3⟩:=hA.cells
    have HA:=hide hA
    have HB3:=hide (bthen HB2.out b3)
    have HR3:=hide hrow3
    have HOK:=hide hok
    have HV:=hide hv
    have HMM:=hide hmm
    have HSR:=hide hsr
    have HKK:=hide hkk
    have HSZ:=hide hb2.size
    have HOV:=hide hov
    rw[hov]
    clear hok hv hmm hq hsr b3 hA hrow3 hosl hkk hbl hrow2 hb2 hov
    go_wp2_with fail
    refine HG.out.mono ?_
    rintro e w4 ⟨rfl,hb4⟩
    obtain⟨p,hp⟩:∃ p,Z.isV (Z.top rs.reverse) ⟨vk,vi,vs⟩=p:=⟨_,rfl⟩
    rw[hp]
    have HB4:=hide (bthen HB3.out hb4)
    have HA4:=hide (HA.out.below hb4)
    have HR4:=hide (HR3.out.below hb4)
    have HPP:=hide hp
    clear HG a0 a1 a2 a3 hb4 hp HA HR3 HB3
    cases p with
    | true =>
     have HP:Hid (Z.uE b (N:Int) kind=4):=by
      show _=_
      have h4:=r2_again HOK.out ((isV_iff _ _).1 (by rw[HV.out];exact HPP.out))
      rw[uE_is HK.out hN,hlp.out.err,te_bad h0 (by rw[h4];decide),h4]
      rfl
     go_wp2
     go_ret2
     exact RunsAns.no HP.out (by decide) HB4.out
    | false =>
     have HST:=hide (hlp.out.step h0 HOK.out (by rw[HV.out];exact HPP.out))
     rw[HV.out,HMM.out] at HST
     have b5:=below_one w4 (.cells #[.int .i64 (m:Int),.int .i64 vk,.int .i64 vi,.string vs] 182)
     have HR5:=hide (HR4.out.below b5)
     have HB5:=hide (bthen HB4.out b5)
     have hA5:=HA4.out.below b5
     have HA5:=hide hA5
     obtain⟨a0,a1,a2,a3⟩:=HA4.out.cells
     have hsz5:=HB5.out.size
     have hsz4:=HB4.out.size
     rw[HOV.out] at HR5
     clear b5 hA5
     go_wp2_with (at_builtin;refine wpList_appR 179 182 Tryz.underlying179 Tryz.infoRun rfl _ _ rfl w.heap.size (.slice oa k oc) rs rfl HR5.out (some ⟨w4.heap.size,0,none⟩) 1 ⟨(m:Int),⟨vk,vi,vs⟩⟩ rfl (slR_one w4 182 (m:Int) vk vi vs) (by rw[HKK.out];omega) (by simp;omega) ?_)
     intro v6 w6 ho6 has6
     have hb6:Below w.heap.size w w6:=HB5.out.trans (has6.below (by simp;omega) (fun k hk=>(owns_lt HR5.out hk).1))
     have hA6:AtR w6 w2.heap.size 182 (m:Int) vk vi vs:=by
      refine (has6.1.block _ (lt_of_block HA5.out) (fun e=>?_)).trans HA5.out
      have h1:=(owns_lt hrow.out (k:=w2.heap.size) (by rw[HOV.out];exact e)).2
      have h2:=HSZ.out
      omega
     obtain⟨a0,a1,a2,a3⟩:=hA6.cells
     have HO6:=hide ho6
     have HB6:=hide hb6
     have HR:Hid (∃ bs2,Sl w .u8 ra q rc (ints bs2)∧RunLoop kind N b (left - m) bs2 (rs++[⟨(m:Int),⟨vk,vi,vs⟩⟩])):=⟨_,HSR.out,HST.out⟩
     have hsub:(left:Int) - (m:Int)=((left - m:Nat):Int):=by omega
     clear hb6 hA6 ho6 has6
     go_wp2
     go_roundw
     case rel =>
      obtain⟨bs2,r1,r2⟩:=HR.out
      exact⟨left - m,q,rc,ra,bs2,_,by omega,hqL,by first|rfl|rw[hsub],rfl,hide r1,HO6,hide r2,HB6⟩
     case measure=>simp[intOf];omega
  ·obtain rfl:left=0:=by omega
   have hbl:bs.length=L:=by rw[← hs.out.1,ints_length]
   by_cases hL0:L=0
   ·subst hL0
    obtain rfl:bs=[]:=List.eq_nil_of_length_eq_zero hbl
    have HP:Hid (Z.uE b (N:Int) kind=0):=by show _=_;rw[uE_is HK.out hN,hlp.out.err];rfl
    have HQ:Hid (Z.uL b (N:Int) kind=rs):=by show _=_;rw[uL_is HP.out,hlp.out.list,tl_zero,List.append_nil]
    clear hbl
    go_wp2
    go_ret2
    exact RunsAns.yes HP.out HQ.out hrow.out hbw.out
   ·have HP:Hid (Z.uE b (N:Int) kind=4):=by
     show _=_
     rw[uE_is HK.out hN,hlp.out.err,te_zero (fun e=>by rw[e] at hbl;exact hL0 hbl.symm)]
     rfl
    have hpos:0<L:=by omega
    clear hbl
    go_wp2
    go_ret2
    exact RunsAns.no HP.out (by decide) hbw.out
theorem toruns_any (ao:Option Addr) (len cap:Nat) (b:List Nat) (n kind:Int) (w:World) (h:Sl w .u8 ao len cap (ints b)) (h256:∀ x∈b,x<256) (hm:len≤140737488355328) :
  Calls Tryz.prog 152 #[.slice ao len cap,.int .i64 n,.int .i64 kind] w (RunsAns 182 b n kind w):=by
 cases hk:Z.kindOk kind with
 | false =>
  have HK:=hide hk
  have HCK:=hide (check_any none 0 0 [] kind w (slV_nil w) (by simp))
  clear hk h h256
  go_enter Tryz.func152,Tryz.ntmps152
  go_wp2_with fail
  refine HCK.out.mono ?_
  rintro e w2 ⟨rfl,hb⟩
  rw[chk_kind HK.out]
  replace hb:=hide hb
  clear HCK
  go_wp2
  go_ret2
  exact RunsAns.no (uE_kind HK.out) (by decide) hb.out
 | true =>
  by_cases hn:n<0∨4096<n
  ·have HK:=hide hk
   have HN:=hide hn
   have HCK:=hide (check_any none 0 0 [] kind w (slV_nil w) (by simp))
   clear hk h h256
   rcases hn with hn|hn
   ·have hd1:decide (n<0)=true:=by simpa using hn
    go_enter Tryz.func152,Tryz.ntmps152
    go_wp2_with fail
    refine HCK.out.mono ?_
    rintro e w2 ⟨rfl,hb⟩
    rw[chk_nil HK.out]
    replace hb:=hide hb
    clear HCK
    go_wp2
    go_ret2
    exact RunsAns.no (uE_many HK.out HN.out) (by decide) hb.out
   ·have hd1:decide (n<0)=false:=by simp;omega
    have hd2:decide (4096<n)=true:=by simpa using hn
    go_enter Tryz.func152,Tryz.ntmps152
    go_wp2_with fail
    refine HCK.out.mono ?_
    rintro e w2 ⟨rfl,hb⟩
    rw[chk_nil HK.out]
    replace hb:=hide hb
    clear HCK
    go_wp2
    go_ret2
    exact RunsAns.no (uE_many HK.out HN.out) (by decide) hb.out
  ·obtain⟨N,rfl⟩:∃ N:Nat,n=(N:Int):=⟨n.toNat,by omega⟩
   exact toruns_some ao len cap b N kind w h h256 hm (by omega) hk
def SpreadAns (b:List Nat) (n kind:Int) (w:World) (e:Ending) (w':World):Prop:=∃ v,e=.returned (.tuple #[v,.int .i64 (Z.uE b n kind)])∧OwnV w' w.heap.size v (Z.sp (Z.uL b n kind))∧Below w.heap.size w w'
theorem own_lowV {w:World} {B C:Nat} {v:Value} {l:List Z.V} (h:OwnV w B v l) (hC:C≤B):OwnV w C v l:=owns_base h fun g hg=>Nat.le_trans hC (owns_lt h hg).1
theorem uL_len {b:List Nat} {n kind:Int} (h256:∀ x∈b,x<256):(Z.uL b n kind).length≤4096:=by
 by_cases h:Z.uE b n kind=0
 ·have h1:=neat_few (u_two h256 h).1
  have h2:=uL_few (n:=n) (kind:=kind) h256
  omega
 ·rw[uL_bad h];simp
theorem rlof_any (ao:Option Addr) (len cap:Nat) (b:List Nat) (n kind:Int) (w:World) (h:Sl w .u8 ao len cap (ints b)) (h256:∀ x∈b,x<256) (hm:len≤140737488355328) :
  Calls Tryz.prog 106 #[.slice ao len cap,.int .i64 n,.int .i64 kind] w (SpreadAns b n kind w):=by
 have HT:=hide (toruns_any ao len cap b n kind w h h256 hm)
 have HF:=hide (uL_len (n:=n) (kind:=kind) h256)
 have HSF:=hide (spr_few (uL_few (n:=n) (kind:=kind) h256))
 clear h h256
 go_enter Tryz.func106,Tryz.ntmps106
 go_wp2_with fail
 refine HT.out.mono ?_
 rintro e w1 ⟨v,rfl,ho,hb⟩
 obtain⟨ra,rc,rfl,hsl,_⟩:=SlR.of_own ho
 have HS:=hide (spread_any ra _ rc _ w1 hsl (by have:=HF.out;omega))
 obtain⟨X,hX⟩:∃ X,Z.uE b n kind=X:=⟨_,rfl⟩
 obtain⟨k,hk⟩:∃ k,(Z.uL b n kind).length=k:=⟨_,rfl⟩
 rw[hX,hk]
 rw[hk] at HS
 have HX:=hide hX
 have HB:=hide hb
 clear hX hk hsl ho hb HT
 go_wp2_with fail
 refine HS.out.mono ?_
 rintro e w2 ⟨v2,rfl,ho2,hb2⟩
 rw[HSF.out] at ho2
 have HO:=hide (own_lowV ho2 HB.out.size)
 have HB2:=hide (bthen HB.out hb2)
 clear ho2 hb2 HS
 go_wp2
 go_ret2
 exact⟨_,by rw[HX.out];rfl,HO.out,HB2.out⟩
theorem runs_rep {l:List Z.V} {x:Z.V} {n:Nat} (h:Z.isV (Z.top (Z.runs l).reverse) x=false) (hn:1≤n):Z.runs (l++List.replicate n x)=Z.runs l++[⟨(n:Int),x⟩]:=by
 have h1:Z.top (Z.rr l)≠some x:=by
  intro e
  rw[runs_rev,(isV_iff _ _).2 e] at h
  exact absurd h (by decide)
 have h2:=fold_run (t:=Z.rr l) (r:=⟨(n:Int),x⟩) h1 (by show (1:Int)≤(n:Int);omega)
 rw[show ((⟨(n:Int),x⟩:Z.R)).n.toNat=n by show ((n:Int)).toNat=n;omega] at h2
 unfold Z.runs
 rw[show Z.rr (l++List.replicate n x)=(List.replicate n x).foldl Z.addR (Z.rr l) from by unfold Z.rr;rw[List.foldl_append],h2,List.reverse_cons]
end Go.Proofs.YtnkpgmibhpmdhaaGreat

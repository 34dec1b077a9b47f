/- Contracts and plain facts, one behind the other: M5 Z3 T1 Z5 E3 -/
import Derived.Deep.RegionWith
import Derived.Test.YtnkpgmibhpmdhaaGreatBeAC
namespace Go.Proofs.YtnkpgmibhpmdhaaGreat
set_option linter.unusedVariables false
open Go.RowKit
def KeptClean:Prop:=∀ (b:Int) (w:World),0≤b→b<18446744073709551616→Calls Tryz.prog 116 #[.int .u64 b] w fun e w'=>e=.returned (.int .u64 (D.cl b))∧w'=w
def KeptKey:Prop:=∀ (b:Int) (w:World),0≤b→b<18446744073709551616→Calls Tryz.prog 73 #[.int .u64 b] w fun e w'=>e=.returned (.int .u64 (D.ky b))∧w'=w
def KeptBits:Prop:=∀ (b:Int) (w:World),0≤b→b<18446744073709551616→Calls Tryz.prog 174 #[.int .u64 b] w fun e w'=>e=.returned (.int .u64 (D.bt b))∧w'=w
def KeptCompare:Prop:=∀ (a b:Int) (w:World),0≤a→a<18446744073709551616→0≤b→b<18446744073709551616→Calls Tryz.prog 113 #[.int .u64 a,.int .u64 b] w fun e w'=>e=.returned (.int .i64 (D.cp a b))∧w'=w
theorem isnan_any (b:Int) (w:World) (h0:0≤b) (h1:b<18446744073709551616) :
  Calls Tryz.prog 167 #[.int .u64 b] w fun e w'=>e=.returned (.bool (D.isN b))∧w'=w:=by
 have ha:=D.andNot_top ⟨h0,h1⟩
 have HN:Hid (decide (9218868437227405312<b%9223372036854775808)=D.isN b):=D.isN_over ⟨h0,h1⟩
 go_enter Tryz.func167,Tryz.ntmps167
 go_wp2
 go_ret
 exact⟨by rw[← HN.out];rfl,rfl⟩
theorem clean_any:KeptClean:=by
 intro b w h0 h1
 go_enter Tryz.func116,Tryz.ntmps116
 go_wp2_with fail
 refine (isnan_any b w h0 h1).mono ?_
 rintro e w1 ⟨rfl,rfl⟩
 cases hb:D.isN b with
 | false =>
  have HC:Hid (D.cl b=b):=D.cl_num hb
  go_wp2
  go_ret
  exact⟨by rw[HC.out];rfl,rfl⟩
 | true =>
  have HC:Hid (D.cl b=9221120237041090560):=D.cl_nan hb
  go_wp2
  go_ret
  exact⟨by rw[HC.out];rfl,rfl⟩
theorem key_any:KeptKey:=by
 intro b w h0 h1
 have hc:=D.cl_in (b:=b) ⟨h0,h1⟩
 go_enter Tryz.func73,Tryz.ntmps73
 go_wp2_with fail
 refine (clean_any b w h0 h1).mono ?_
 rintro e w1 ⟨rfl,rfl⟩
 obtain⟨c,hce⟩:∃ c,D.cl b=c:=⟨_,rfl⟩
 rw[hce] at hc ⊢
 have HK:Hid (D.ky b=if 9223372036854775808≤c then 18446744073709551615 - c else c+9223372036854775808):=by show _=_;unfold D.ky;rw[hce]
 clear hce
 have ha:=D.and_top hc
 have hx:=D.turn_all hc
 by_cases hs:9223372036854775808≤c
 ·rw[if_pos hs] at ha
  obtain⟨hc0,hc1⟩:=hc
  go_wp2
  go_ret
  exact⟨by rw[HK.out,if_pos hs];rfl,rfl⟩
 ·rw[if_neg hs] at ha
  have ho:=D.or_top hc.1 (by omega:c<9223372036854775808)
  obtain⟨hc0,hc1⟩:=hc
  go_wp2
  go_ret
  exact⟨by rw[HK.out,if_neg (by omega)];rfl,rfl⟩
theorem bits_any:KeptBits:=by
 intro k w h0 h1
 have hk:D.In64 k:=⟨h0,h1⟩
 have ha:=D.and_top hk
 by_cases hs:9223372036854775808≤k
 ·rw[if_pos hs] at ha
  have hn:=D.andNot_top hk
  have HB:Hid (D.bt k=D.cl (k%9223372036854775808)):=by show _=_;unfold D.bt;rw[if_pos hs,show k - 9223372036854775808=k%9223372036854775808 by omega]
  obtain⟨r,hr⟩:∃ r,k%9223372036854775808=r:=⟨_,rfl⟩
  have hr0:0≤r:=by omega
  have hr1:r<18446744073709551616:=by omega
  rw[hr] at hn HB
  clear hr
  go_enter Tryz.func174,Tryz.ntmps174
  go_wp2_with fail
  refine (clean_any r w hr0 hr1).mono ?_
  rintro e w1 ⟨rfl,rfl⟩
  go_wp2
  go_ret
  exact⟨by rw[HB.out];rfl,rfl⟩
 ·rw[if_neg hs] at ha
  have hn:=D.turn_all hk
  have HB:Hid (D.bt k=D.cl (18446744073709551615 - k)):=by show _=_;unfold D.bt;rw[if_neg hs]
  obtain⟨r,hr⟩:∃ r,18446744073709551615 - k=r:=⟨_,rfl⟩
  have hr0:0≤r:=by omega
  have hr1:r<18446744073709551616:=by omega
  rw[hr] at hn HB
  clear hr
  go_enter Tryz.func174,Tryz.ntmps174
  go_wp2_with fail
  refine (clean_any r w hr0 hr1).mono ?_
  rintro e w1 ⟨rfl,rfl⟩
  go_wp2
  go_ret
  exact⟨by rw[HB.out];rfl,rfl⟩
theorem compare_any:KeptCompare:=by
 intro a b w a0 a1 b0 b1
 have hx:=D.ky_in (b:=a) ⟨a0,a1⟩
 have hy:=D.ky_in (b:=b) ⟨b0,b1⟩
 have HC:Hid (D.cp a b=if D.ky a<D.ky b then -1 else if D.ky b<D.ky a then 1 else 0):=by show _=_;rfl
 go_enter Tryz.func113,Tryz.ntmps113
 go_wp2_with fail
 refine (key_any a w a0 a1).mono ?_
 rintro e w1 ⟨rfl,rfl⟩
 go_wp2_with fail
 refine (key_any b w1 b0 b1).mono ?_
 rintro e w2 ⟨rfl,rfl⟩
 obtain⟨x,hxe⟩:∃ x,D.ky a=x:=⟨_,rfl⟩
 obtain⟨y,hye⟩:∃ y,D.ky b=y:=⟨_,rfl⟩
 rw[hxe] at hx HC ⊢
 rw[hye] at hy HC ⊢
 clear hxe hye
 obtain⟨x0,x1⟩:=hx
 obtain⟨y0,y1⟩:=hy
 by_cases hl:x<y
 ·go_wp2
  go_ret
  exact⟨by rw[HC.out,if_pos hl];rfl,rfl⟩
 ·by_cases hg:y<x
  ·go_wp2
   go_ret
   exact⟨by rw[HC.out,if_neg (by omega),if_pos hg];rfl,rfl⟩
  ·go_wp2
   go_ret
   exact⟨by rw[HC.out,if_neg (by omega),if_neg (by omega)];rfl,rfl⟩
theorem cmprun_run (s t:ByteArray) (w:World):(callFunc 211 #[.string s,.string t]).run Tryz.prog w=.ok (.value (.int .i64 (Z.cs s t))) w:=by
 rw[run_callFunc_extern (fn:=Tryz.f211) (e:=Extern.BytealgCompare.compare) Tryz.func211 (by kernel_rfl) (by kernel_rfl) (by kernel_rfl) (by kernel_rfl),Lib.run_compareString]
 rfl
theorem cmpstr_any (s t:ByteArray) (w:World):Calls Tryz.prog 166 #[.string s,.string t] w fun e w'=>e=.returned (.int .i64 (Z.cs s t))∧w'=w:=by
 have hf:=cmprun_run s t w
 go_enter Tryz.func166,Tryz.ntmps166
 go_wp2
 go_ret
 exact⟨rfl,rfl⟩
theorem strcmp_any (s t:ByteArray) (w:World):Calls Tryz.prog 114 #[.string s,.string t] w fun e w'=>e=.returned (.int .i64 (Z.cs s t))∧w'=w:=by
 go_enter Tryz.func114,Tryz.ntmps114
 go_wp2_with fail
 refine (cmpstr_any s t w).mono ?_
 rintro e w1 ⟨rfl,rfl⟩
 go_wp2
 go_ret
 exact⟨rfl,rfl⟩
theorem wrap64_sg {b:Int} (h:D.In64 b):wrap64 b=Z.sg b:=by
 unfold D.In64 at h;unfold wrap64 Z.sg;split<;>omega
theorem vclean_any (k i:Int) (s:ByteArray) (w:World) (hi:Z.I64 i):Calls Tryz.prog 97 #[.agg #[.int .i64 k,.int .i64 i,.string s]] w fun e w'=>e=.returned (Z.cl ⟨k,i,s⟩).v∧Below w.heap.size w w':=by
 by_cases h:k=2
 ·subst h
  have HU:Hid (IntKind.u64.wrap i=Z.u i):=u64_wrap i
  have HI:=Z.u_in i
  go_enter Tryz.func97,Tryz.ntmps97
  go_wp2_with fail
  rw[HU.out]
  refine (clean_any _ _ HI.1 HI.2).mono ?_
  rintro e w1 ⟨rfl,rfl⟩
  go_wp2
  have HW:Hid (wrap64 (D.cl (Z.u i))=Z.sg (D.cl (Z.u i))):=wrap64_sg (D.cl_in HI)
  refine bodyPost_ret (v:=(Z.cl ⟨2,i,s⟩).v) (by simp[results,Tryz.results97,go_sem,HW.out,Z.cl,Z.V.v]) rfl ⟨rfl,?_⟩
  exact ((Below.refl _ _).alloc (Nat.le_refl _) _).alloc (by simp) _
 ·go_enter Tryz.func97,Tryz.ntmps97
  go_wp2
  refine bodyPost_ret (v:=(Z.cl ⟨k,i,s⟩).v) (by simp[results,Tryz.results97,go_sem,Z.cl,Z.V.v,h]) rfl ⟨rfl,?_⟩
  exact ((Below.refl _ _).alloc (Nat.le_refl _) _).alloc (by simp) _
theorem cv_kind {ak ai bk bi:Int} {az bz:ByteArray} (h:ak≠bk):Z.cv ⟨ak,ai,az⟩ ⟨bk,bi,bz⟩=Z.ci ak bk:=by unfold Z.cv;rw[if_neg h]
theorem cv_int {ai bi:Int} {az bz:ByteArray}:Z.cv ⟨1,ai,az⟩ ⟨1,bi,bz⟩=Z.ci ai bi:=by unfold Z.cv;rw[if_pos rfl,if_pos rfl]
theorem cv_float {ai bi:Int} {az bz:ByteArray}:Z.cv ⟨2,ai,az⟩ ⟨2,bi,bz⟩=D.cp (Z.u ai) (Z.u bi):=by unfold Z.cv;rw[if_pos rfl,if_neg (by simp),if_pos rfl]
theorem cv_text {ai bi:Int} {az bz:ByteArray}:Z.cv ⟨3,ai,az⟩ ⟨3,bi,bz⟩=Z.cs az bz:=by unfold Z.cv;rw[if_pos rfl,if_neg (by simp),if_neg (by simp),if_pos rfl]
theorem cv_else {k ai bi:Int} {az bz:ByteArray} (h1:k≠1) (h2:k≠2) (h3:k≠3):Z.cv ⟨k,ai,az⟩ ⟨k,bi,bz⟩=0:=by unfold Z.cv;rw[if_pos rfl,if_neg h1,if_neg h2,if_neg h3]
theorem ci_self (k:Int):Z.ci k k=0:=by unfold Z.ci;simp
theorem ci_ne {a b:Int} (h:a≠b):Z.ci a b≠0:=by rcases Z.ci_cases a b with ⟨h1,g1⟩|⟨h1,g1⟩|⟨h1,g1⟩<;>omega
theorem below_two (w:World) (a b:Obj):Below w.heap.size w ((w.alloc a).alloc b):=((Below.refl _ _).alloc (Nat.le_refl _) _).alloc (by simp) _
theorem vcompare_any (ak ai:Int) (az:ByteArray) (bk bi:Int) (bz:ByteArray) (w:World) :
  Calls Tryz.prog 68 #[.agg #[.int .i64 ak,.int .i64 ai,.string az],.agg #[.int .i64 bk,.int .i64 bi,.string bz]] w fun e w'=>e=.returned (.int .i64 (Z.cv ⟨ak,ai,az⟩ ⟨bk,bi,bz⟩))∧Below w.heap.size w w':=by
 by_cases hk:ak=bk
 ·subst hk
  have h0:=ci_self ak
  by_cases k1:ak=1
  ·subst k1
   go_enter Tryz.func68,Tryz.ntmps68
   go_wp2_with fail
   refine (cmpi_any _ _ _).mono ?_
   rintro e w1 ⟨rfl,rfl⟩
   rw[h0]
   clear h0
   go_wp2_with fail
   refine (cmpl_any _ _ _).mono ?_
   rintro e w2 ⟨rfl,rfl⟩
   go_wp2
   go_ret
   exact⟨by rw[cv_int];rfl,below_two _ _ _⟩
  ·by_cases k2:ak=2
   ·subst k2
    have HA:Hid (IntKind.u64.wrap ai=Z.u ai):=u64_wrap ai
    have HB:Hid (IntKind.u64.wrap bi=Z.u bi):=u64_wrap bi
    have HI:=Z.u_in ai
    have HJ:=Z.u_in bi
    go_enter Tryz.func68,Tryz.ntmps68
    go_wp2_with fail
    refine (cmpi_any _ _ _).mono ?_
    rintro e w1 ⟨rfl,rfl⟩
    rw[h0]
    clear h0
    go_wp2_with fail
    rw[HA.out,HB.out]
    refine (compare_any _ _ _ HI.1 HI.2 HJ.1 HJ.2).mono ?_
    rintro e w2 ⟨rfl,rfl⟩
    go_wp2
    go_ret
    exact⟨by rw[cv_float];rfl,below_two _ _ _⟩
   ·by_cases k3:ak=3
    ·subst k3
     go_enter Tryz.func68,Tryz.ntmps68
     go_wp2_with fail
     refine (cmpi_any _ _ _).mono ?_
     rintro e w1 ⟨rfl,rfl⟩
     rw[h0]
     clear h0
     go_wp2_with fail
     refine (strcmp_any _ _ _).mono ?_
     rintro e w2 ⟨rfl,rfl⟩
     go_wp2
     go_ret
     exact⟨by rw[cv_text];rfl,below_two _ _ _⟩
    ·go_enter Tryz.func68,Tryz.ntmps68
     go_wp2_with fail
     refine (cmpi_any _ _ _).mono ?_
     rintro e w1 ⟨rfl,rfl⟩
     rw[h0]
     clear h0
     go_wp2
     go_ret
     exact⟨by rw[cv_else k1 k2 k3];rfl,below_two _ _ _⟩
 ·have h0:=ci_ne hk
  have HV:Hid (Z.cv ⟨ak,ai,az⟩ ⟨bk,bi,bz⟩=Z.ci ak bk):=cv_kind hk
  go_enter Tryz.func68,Tryz.ntmps68
  go_wp2_with fail
  refine (cmpi_any _ _ _).mono ?_
  rintro e w1 ⟨rfl,rfl⟩
  obtain⟨c,hc⟩:∃ c,Z.ci ak bk=c:=⟨_,rfl⟩
  rw[hc] at h0 HV ⊢
  clear hc
  go_wp2
  go_ret
  exact⟨by rw[HV.out];rfl,below_two _ _ _⟩
theorem fields_of {P:Program} {t:TypeId} {fs:Array Field} (h:P.underlying t=some (.struct fs)):P.fieldsOf t=fs:=by unfold Program.fieldsOf;rw[h]
def Z.same (x y:Z.V):Bool:=(x.k==y.k)&&((x.i==y.i)&&(x.s.toList==y.s.toList))
theorem Z.same_iff (x y:Z.V):Z.same x y=true↔x=y:=by
 obtain⟨ak,ai,az⟩:=x
 obtain⟨bk,bi,bz⟩:=y
 unfold Z.same
 simp only[Bool.and_eq_true,beq_iff_eq,ByteArray.toList_eq]
 constructor
 ·rintro⟨rfl,rfl,h⟩
  rw[Z.ba_eq h]
 ·intro h
  injection h with h1 h2 h3
  exact⟨h1,h2,by rw[h3]⟩
theorem Z.same_self (x:Z.V):Z.same x x=true:=(Z.same_iff x x).2 rfl
theorem veq_in (ak ai:Int) (az:ByteArray) (bk bi:Int) (bz:ByteArray) (w:World) :
  (Op.equalIn 10000 25 (.agg #[.int .i64 ak,.int .i64 ai,.string az]) (.agg #[.int .i64 bk,.int .i64 bi,.string bz])).run Tryz.prog w=.ok (Z.same ⟨ak,ai,az⟩ ⟨bk,bi,bz⟩) w:=by
 have h2:Tryz.prog.stoodInHeld 25=false:=by kernel_rfl
 have hf:=fields_of Tryz.underlying25
 rw[run_equalIn_struct w 9999 25 _ _ (by rw[hf];exact Tryz.underlying25) h2,hf]
 unfold Z.same
 cases h1:(ak==bk)<;>cases h2:(ai==bi)<;>cases h3:(az.toList==bz.toList)<;>simp[go_sem,Op.eqFields,Tryz.underlying3,Tryz.underlying2,Tryz.underlying9,h1,h2,h3]
 all_goals simpa using h3
theorem veq_run (ak ai:Int) (az:ByteArray) (bk bi:Int) (bz:ByteArray) (w:World) :
  (binOp .eql 25 (.agg #[.int .i64 ak,.int .i64 ai,.string az]) (.agg #[.int .i64 bk,.int .i64 bi,.string bz])).run Tryz.prog w=.ok (.bool (Z.same ⟨ak,ai,az⟩ ⟨bk,bi,bz⟩)) w:=by
 rw[run_eql_struct,veq_in];rfl
theorem vne_run (ak ai:Int) (az:ByteArray) (bk bi:Int) (bz:ByteArray) (w:World) :
  (binOp .neq 25 (.agg #[.int .i64 ak,.int .i64 ai,.string az]) (.agg #[.int .i64 bk,.int .i64 bi,.string bz])).run Tryz.prog w=.ok (.bool (!Z.same ⟨ak,ai,az⟩ ⟨bk,bi,bz⟩)) w:=by
 rw[run_neq_struct,veq_in];rfl
theorem below_one (w:World) (a:Obj):Below w.heap.size w (w.alloc a):=(Below.refl _ _).alloc (Nat.le_refl _) _
theorem bthen {a b c:World} (h:Below a.heap.size a b) (k:Below b.heap.size b c):Below a.heap.size a c:=h.trans (k.mono h.size)
theorem val_kept {w w1:World} {b:Nat} {x y z:Value} {t:TypeId} {fr:Nat × Nat} (h:w.heap[b]?=some (.cells #[x,y,z] t fr)) (hb:Below w.heap.size w w1) :
  w1.cell? ⟨b,0,none⟩=some x∧w1.cell? ⟨b,1,none⟩=some y∧w1.cell? ⟨b,2,none⟩=some z:=by
 have h1:w1.heap[b]?=some (.cells #[x,y,z] t fr):=by rw[hb.block b (lt_of_block h)];exact h
 simp[World.cell?,h1]
def At (w:World) (b:Nat) (k i:Int) (s:ByteArray):Prop:=w.heap[b]?=some (.cells #[.int .i64 k,.int .i64 i,.string s] 25 (0,0))
theorem At.below {w w':World} {b:Nat} {k i:Int} {s:ByteArray} (h:At w b k i s) (hb:Below w.heap.size w w'):At w' b k i s:=by
 unfold At at *;rw[hb.block b (lt_of_block h)];exact h
theorem At.cells {w:World} {b:Nat} {k i:Int} {s:ByteArray} (h:At w b k i s):w.cell? ⟨b,0,none⟩=some (.int .i64 k)∧w.cell? ⟨b,1,none⟩=some (.int .i64 i)∧w.cell? ⟨b,2,none⟩=some (.string s):=by
 unfold At at h;simp[World.cell?,h]
theorem At.thawed {w:World} {b:Nat} {k i:Int} {s:ByteArray} (h:At w b k i s):w.frozen? ⟨b,0,none⟩=false∧w.frozen? ⟨b,1,none⟩=false∧w.frozen? ⟨b,2,none⟩=false:=by
 unfold At at h;simp[World.frozen?,h]
theorem At.new (w:World) (k i:Int) (s:ByteArray):At (w.alloc (.cells #[.int .i64 k,.int .i64 i,.string s] 25)) w.heap.size k i s:=heap_alloc_new w _
theorem At.alloc {w:World} {b:Nat} {k i:Int} {s:ByteArray} (h:At w b k i s) (o:Obj):At (w.alloc o) b k i s:=by
 unfold At at *;rw[Below.heap_alloc _ _ _ (lt_of_block h)];exact h
def SlV (w:World) (ao:Option Addr) (len cap:Nat) (l:List Z.V):Prop :=
 l.length=len∧len≤cap∧cap≤maxLen∧(ao=none→cap=0)∧(len=0∨∃ b off,ao=some ⟨b,off,none⟩∧b<w.heap.size∧∀ j x,l[j]?=some x→w.cell? ⟨b,off+j*3,none⟩=some (.int .i64 x.k)∧w.cell? ⟨b,off+j*3+1,none⟩=some (.int .i64 x.i)∧w.cell? ⟨b,off+j*3+2,none⟩=some (.string x.s))
theorem SlV.below {w w':World} {ao:Option Addr} {len cap:Nat} {l:List Z.V} (h:SlV w ao len cap l) (hb:Below w.heap.size w w'):SlV w' ao len cap l:=by
 obtain⟨h1,h2,h3,h4,h5⟩:=h
 refine⟨h1,h2,h3,h4,?_⟩
 rcases h5 with h5|⟨b,off,rfl,hlt,h5⟩
 ·exact .inl h5
 ·refine .inr ⟨b,off,rfl,by have:=hb.size;omega,fun j x hx=>?_⟩
  rw[hb.cell (p:=⟨b,off+j*3,none⟩) hlt,hb.cell (p:=⟨b,off+j*3+1,none⟩) hlt,hb.cell (p:=⟨b,off+j*3+2,none⟩) hlt]
  exact h5 j x hx
def cellsV (l:List Z.V):List Value:=l.flatMap fun x=>[.int .i64 x.k,.int .i64 x.i,.string x.s]
theorem cellsV_cons (x:Z.V) (l:List Z.V):cellsV (x :: l)=.int .i64 x.k :: .int .i64 x.i :: .string x.s :: cellsV l:=rfl
theorem cellsV_length:∀ l:List Z.V,(cellsV l).length=l.length*3
 | []=>rfl
 | x :: l=>by rw[cellsV_cons];simp[cellsV_length l];omega
theorem cellsV_append (a b:List Z.V):cellsV (a++b)=cellsV a++cellsV b:=by simp[cellsV]
theorem cellsV_get:∀ (l:List Z.V) (j:Nat) (x:Z.V),l[j]?=some x→(cellsV l)[j*3]?=some (.int .i64 x.k)∧(cellsV l)[j*3+1]?=some (.int .i64 x.i)∧(cellsV l)[j*3+2]?=some (.string x.s)
 | [],j,x,h=>by simp at h
 | y :: l,0,x,h=>by
  simp at h;subst h
  rw[cellsV_cons];simp
 | y :: l,j+1,x,h=>by
  simp at h
  have:=cellsV_get l j x h
  rw[cellsV_cons,show (j+1)*3=j*3+1+1+1 by omega,show j*3+1+1+1+1=(j*3+1)+1+1+1 by omega,show j*3+1+1+1+2=(j*3+2)+1+1+1 by omega]
  simpa using this
theorem cellsV_one (l:List Z.V):∀ u∈cellsV l,u.oneCell'=true:=by
 intro u hu
 obtain⟨x,_,hx⟩:=List.mem_flatMap.1 hu
 simp at hx
 rcases hx with rfl|rfl|rfl<;>rfl
theorem SlV.news {w:World} {ao:Option Addr} {len cap:Nat} {l:List Z.V} (h:SlV w ao len cap l):∀ ad,ao=some ad→∀ j u,(cellsV l)[j]?=some u→w.cell? (ad.add j)=some u:=by
 obtain⟨h1,h2,h3,h4,h5⟩:=h
 intro ad had j u hu
 have hj:j<l.length*3:=by have:=(List.getElem?_eq_some_iff.1 hu).1;rwa [cellsV_length] at this
 rcases h5 with h5|⟨b,off,hao,hlt,h5⟩
 ·omega
 ·rw[hao] at had
  obtain rfl:=Option.some.inj had
  rw[Addr.add_lit]
  obtain⟨x,hx⟩:∃ x,l[j / 3]?=some x:=⟨l[j / 3]'(by omega),List.getElem?_eq_getElem _⟩
  obtain⟨c0,c1,c2⟩:=h5 _ _ hx
  obtain⟨g0,g1,g2⟩:=cellsV_get l _ _ hx
  have hr:j=j / 3*3∨j=j / 3*3+1∨j=j / 3*3+2:=by omega
  rcases hr with hr|hr|hr
  ·rw[hr] at hu ⊢;rw[← hr] at hu;rw[hr] at hu;rw[g0] at hu;rw[← Option.some.inj hu];exact c0
  ·rw[hr] at hu ⊢;rw[← hr] at hu;rw[hr] at hu;rw[g1] at hu;rw[← Option.some.inj hu,← Nat.add_assoc];exact c1
  ·rw[hr] at hu ⊢;rw[← hr] at hu;rw[hr] at hu;rw[g2] at hu;rw[← Option.some.inj hu,← Nat.add_assoc];exact c2
def OwnV (w:World) (B:Nat) (v:Value) (l:List Z.V):Prop:=w.ownsRow B 25 3 v l.length (cellsV l)
theorem OwnV.below {w w':World} {B:Nat} {v:Value} {l:List Z.V} (h:OwnV w B v l) (hb:Below w.heap.size w w'):OwnV w' B v l:=owns_of_block h fun g hg=>hb.block g (owns_lt h hg).2
theorem SlV.of_own {w:World} {B:Nat} {v:Value} {l:List Z.V} (h:OwnV w B v l):∃ ao cap,v=.slice ao l.length cap∧SlV w ao l.length cap l∧v.ownBlock=ao.map (·.block):=by
 have h0:=h
 rcases h.2 with ⟨h1,h2⟩|⟨g,cap,cur,hv,hg,hh,hc,hm,_⟩
 ·have hl:l=[]:=List.eq_nil_of_length_eq_zero h2
  subst hl
  exact⟨none,0,h1,⟨rfl,Nat.le_refl _,by simp[maxLen],fun _=>rfl,.inl rfl⟩,by rw[h1];rfl⟩
 ·subst hv
  refine⟨some ⟨g,0,none⟩,cap,rfl,⟨rfl,hc,hm,by simp,.inr ⟨g,0,rfl,lt_of_block hh,fun j x hx=>?_⟩⟩,rfl⟩
  have hj:j<l.length:=(List.getElem?_eq_some_iff.1 hx).1
  obtain⟨g0,g1,g2⟩:=cellsV_get l _ _ hx
  have a0:=World.ownsRow.cellAt h0 (j*3) (by omega)
  have a1:=World.ownsRow.cellAt h0 (j*3+1) (by omega)
  have a2:=World.ownsRow.cellAt h0 (j*3+2) (by omega)
  rw[Nat.zero_add]
  exact⟨a0.trans g0,a1.trans g1,a2.trans g2⟩
theorem Tryz.infoVal:(Tryz.prog.info? 25).map (fun i=>(i.zero,i.size,i.bytes))=some (some (.agg #[.int .i64 0,.int .i64 0,.string ⟨#[]⟩]),3,32):=by kernel_rfl
theorem wpList_appV {w:World} {ops:Array Oper} {rest:List Oper} {o:Oper} {a:Act} {Q:Exit→Act→World→Prop} (hgd:o.guard=none) (s x:Operand)
  (ho:o.op=.call { callee:=.builtin .append,args:=#[s,x],argTypes:=#[42,42] })
  (base:Nat) (v:Value) (l:List Z.V) (hs:a.eval s=v) (hown:OwnV w base v l)
  (ao:Option Addr) (m c:Nat) (news:List Z.V) (hx:a.eval x=.slice ao m c) (hsl:SlV w ao m c news) (hlim:(l.length+m)*32≤140737488355328) (hbase:base≤w.heap.size)
  (h:∀ v' w',OwnV w' base v' (l++news)→AS w v w' v'→(∀ an cn,v=.slice an l.length cn→SlV w' an l.length cn l)→wpList Tryz.prog ops Q rest (a.put o.dst v') w'):wpList Tryz.prog ops Q (o :: rest) a w:=by
 obtain⟨i0,hi,hz0,hz1,hz2⟩:=info_parts Tryz.infoVal
 have hm:news.length=m:=hsl.1
 have hnl:(cellsV news).length=m*3:=by rw[cellsV_length,hm]
 have hnone:ao=none→m=0∧c=0:=fun e=>by have:=hsl.2.2.2.1 e;have:=hsl.2.1;omega
 have hsame:∀ an cn,v=.slice an l.length cn→SlV w an l.length cn l:=fun an cn e=>by
  obtain⟨a1,c1,e1,h1,_⟩:=SlV.of_own hown
  rw[e] at e1
  injection e1 with e1 e2 e3
  subst e1;subst e3;exact h1
 have hlist:∀ v' w',w'.ownsRow base 25 3 v' (l.length+m) (cellsV l++cellsV news)→OwnV w' base v' (l++news):=fun v' w' h1=>by
  unfold OwnV;rw[cellsV_append,List.length_append,hm];exact h1
 cases ao with
 | none =>
  obtain⟨rfl,rfl⟩:=hnone rfl
  have hn:news=[]:=List.eq_nil_of_length_eq_zero hm
  subst hn
  exact wpList_append_own_none hgd s x 42 ho base 25 i0 3 Tryz.underlying42 hi v l.length (cellsV l) hs hown hx (h v w (by rw[List.append_nil];exact hown) (AS.refl _ _) hsame)
 | some ad =>
  rcases hown.2 with ⟨hv,hn0⟩|⟨g,cap,cur,hv,hg,hh,hc,hmm,hcs,_⟩
  ·have hl0:l=[]:=List.eq_nil_of_length_eq_zero hn0
   subst hl0
   refine wpList_append_own w hgd s x 42 ho w.heap.size 25 i0 (.agg #[.int .i64 0,.int .i64 0,.string ⟨#[]⟩]) 3 32 Tryz.underlying42 hi hz0 hz1 hz2 rfl (by decide) v 0 [] hs (by rw[hv];exact World.ownsRow_nil _ _ _ _) ad m c (cellsV news) hx hnl (hsl.news ad rfl) (cellsV_one _) (by unfold maxLen;omega) (by simpa using hlim) (Nat.le_refl _) ?_
   intro v' w' ho' hg' _
   refine h v' w' (hlist v' w' ?_) ⟨(Kept.refl _ _).grown hg' fun k hk=>.inl hk,.inr fun k hk=>(owns_lt ho' hk).1⟩ (fun an cn e=>?_)
   ·have:=owns_base ho' (base':=base) fun g hg=>by have:=(owns_lt ho' hg).1;omega
    show w'.ownsRow base 25 3 v' (0+m) ([]++cellsV news)
    exact this
   ·rw[hv] at e
    injection e with e1 e2 e3
    subst e1;subst e3
    exact⟨rfl,Nat.le_refl _,by simp[maxLen],fun _=>rfl,.inl rfl⟩
  ·subst hv
   by_cases hroom:l.length+m≤cap
   ·refine wpList_append_fits w hgd s x 42 ho base 25 i0 3 Tryz.underlying42 hi hz1 g l.length cap (cellsV l) hs hown ad m c (cellsV news) hx hnl (hsl.news ad rfl) (cellsV_one _) hroom ?_
    intro w' ho' hg'
    refine h _ w' (hlist _ w' ho') ⟨(Kept.refl _ _).grown hg' fun k hk=>.inl hk,.inl rfl⟩ (fun an cn e=>?_)
    injection e with e1 e2 e3
    subst e1;subst e3
    obtain⟨_,_,_,h1,_⟩:=SlV.of_own hown
    refine⟨rfl,hc,hmm,by simp,.inr ⟨g,0,rfl,?_,fun j y hy=>?_⟩⟩
    ·have:=(owns_lt ho' (k:=g) rfl).2;exact this
    ·have hj:j<l.length:=(List.getElem?_eq_some_iff.1 hy).1
     obtain⟨g0,g1,g2⟩:=cellsV_get l _ _ hy
     have a0:=World.ownsRow.cellAt ho' (j*3) (by omega)
     have a1:=World.ownsRow.cellAt ho' (j*3+1) (by omega)
     have a2:=World.ownsRow.cellAt ho' (j*3+2) (by omega)
     have hl3:=cellsV_length l
     rw[List.getElem?_append_left (by omega)] at a0 a1 a2
     rw[Nat.zero_add]
     exact⟨a0.trans g0,a1.trans g1,a2.trans g2⟩
   ·refine wpList_append_grows w hgd s x 42 ho 25 i0 (.agg #[.int .i64 0,.int .i64 0,.string ⟨#[]⟩]) 3 32 Tryz.underlying42 hi hz0 hz1 hz2 rfl (by decide) (some ⟨g,0,none⟩) l.length cap (cellsV l) hs (by simp) hown.1 (fun b hb j u hu=>by obtain rfl:=Option.some.inj hb;exact hown.cells rfl j u hu) ad m c (cellsV news) hx hnl (hsl.news ad rfl) (cellsV_one _) (by omega) (by unfold maxLen;omega) hlim ?_
    intro v' w' ho' hg'
    have hbel:Below w.heap.size w w':=((Kept.refl (fun _=>False) w).grown hg' (by simp)).below (Nat.le_refl _) (by simp)
    exact h v' w' (hlist v' w' (owns_base ho' fun k hk=>by have:=(owns_lt ho' hk).1;omega)) ⟨(Kept.refl _ _).grown hg' (by simp),.inr fun k hk=>(owns_lt ho' hk).1⟩ (fun an cn e=>(hsame an cn e).below hbel)
theorem empty_of (s:ByteArray):s.toList.isEmpty=decide (s=⟨#[]⟩):=by
 rw[ByteArray.toList_eq]
 obtain⟨⟨x⟩⟩:=s
 cases x<;>simp
theorem may_float {i:Int} {s:ByteArray}:Z.may ⟨2,i,s⟩=(Z.same (Z.cl ⟨2,i,s⟩) ⟨2,i,s⟩&&s.toList.isEmpty):=by
 rw[empty_of];unfold Z.may Z.cl Z.same;simp;rfl
theorem may_int {i:Int} {s:ByteArray}:Z.may ⟨1,i,s⟩=s.toList.isEmpty:=by
 rw[empty_of];unfold Z.may;simp
theorem may_text {i:Int} {s:ByteArray}:Z.may ⟨3,i,s⟩=((i==0)&&decide ((s.size:Int)≤1024)):=by
 unfold Z.may;simp;cases h:decide (i=0)<;>simp_all;omega
theorem may_null {i:Int} {s:ByteArray}:Z.may ⟨0,i,s⟩=Z.same ⟨0,i,s⟩ ⟨0,0,⟨#[]⟩⟩:=by
 unfold Z.may Z.same
 rw[← empty_of,ByteArray.toList_eq]
 obtain⟨⟨x⟩⟩:=s
 cases x<;>simp[ByteArray.toList_eq]<;>rfl
theorem may_else {k i:Int} {s:ByteArray} (h0:k≠0) (h1:k≠1) (h2:k≠2) (h3:k≠3):Z.may ⟨k,i,s⟩=false:=by
 unfold Z.may;rw[if_neg h2,if_neg h1,if_neg h3,if_neg h0]
set_option maxHeartbeats 800000 in
theorem may_f (i:Int) (s:ByteArray) (w:World) (hi:Z.I64 i):Calls Tryz.prog 61 #[.agg #[.int .i64 2,.int .i64 i,.string s]] w fun e w'=>e=.returned (.bool (Z.may ⟨2,i,s⟩))∧Below w.heap.size w w':=by
 have HM:Hid (Z.may ⟨2,i,s⟩=(Z.same (Z.cl ⟨2,i,s⟩) ⟨2,i,s⟩&&s.toList.isEmpty)):=may_float
 have HC:Hid (∀ w,Calls Tryz.prog 97 #[.agg #[.int .i64 2,.int .i64 i,.string s]] w fun e w'=>e=.returned (Z.cl ⟨2,i,s⟩).v∧Below w.heap.size w w'):=fun w=>vclean_any 2 i s w hi
 obtain⟨c,hc⟩:∃ c,Z.cl ⟨2,i,s⟩=⟨2,c,s⟩:=⟨_,rfl⟩
 rw[hc] at HM HC
 clear hc
 have hq:=vne_run 2 c s 2 i s
 obtain⟨b,hb⟩:∃ b,Z.same ⟨2,c,s⟩ ⟨2,i,s⟩=b:=⟨_,rfl⟩
 rw[hb] at HM
 simp only[hb] at hq
 clear hb
 have hal:=heap_alloc_new w (.cells #[.int .i64 2,.int .i64 i,.string s] 25)
 go_enter Tryz.func61,Tryz.ntmps61
 go_wp2_with fail
 cases b with
 | true =>
  simp only[Bool.not_true] at hq
  go_region_with (go_at_call 97;refine (HC.out _).mono ?_;rintro e w1 ⟨rfl,hb1⟩;obtain⟨c0,c1,c2⟩:=val_kept (by exact hal) hb1;replace hb1:=hide hb1;simp only[Z.V.v])
  all_goals go_wp2
  all_goals go_ret
  all_goals exact⟨by rw[HM.out];rfl,bthen (below_one w _).drew hb1.out⟩
 | false =>
  simp only[Bool.not_false] at hq
  go_region_with (go_at_call 97;refine (HC.out _).mono ?_;rintro e w1 ⟨rfl,hb1⟩;obtain⟨c0,c1,c2⟩:=val_kept (by exact hal) hb1;replace hb1:=hide hb1;simp only[Z.V.v])
  all_goals go_wp2
  all_goals go_ret
  all_goals exact⟨by rw[HM.out];rfl,bthen (below_one w _).drew hb1.out⟩
theorem may_any (k i:Int) (s:ByteArray) (w:World) (hi:Z.I64 i):Calls Tryz.prog 61 #[.agg #[.int .i64 k,.int .i64 i,.string s]] w fun e w'=>e=.returned (.bool (Z.may ⟨k,i,s⟩))∧Below w.heap.size w w':=by
 by_cases k2:k=2
 ·subst k2
  exact may_f i s w hi
 ·by_cases k1:k=1
  ·subst k1
   have HM:Hid (Z.may ⟨1,i,s⟩=s.toList.isEmpty):=may_int
   go_enter Tryz.func61,Tryz.ntmps61
   go_wp2
   go_ret
   exact⟨by rw[HM.out];rfl,below_one _ _⟩
  ·by_cases k3:k=3
   ·subst k3
    have HM:Hid (Z.may ⟨3,i,s⟩=((i==0)&&decide ((s.size:Int)≤1024))):=may_text
    cases hi0:(i==0) with
    | true =>
     rw[hi0] at HM
     go_enter Tryz.func61,Tryz.ntmps61
     go_wp2
     go_ret
     exact⟨by rw[HM.out];rfl,below_one _ _⟩
    | false =>
     rw[hi0] at HM
     go_enter Tryz.func61,Tryz.ntmps61
     go_wp2
     go_ret
     exact⟨by rw[HM.out];rfl,below_one _ _⟩
   ·by_cases k0:k=0
    ·subst k0
     have HM:Hid (Z.may ⟨0,i,s⟩=Z.same ⟨0,i,s⟩ ⟨0,0,⟨#[]⟩⟩):=may_null
     have hq:=veq_run 0 i s 0 0 ⟨#[]⟩
     obtain⟨b,hb⟩:∃ b,Z.same ⟨0,i,s⟩ ⟨0,0,⟨#[]⟩⟩=b:=⟨_,rfl⟩
     rw[hb] at HM
     simp only[hb] at hq
     clear hb
     go_enter Tryz.func61,Tryz.ntmps61
     go_wp2
     go_ret
     exact⟨by rw[HM.out];rfl,below_one _ _⟩
    ·have HM:Hid (Z.may ⟨k,i,s⟩=false):=may_else k0 k1 k2 k3
     go_enter Tryz.func61,Tryz.ntmps61
     go_wp2
     go_ret
     exact⟨by rw[HM.out];rfl,below_one _ _⟩
theorem or_at (a b J:Nat) (ha:a<2^J) (hb:b*2^J<18446744073709551616) (hJ:J<64) :
  bits .or .u64 (a:Int) (IntKind.u64.wrap ((b:Int)*2^J))=((a+2^J*b:Nat):Int):=by
 rw[u64_wrap,← pow_int,← Int.natCast_mul]
 have hp:2^J≤2^63:=Nat.pow_le_pow_right (by omega) (by omega)
 rw[show ((b*2^J:Nat):Int)%18446744073709551616=((b*2^J:Nat):Int) by omega]
 rw[u64_or_nat a (b*2^J) (by omega) (by omega),Nat.or_comm,nat_join J (b*2^J) a (by simp) ha,Nat.mul_comm b,Nat.add_comm]
theorem take_snocN (l:List Nat) (k:Nat) (h:k<l.length):l.take (k+1)=l.take k++[l.getD k 0]:=by
 rw[List.take_succ_eq_append_getElem h];simp[List.getD,h]
theorem get_step (l:List Nat) (j:Nat) (N c:Int) (hj:j<l.length) (hj9:j≤9) (hN:((E.val (l.take j):Nat):Int)=N) (hc:((l.getD j 0:Nat):Int)=c) (h9:j=9→c≤1) :
  bits .or .u64 N (IntKind.u64.wrap (c%128*2^(j*7)))=((E.val (l.take (j+1)):Nat):Int):=by
 have hl:(l.take j).length=j:=by simp;omega
 have hv:=E.val_lt (l.take j)
 rw[take_snocN l j hj,E.val_append,hl,← hN,← hc]
 rw[hl] at hv
 generalize l.getD j 0=x at *
 generalize E.val (l.take j)=a at *
 have hp:128^j=2^(j*7):=by rw[Nat.mul_comm,Nat.pow_mul]
 have hb:x%128*2^(j*7)<18446744073709551616:=by
  rcases Nat.lt_or_ge j 9 with h|h
  ·have h1:2^(j*7)≤2^56:=Nat.pow_le_pow_right (by omega) (by omega)
   have h2:x%128*2^(j*7)≤127*2^56:=Nat.mul_le_mul (by omega) h1
   omega
  ·obtain rfl:j=9:=by omega
   have h1:=h9 rfl
   have h2:x%128*2^(9*7)≤1*2^(9*7):=Nat.mul_le_mul_right _ (by omega)
   omega
 have h:=or_at a (x%128) (j*7) (by rw[← hp];exact hv) hb (by omega)
 rw[show (x:Int)%128=((x%128:Nat):Int) by omega,h,hp]
 simp only[E.val,Nat.mul_zero,Nat.add_zero]
def pan (k:Int):Ending:=.panicked [{ v:=.iface 31 (.int .i64 k),recovered:=false }]
set_option maxHeartbeats 400000 in
theorem get_zero (ao:Option Addr) (cap:Nat) (w:World) :
  Calls Tryz.prog 37 #[.slice ao 0 cap] w fun e w'=>e=pan 3∧w'=w:=by
 go_enter Tryz.func37,Tryz.ntmps37
 go_wp2_with fail
 go_loop [4,9] (fun n i=>n=.int .u64 0∧i=.int .i64 0) (fun _ _=>0)
 case atStart=>exact⟨rfl,rfl⟩
 case round =>
  obtain⟨rfl,rfl⟩:=hrel
  go_wp2
  exact⟨rfl,rfl,rfl⟩
set_option maxHeartbeats 1000000 in
theorem get_some (b off len cap:Nat) (l:List Nat) (w:World) (hl:l.length=len) (hm:len≤140737488355328) (hc:∀ i,i<len→w.cell? ⟨b,off+i,none⟩=some (.int .u8 ((l.getD i 0:Nat):Int))) (h256:∀ x∈l,x<256) :
  Calls Tryz.prog 37 #[.slice (some ⟨b,off,none⟩) len cap] w fun e w'=>((E.gE l=0∧e=.returned (.tuple #[.int .u64 ((E.gN l:Nat):Int),.int .i64 ((E.gK l:Nat):Int)]))∨(E.gE l≠0∧e=pan ((E.gE l:Nat):Int)))∧w'=w:=by
 have H2:=hide h256
 have HL:=hide hl
 clear h256 hl
 go_enter Tryz.func37,Tryz.ntmps37
 go_wp2_with fail
 go_loop [4,9] (fun n i=>∃ j:Nat,j≤9∧j≤len∧i=.int .i64 j∧(∀ t,t<j→128≤l.getD t 0)∧n=.int .u64 ((E.val (l.take j):Nat):Int)) (fun _ i=>len - (intOf i).toNat)
 case atStart=>exact⟨0,by omega,Nat.zero_le _,rfl,fun t ht=>by omega,rfl⟩
 case round =>
  obtain⟨j,hj9,hjl,rfl,hlead,rfl⟩:=hrel
  have HLe:=hide hlead
  clear hlead
  by_cases hlt:j<len
  ·have hck:=hc j hlt
   have hcl:=E.getD_lt H2.out j
   obtain⟨c,hce⟩:∃ c:Int,((l.getD j 0:Nat):Int)=c:=⟨_,rfl⟩
   have hc0:0≤c:=by omega
   have hc1:c<256:=by omega
   rw[hce] at hck
   have HC:=hide hce
   obtain⟨N,hN⟩:∃ N:Int,((E.val (l.take j):Nat):Int)=N:=⟨_,rfl⟩
   have hN0:0≤N:=by omega
   rw[hN]
   have HN:=hide hN
   have HJL:Hid (j<l.length):=by have:=HL.out;show _<_;omega
   have HI:Hid (c<128∨j=9→E.IsLead 9 l j):=fun h=>⟨hj9,Nat.le_of_lt HJL.out,HLe.out,h.elim (fun h=>.inr (.inr (by omega))) .inl⟩
   clear hc hce hcl hN
   by_cases h9:j=9
   ·have b9:((j:Int)==9)=true:=by simp;omega
    have HJ:=hide h9
    clear h9
    by_cases h1:1<c
    ·go_wp2
     have hg:=E.gE_form (HI.out (.inr HJ.out)) HJL.out (.inl ⟨HJ.out,by have:=HC.out;omega⟩)
     exact⟨rfl,.inr ⟨by rw[hg];decide,by rw[hg];rfl⟩,rfl⟩
    ·have hlt128:c<128:=by omega
     have hj0:0<j:=by have:=HJ.out;omega
     by_cases hz:c=0
     ·have bz:(c==0)=true:=by simpa using hz
      have HZ:=hide hz
      clear hz
      go_wp2
      have hg:=E.gE_form (HI.out (.inr HJ.out)) HJL.out (.inr ⟨by omega,by have:=HC.out;have:=HZ.out;omega⟩)
      exact⟨rfl,.inr ⟨by rw[hg];decide,by rw[hg];rfl⟩,rfl⟩
     ·have bz:(c==0)=false:=by simpa using hz
      have HZ:=hide hz
      clear hz
      have HS:=hide (get_step l j N c HJL.out hj9 HN.out HC.out (fun _=>by omega))
      go_wp2
      go_ret2
      obtain⟨e1,e2,e3⟩:=E.gE_ok (HI.out (.inr HJ.out)) HJL.out (fun _=>by have:=HC.out;omega) (fun _=>by have:=HC.out;have:=HZ.out;omega)
      exact⟨.inl ⟨e1,by rw[e2,e3,← HS.out];rfl⟩,rfl⟩
   ·have b9:((j:Int)==9)=false:=by simp;omega
    have HS:=hide (get_step l j N c HJL.out hj9 HN.out HC.out (fun h=>absurd h h9))
    by_cases h128:128≤c
    ·go_wp2
     go_round
     case rel =>
      refine⟨j+1,by omega,by omega,by go_num,fun t ht=>?_,by rw[HS.out]⟩
      rcases Nat.lt_or_ge t j with h|h
      ·exact HLe.out t h
      ·obtain rfl:t=j:=by omega
       have:=HC.out;omega
     case measure=>simp[intOf];omega
    ·have hlt128:c<128:=by omega
     by_cases hz:0<j∧c=0
     ·obtain⟨hz0,hz1⟩:=hz
      have bz:(c==0)=true:=by simp;omega
      have HZ:=hide hz1
      clear hz1
      go_wp2
      have hg:=E.gE_form (HI.out (.inl hlt128)) HJL.out (.inr ⟨hz0,by have:=HC.out;have:=HZ.out;omega⟩)
      exact⟨rfl,.inr ⟨by rw[hg];decide,by rw[hg];rfl⟩,rfl⟩
     ·have bz:0<j→(c==0)=false:=fun h=>by simp;omega
      have HZ:Hid (0<j→c≠0):=fun h e=>hz ⟨h,e⟩
      clear hz
      by_cases hj0:0<j
      all_goals
       first|(replace bz:=bz hj0)|clear bz
       go_wp2
       go_ret2
       obtain⟨e1,e2,e3⟩:=E.gE_ok (HI.out (.inl hlt128)) HJL.out (fun h=>absurd h h9) (fun h=>by have:=HC.out;have:=HZ.out h;omega)
       exact⟨.inl ⟨e1,by rw[e2,e3,← HS.out];rfl⟩,rfl⟩
  ·have HI:Hid (E.IsLead 9 l j):=⟨hj9,by have:=HL.out;omega,HLe.out,.inr (.inl (by have:=HL.out;omega))⟩
   clear hc
   go_wp2
   have hg:=E.gE_short HI.out (by have:=HL.out;omega)
   exact⟨rfl,.inr ⟨by rw[hg];decide,by rw[hg];rfl⟩,rfl⟩
theorem get_in (ao:Option Addr) (len cap:Nat) (l:List Nat) (w:World) (h:Sl w .u8 ao len cap (ints l)) (h256:∀ x∈l,x<256) (hm:len≤140737488355328) :
  Calls Tryz.prog 37 #[.slice ao len cap] w fun e w'=>((E.gE l=0∧e=.returned (.tuple #[.int .u64 ((E.gN l:Nat):Int),.int .i64 ((E.gK l:Nat):Int)]))∨(E.gE l≠0∧e=pan ((E.gE l:Nat):Int)))∧w'=w:=by
 obtain⟨h1,h2,h3,h4,h5⟩:=h
 rw[ints_length] at h1
 by_cases h0:len=0
 ·subst h0
  obtain rfl:l=[]:=List.eq_nil_of_length_eq_zero h1
  refine (get_zero ao cap w).mono ?_
  rintro e w' ⟨rfl,rfl⟩
  exact⟨.inr ⟨by decide,rfl⟩,rfl⟩
 ·rcases h5 with h5|⟨b,off,rfl,hlt,h5⟩
  ·omega
  ·exact get_some b off len cap l w h1 hm (fun i hi=>by rw[h5 i hi,ints_getD]) h256
end Go.Proofs.YtnkpgmibhpmdhaaGreat

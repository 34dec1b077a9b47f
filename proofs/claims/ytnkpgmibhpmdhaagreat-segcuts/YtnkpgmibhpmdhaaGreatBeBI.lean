/- Contracts and plain facts, one behind the other: GG MN -/
import Derived.Test.YtnkpgmibhpmdhaaGreatBeBH
namespace Go.Proofs.YtnkpgmibhpmdhaaGreat
set_option linter.unusedVariables false
set_option maxRecDepth 10000
open Go.RowKit
theorem fb_one {b : List Nat} (h : E.gE b = 0) (h256 : ∀ x ∈ b, x < 256) : E.leb (E.gN b) ++ Z.fb b = b := by
  rw [E.g_ones h h256]
  unfold Z.fb
  exact List.take_append_drop _ _
theorem ofL_two {l : List Nat} {n : Nat} (hn : n ≤ 4096) (h256 : ∀ x ∈ l, x < 256) (hj : jb l n = 0) : A.bytesOf (ofL l (n : Int)) = l ∧ (ofL l (n : Int)).length = n := by
  have h1 : unpL l (n : Int) 1 = nums l n 1 := (unp_of (M := 1) l hn (by omega)).2 (by rw [Nat.mul_one]; exact hj)
  have ho : ones (ofL l (n : Int)) = nums l n 1 := by
    unfold ones ofL
    rw [h1, List.map_map]
    conv => rhs; rw [← List.map_id (nums l n 1)]
    apply List.map_congr_left
    intro x hx
    have hf := (In64_nums l n 1 (by omega)).2 x hx
    have h0 := ((In64_nums l n 1 (by omega)).1 x hx).1
    have h2 : x < 2 := by simpa using hf
    have : x = 0 ∨ x = 1 := by omega
    rcases this with rfl | rfl <;> rfl
  refine ⟨?_, by rw [ofL_length, h1, nums_length]⟩
  have h2 := ones_bits (ofL l (n : Int))
  rw [← h2, ho]
  exact bytes_nums l n 1 h256 (by rw [Nat.mul_one]; exact hj)
theorem nul_two {rows nulls : Nat} {b : List Nat} (hr : rows ≤ 4096) (h256 : ∀ x ∈ b, x < 256) (h : Z.nE rows nulls b = 0) : A.bytesOf (Z.nL rows nulls b) ++ Z.nR rows nulls b = b ∧ (Z.nL rows nulls b = [] ∨ (Z.nL rows nulls b).length = rows) := by
  unfold Z.nE at h
  unfold Z.nL Z.nR
  by_cases h0 : nulls = 0
  · rw [if_pos h0, if_pos h0]
    exact ⟨rfl, .inl rfl⟩
  · rw [if_neg h0] at h
    rw [if_neg h0, if_neg h0]
    by_cases h1 : b.length < (rows + 7) / 8
    · rw [if_pos h1] at h; cases h
    · rw [if_neg h1] at h
      obtain ⟨h2, h3⟩ := ofL_two hr (fun x hx => h256 x (List.mem_of_mem_take hx)) h
      rw [h2]
      exact ⟨List.take_append_drop _ _, .inr h3⟩
theorem one_two {k : Int} (hk : k = 1 ∨ k = 2 ∨ k = 3) {b : List Nat} (h256 : ∀ x ∈ b, x < 256) (h : Z.oE b k = 0) : Z.bl (Z.oV b k) ++ Z.oR b k = b := by
  have h1 : Z.pE k 1 b = 0 := by unfold Z.pE; rw [if_pos h]; rfl
  obtain ⟨h2, h3⟩ := p_two hk 1 b h256 h1
  have h4 : Z.may (Z.oV b k) = true := (h2 (Z.oV b k) (by simp [Z.pL])).2
  rw [bl_may h4]
  have h5 : Z.pb (Z.pL k 1 b) = Z.lb (Z.oV b k) := by simp [Z.pL, Z.pb]
  rw [h5] at h3
  exact h3
theorem ends_two {k : Int} (hk : k = 1 ∨ k = 2 ∨ k = 3) {rows nulls : Nat} {b : List Nat} (h256 : ∀ x ∈ b, x < 256) (h : Z.zE k rows nulls b = 0) : Z.bl (Z.zMn k rows nulls b) ++ (Z.bl (Z.zMx k rows nulls b) ++ Z.zR k rows nulls b) = b := by
  unfold Z.zE at h
  unfold Z.zMn Z.zMx Z.zR
  by_cases hl : nulls < rows
  · rw [if_pos hl] at h
    rw [if_pos hl, if_pos hl, if_pos hl]
    by_cases h1 : Z.oE b k = 0
    · rw [if_neg (by omega)] at h
      rw [one_two hk (oR_lt h256 k) h, one_two hk h256 h1]
    · rw [if_pos h1] at h; exact absurd h h1
  · rw [if_neg hl, if_neg hl, if_neg hl, bl_z0]
    rfl
structure Z.Parts (b : List Nat) : Prop where
  n1 : E.gE b = 0
  n2 : E.gE (Z.fb b) = 0
  n3 : E.gE (Z.fb (Z.fb b)) = 0
  n4 : E.gE (Z.fb (Z.fb (Z.fb b))) = 0
  kind : Z.kindOk (Z.rk b) = true
  rows : Z.rr' b ≤ 4096
  nulls : Z.rn b ≤ Z.rr' b
  places : Z.nE (Z.rr' b) (Z.rn b) (Z.r4 b) = 0
  ends : Z.zE (Z.rk b) (Z.rr' b) (Z.rn b) (Z.r5 b) = 0
theorem sB_read {b : List Nat} (h256 : ∀ x ∈ b, x < 256) (h : Z.Parts b) : Z.sB (Z.rS b) = b ∧ ((Z.rS b).ns = [] ∨ (Z.rS b).ns.length = (Z.rS b).rows) := by
  obtain ⟨p1, p2⟩ := nul_two h.rows (r4_lt h256) h.places
  refine ⟨?_, by simp only [Z.rS]; exact p2⟩
  have e := ends_two (kind_is h.kind) (r5_lt h256) h.ends
  have e1 : (Z.rk b).toNat = E.gN b := by unfold Z.rk; omega
  have e2 : (Z.rc b).toNat = E.gN (Z.fb b) := by unfold Z.rc; omega
  have e3 : Z.rr' b = E.gN (Z.fb (Z.fb b)) := rfl
  have e4 : Z.rn b = E.gN (Z.fb (Z.fb (Z.fb b))) := rfl
  have e5 : Z.r5 b = Z.nR (Z.rr' b) (Z.rn b) (Z.r4 b) := rfl
  have e6 : Z.r4 b = Z.fb (Z.fb (Z.fb (Z.fb b))) := rfl
  have e0 : Z.sB (Z.rS b) = E.leb (Z.rk b).toNat ++ (E.leb (Z.rc b).toNat ++ (E.leb (Z.rr' b) ++ (E.leb (Z.rn b) ++ (A.bytesOf (Z.nL (Z.rr' b) (Z.rn b) (Z.r4 b)) ++ (Z.bl (Z.zMn (Z.rk b) (Z.rr' b) (Z.rn b) (Z.r5 b)) ++ (Z.bl (Z.zMx (Z.rk b) (Z.rr' b) (Z.rn b) (Z.r5 b)) ++ Z.zR (Z.rk b) (Z.rr' b) (Z.rn b) (Z.r5 b))))))) := by simp only [Z.sB, Z.rS]
  rw [e0, e, e5, p1, e6, e1, e2, e3, e4, fb_one h.n4 (fb_lt (fb_lt (fb_lt h256))), fb_one h.n3 (fb_lt (fb_lt h256)), fb_one h.n2 (fb_lt h256), fb_one h.n1 h256]
theorem join_oth : ∀ (ns : List Bool) (l : List Z.V), (∀ x ∈ l, (x.k == 0) = false) → l.length + cntT ns = ns.length → oth (joinV ns l) = l ∧ (joinV ns l).length = ns.length
  | [], l, _, hl => by
    have h0 : cntT [] = 0 := rfl
    have h1 : ([] : List Bool).length = 0 := rfl
    obtain rfl : l = [] := List.eq_nil_of_length_eq_zero (by omega)
    exact ⟨rfl, rfl⟩
  | true :: ns, l, hk, hl => by
    have hc : cntT (true :: ns) = cntT ns + 1 := by unfold cntT; simp
    obtain ⟨h1, h2⟩ := join_oth ns l hk (by simp at hl; omega)
    rw [joinV]
    refine ⟨?_, by simp [h2]⟩
    have : oth (Z.z0 :: joinV ns l) = oth (joinV ns l) := by unfold oth; rw [List.filter_cons]; rfl
    rw [this, h1]
  | false :: ns, [], hk, hl => by
    have hc : cntT (false :: ns) = cntT ns := by unfold cntT; simp
    have : cntT ns ≤ ns.length := by unfold cntT; exact List.count_le_length
    simp at hl
    omega
  | false :: ns, x :: l, hk, hl => by
    have hc : cntT (false :: ns) = cntT ns := by unfold cntT; simp
    obtain ⟨h1, h2⟩ := join_oth ns l (fun y hy => hk y (by simp [hy])) (by simp at hl; omega)
    rw [joinV]
    refine ⟨?_, by simp [h2]⟩
    have hx := hk x (by simp)
    have : oth (x :: joinV ns l) = x :: oth (joinV ns l) := by unfold oth; rw [List.filter_cons, hx]; rfl
    show oth (x :: joinV ns l) = x :: l
    rw [this, h1]
theorem vals_make {s : Z.S} (hk : Z.kindOk s.k = true) (h256 : ∀ x ∈ s.bd, x < 256) (hr : s.rows ≤ 4096) (hns : s.ns = [] ∨ s.ns.length = s.rows) (h : Z.vE s = 0) :
    Z.mE (Z.vL s) s.k s.c = 0 ∧ 1 ≤ s.c ∧ s.c ≤ 4 ∧ (Z.vL s).length ≤ 4096 := by
  have hk0 : s.k ≠ 0 := by have := kind_is hk; omega
  by_cases hg : Z.gE s.bd ((s.rows : Int) - (cntT s.ns : Int)) s.k s.c = 0
  · have hc : 1 ≤ s.c ∧ s.c ≤ 4 := by have := gE_codec hg; omega
    obtain ⟨N, h1, h2, h3, _⟩ := body_two h256 hg
    have hx : ∀ x ∈ Z.gL s.bd ((s.rows : Int) - (cntT s.ns : Int)) s.k s.c, (x.k == 0) = false := fun x hx => by
      rw [(gL_wf h256 hg x hx).2]; simpa using hk0
    unfold Z.vE at h
    rw [if_neg (by omega)] at h
    have hfin : ∀ L : List Z.V, Z.vL s = L → oth L = Z.gL s.bd ((s.rows : Int) - (cntT s.ns : Int)) s.k s.c → L.length ≤ 4096 → Z.mE (Z.vL s) s.k s.c = 0 ∧ 1 ≤ s.c ∧ s.c ≤ 4 ∧ (Z.vL s).length ≤ 4096 := fun L e1 e2 e3 => by
      rw [e1]
      refine ⟨of_made ⟨by rw [e2]; exact bE_chk h3, e3, by rw [e2, cc_again (by omega)]; exact h3⟩, hc.1, hc.2, e3⟩
    by_cases h0 : s.ns = []
    · refine hfin _ (by unfold Z.vL; rw [if_neg (by omega), if_pos h0]) ?_ ?_
      · unfold oth
        exact List.filter_eq_self.2 fun x hm => by rw [hx x hm]; rfl
      · rw [h2]; rw [h0] at h1; have : cntT [] = 0 := rfl; omega
    · rw [if_neg h0] at h
      have hok : joinOk s.ns (Z.gL s.bd ((s.rows : Int) - (cntT s.ns : Int)) s.k s.c) = true := by
        unfold joinE at h
        cases hj : joinOk s.ns (Z.gL s.bd ((s.rows : Int) - (cntT s.ns : Int)) s.k s.c) with
        | true => rfl
        | false => rw [hj] at h; simp at h
      have hlen : s.ns.length = s.rows := by
        rcases hns with e | e
        · exact absurd e h0
        · exact e
      obtain ⟨j1, j2⟩ := join_oth s.ns _ hx (by rw [h2, hlen]; have : cntT s.ns ≤ s.ns.length := by unfold cntT; exact List.count_le_length
                                                omega)
      refine hfin _ (by unfold Z.vL; rw [if_neg (by omega), if_neg h0]; unfold joinL; rw [hok, if_pos rfl]) j1 ?_
      rw [j2, hlen]; exact hr
  · unfold Z.vE at h
    rw [if_pos hg] at h
    exact absurd h hg
def Z.IsM (s : Z.S) : Prop := Z.vE s = 0 ∧ Z.mS (Z.vL s) s.k s.c = s
theorem rS_bd_lt {b : List Nat} (h256 : ∀ x ∈ b, x < 256) : ∀ x ∈ (Z.rS b).bd, x < 256 := by
  intro x hx
  simp only [Z.rS] at hx
  exact zR_lt (r5_lt h256) (Z.rk b) (Z.rr' b) (Z.rn b) x hx
theorem rE_parts {b : List Nat} (h : Z.Parts b) : Z.rE b = if Z.vE (Z.rS b) ≠ 0 then 4 else if Z.rc b = 0 ∨ Z.mE (Z.vL (Z.rS b)) (Z.rk b) (Z.rc b) ≠ 0 ∨ Z.sB (Z.mS (Z.vL (Z.rS b)) (Z.rk b) (Z.rc b)) ≠ b then 4 else 0 := by
  have hn := h.nulls
  have hr := h.rows
  have g1 := h.n1
  have g2 := h.n2
  have g3 := h.n3
  have g4 := h.n4
  have g5 := h.places
  have g6 := h.ends
  unfold Z.rE
  rw [if_neg (by omega), if_neg (by omega), if_neg (by omega), if_neg (by omega), if_neg (by rw [h.kind]; rintro (e | e | e) <;> first | omega | cases e), if_neg (by omega), if_neg (by omega)]
theorem isM_read {b : List Nat} (h256 : ∀ x ∈ b, x < 256) (h : Z.Parts b) : (Z.IsM (Z.rS b) → Z.rE b = 0) ∧ (¬ Z.IsM (Z.rS b) → Z.rE b = 4) := by
  have e := rE_parts h
  obtain ⟨s1, s2⟩ := sB_read h256 h
  constructor
  · rintro ⟨v1, v2⟩
    obtain ⟨m1, m2, _, _⟩ := vals_make (s := Z.rS b) h.kind (rS_bd_lt h256) h.rows s2 v1
    rw [e, if_neg (by omega), if_neg]
    rintro (e1 | e1 | e1)
    · have : (Z.rS b).c = Z.rc b := rfl
      omega
    · exact e1 m1
    · apply e1
      have v2' : Z.mS (Z.vL (Z.rS b)) (Z.rk b) (Z.rc b) = Z.rS b := v2
      rw [v2']; exact s1
  · intro hn
    rw [e]
    by_cases v1 : Z.vE (Z.rS b) = 0
    · rw [if_neg (by omega)]
      by_cases g : Z.rc b = 0 ∨ Z.mE (Z.vL (Z.rS b)) (Z.rk b) (Z.rc b) ≠ 0 ∨ Z.sB (Z.mS (Z.vL (Z.rS b)) (Z.rk b) (Z.rc b)) ≠ b
      · rw [if_pos g]
      · exfalso
        have r0 : Z.rE b = 0 := by rw [e, if_neg (by omega), if_neg g]
        exact hn ⟨v1, read_same h256 (rE_read r0)⟩
    · rw [if_pos v1]
end Go.Proofs.YtnkpgmibhpmdhaaGreat
namespace Go.Proofs.YtnkpgmibhpmdhaaGreat
set_option linter.unusedVariables false
set_option maxRecDepth 10000
open Go.RowKit Go.Sort
def Z.cap (n:Nat):Nat:=min n 4097
def Z.hE (b:List Nat):Int :=
 if E.gE b≠0 then ((E.gE b:Nat):Int) else if E.gE (Z.fb b)≠0 then ((E.gE (Z.fb b):Nat):Int) else if E.gE (Z.fb (Z.fb b))≠0 then ((E.gE (Z.fb (Z.fb b)):Nat):Int) else if E.gE (Z.fb (Z.fb (Z.fb b)))≠0 then ((E.gE (Z.fb (Z.fb (Z.fb b))):Nat):Int) else
 if Z.kindOk (Z.rk b)=false∨4096<Z.rr' b∨Z.rr' b<Z.rn b then 4 else 0
def segH (k c r n:Nat):Array Value:=#[.int .i64 (k:Int),.int .i64 (c:Int),.int .i64 (r:Int),.int .i64 (n:Int),.int .i64 0,.int .i64 0,.string ⟨#[]⟩,.int .i64 0,.int .i64 0,.string ⟨#[]⟩,.slice none 0 0,.slice none 0 0]
theorem segH_one (k c r n:Nat):(segH k c r n).all (·.oneCell')=true:=by simp[segH,Value.oneCell']
def HeadAns (W:World) (b:List Nat) (w:World) (e:Ending) (w':World):Prop :=
 Below w.heap.size w w'∧((Z.hE b≠0∧e=.returned (.tuple #[.agg segZ,.slice none 0 0,.int .i64 (Z.hE b)])) ∨
  (Z.hE b=0∧∃ a m c,e=.returned (.tuple #[.agg (segH (E.gN b) (Z.cap (E.gN (Z.fb b))) (Z.rr' b) (Z.rn b)),.slice a m c,.int .i64 0])∧Sl W .u8 a m c (ints (Z.r4 b))))
theorem HeadAns.no {W:World} {b:List Nat} {E:Int} {w w':World} (h:Z.hE b=E) (h0:E≠0) (hb:Below w.heap.size w w'):HeadAns W b w (.returned (.tuple #[.agg segZ,.slice none 0 0,.int .i64 E])) w' :=
 ⟨hb,.inl ⟨by rw[h];exact h0,by rw[h]⟩⟩
theorem results_seg2 {fn:Func} {p u v:Tmp} (h:fn.results=#[.cell p 30,.tmp u,.tmp v]) (tmps:Array Value) (w:World) (g:Nat) {C:Array Value} (hp:tmps.getD p undef=.pointer (some ⟨g,0,none⟩)) (hA:Blk w g C 30) (hi:(Tryz.prog.info? 30).map (·.size)=some C.size) :
  (results fn tmps).run Tryz.prog w=.ok (.tuple #[.agg C,tmps.getD u undef,tmps.getD v undef]) w:=by
 have hp':tmps[p]?.getD undef=.pointer (some ⟨g,0,none⟩):=by simpa using hp
 unfold Blk at hA
 simp[results,h,hp',asAddr,run_loadVar_row w g 30 30 C (0,0) _ hA Tryz.underlying30 rfl hi]
theorem cap_is (n:Nat):Z.cap n=if 4097<n then 4097 else n:=by unfold Z.cap;rw[Nat.min_def];split<;>split<;>omega
theorem head_bad {b:List Nat} {k r n:Nat} (hk:Z.cap (E.gN b)=k) (hr:Z.cap (Z.rr' b)=r) (hn:Z.cap (Z.rn b)=n):(Z.kindOk (Z.rk b)=false∨4096<Z.rr' b∨Z.rr' b<Z.rn b)↔(Z.kindOk (k:Int)=false∨4096<r∨r<n):=by
 rw[cap_is] at hk hr hn
 have h1:Z.kindOk (Z.rk b)=Z.kindOk (k:Int):=by
  unfold Z.rk
  split at hk
  ·subst hk
   unfold Z.kindOk
   have e1:((((E.gN b:Nat):Int))==1)=false:=by simp;omega
   have e2:((((E.gN b:Nat):Int))==2)=false:=by simp;omega
   have e3:((((E.gN b:Nat):Int))==3)=false:=by simp;omega
   rw[e1,e2,e3];rfl
  ·rw[hk]
 rw[h1]
 have h2:(4096<Z.rr' b∨Z.rr' b<Z.rn b)↔(4096<r∨r<n):=by
  split at hr<;>split at hn<;>omega
 constructor
 ·rintro (h|h)
  ·exact .inl h
  ·exact .inr (h2.1 h)
 ·rintro (h|h)
  ·exact .inl h
  ·exact .inr (h2.2 h)
set_option maxHeartbeats 12000000 in
theorem tohead_any (a0:Option Addr) (n0 c0:Nat) (b0:List Nat) (w:World) (h:Sl w .u8 a0 n0 c0 (ints b0)) (h256:∀ x∈b0,x<256) (hm:n0≤140737488355328) :
  Calls Tryz.prog 45 #[.slice a0 n0 c0] w (HeadAns w b0 w):=by
 obtain⟨B,hB⟩:∃ B,w.heap.size+1=B:=⟨_,rfl⟩
 obtain⟨w0,hw0⟩:∃ w0,(w.alloc (.cells segZ 30)).alloc (.cells #[.int .i64 0,.int .i64 0,.int .i64 0,.int .i64 0] 127)=w0:=⟨_,rfl⟩
 have HB0:Hid (Below w.heap.size w w0):=by show Below _ _ _;rw[← hw0];exact bthen (below_one w _) (below_one _ _)
 have HR0:Hid (Blk w0 w.heap.size segZ 30):=by show Blk _ _ _ _;rw[← hw0];exact (Blk.new w _ _).alloc _
 have HA0:Hid (Blk w0 B #[.int .i64 0,.int .i64 0,.int .i64 0,.int .i64 0] 127):=by
  show Blk _ _ _ _
  rw[← hw0,← hB]
  have:=Blk.new (w.alloc (.cells segZ 30)) #[.int .i64 0,.int .i64 0,.int .i64 0,.int .i64 0] 127
  simpa using this
 have HBW:=hide hB
 unfold segZ at hw0
 have HW:=hide hw0
 have HW0:=hide h
 have HL0:Hid (b0.length=n0):=by show _=_;rw[← h.1,ints_length]
 have H2560:=hide h256
 clear hw0 h h256
 go_enter Tryz.func45,Tryz.ntmps45
 go_wp2_with fail
 refine wp_loop_rounds 5 ?_
 rw[rounds_succ]
 go_wp2_with fail
 rw[HW.out]
 clear HW
 refine (get_any a0 n0 c0 b0 _ (HW0.out.below HB0.out) H2560.out (by omega)).mono ?_
 rintro e w1 ⟨rfl,hb⟩
 obtain⟨X,hX⟩:∃ X:Nat,E.gE b0=X:=⟨_,rfl⟩
 obtain⟨K,hK⟩:∃ K:Nat,E.gK b0=K:=⟨_,rfl⟩
 obtain⟨M,hM⟩:∃ M:Nat,E.gN b0=M:=⟨_,rfl⟩
 rw[hX,hK,hM]
 have HB1:=hide (bthen HB0.out hb)
 have HR1:=hide (HR0.out.below hb)
 have hA:=HA0.out.below hb
 have HX:=hide hX
 have HK:=hide hK
 have HM0:=hide hM
 clear hb HR0 HA0
 by_cases hX0:X=0
 ·subst hX0
  have hKl:K≤n0:=by rw[← HK.out,← HL0.out];exact (E.gE_zero HX.out H2560.out).1
  obtain⟨a1,hw,hr1,hr2⟩:=rest_of HW0.out hKl
  obtain⟨n1,hn⟩:∃ n,n0 - K=n:=⟨_,rfl⟩
  obtain⟨c1,hc⟩:∃ c,c0 - K=c:=⟨_,rfl⟩
  obtain⟨b1,hbn⟩:∃ d,b0.drop K=d:=⟨_,rfl⟩
  rw[hn,hc,hbn] at hw
  rw[hn,hc] at hr1 hr2
  have HF1:Hid (Z.fb b0=b1):=by show _=_;unfold Z.fb;rw[HK.out];exact hbn
  have hnm1:n1≤140737488355328:=by omega
  have HL1:Hid (b1.length=n1):=by show _=_;rw[← hw.1,ints_length]
  have H2561:Hid (∀ x∈b1,x<256):=fun x hx=>H2560.out x (by rw[← hbn] at hx;exact List.mem_of_mem_drop hx)
  have HW1:=hide hw
  obtain⟨k0,hk⟩:∃ k,Z.cap M=k:=⟨_,rfl⟩
  have HC0:=hide hk
  have hk2_0:k0≤4097:=by rw[← hk];exact Nat.min_le_right _ _
  have hmin:∀ (ts:Array TypeId) (t:TypeId) (w:World),(Builtin.min_ ts t #[.int .u64 (M:Int),.int .u64 4097]).run Tryz.prog w=.ok (.int .u64 (k0:Int)) w:=fun ts t w=>by
   rw[run_min_int2]
   have e:=cap_is M
   rw[hk] at e
   have:(if (4097:Int)<(M:Int) then (4097:Int) else (M:Int))=(k0:Int):=by split at e<;>split<;>omega
   rw[this]
  have hwr:IntKind.i64.wrap (k0:Int)=(k0:Int):=by rw[IntKind.wrap_i64];omega
  have r0:=hA.cell (i:=0) rfl
  have t0:=hA.thaw 0
  have HA1:Hid (Blk (w1.setCell ⟨B,0,none⟩ (.int .i64 (k0:Int))) B #[.int .i64 (k0:Int),.int .i64 0,.int .i64 0,.int .i64 0] 127):=hA.set 0 (.int .i64 (k0:Int))
  have HR1':=hide (HR1.out.other (p:=⟨B,0,none⟩) (fun e=>by have e:B=w.heap.size:=e;have:=HBW.out;omega) (.int .i64 (k0:Int)))
  have HB1':=hide (HB1.out.setCell (p:=⟨B,0,none⟩) (by have:=HBW.out;show w.heap.size≤B;omega) (.int .i64 (k0:Int)))
  obtain⟨w1',hw'⟩:∃ w',w1.setCell ⟨B,0,none⟩ (.int .i64 (k0:Int))=w':=⟨_,rfl⟩
  rw[hw'] at HA1 HR1' HB1'
  have HWW:=hide hw'
  have HE0:Hid (E.gE b0=0):=HX.out
  clear hX hK hM hA hw hn hc hbn hk hw' HK HX
  go_wp2_with fail
  rw[rounds_succ]
  go_wp2_with fail
  clear hr1 hr2 hmin hwr r0 t0 hKl
  rw[HWW.out]
  clear HWW HR1 HB1
  have HR1:=HR1'
  have HB1:=HB1'
  clear HR1' HB1'
  refine (get_any a1 n1 c1 b1 _ (HW1.out.below HB1.out) H2561.out (by omega)).mono ?_
  rintro e w2 ⟨rfl,hb⟩
  obtain⟨X,hX⟩:∃ X:Nat,E.gE b1=X:=⟨_,rfl⟩
  obtain⟨K,hK⟩:∃ K:Nat,E.gK b1=K:=⟨_,rfl⟩
  obtain⟨M,hM⟩:∃ M:Nat,E.gN b1=M:=⟨_,rfl⟩
  rw[hX,hK,hM]
  have HB2:=hide (bthen HB1.out hb)
  have HR2:=hide (HR1.out.below hb)
  have hA:=HA1.out.below hb
  have HX:=hide hX
  have HK:=hide hK
  have HM1:=hide hM
  clear hb HR1 HA1
  by_cases hX0:X=0
  ·subst hX0
   have hKl:K≤n1:=by rw[← HK.out,← HL1.out];exact (E.gE_zero HX.out H2561.out).1
   obtain⟨a2,hw,hr1,hr2⟩:=rest_of HW1.out hKl
   obtain⟨n2,hn⟩:∃ n,n1 - K=n:=⟨_,rfl⟩
   obtain⟨c2,hc⟩:∃ c,c1 - K=c:=⟨_,rfl⟩
   obtain⟨b2,hbn⟩:∃ d,b1.drop K=d:=⟨_,rfl⟩
   rw[hn,hc,hbn] at hw
   rw[hn,hc] at hr1 hr2
   have HF2:Hid (Z.fb b1=b2):=by show _=_;unfold Z.fb;rw[HK.out];exact hbn
   have hnm2:n2≤140737488355328:=by omega
   have HL2:Hid (b2.length=n2):=by show _=_;rw[← hw.1,ints_length]
   have H2562:Hid (∀ x∈b2,x<256):=fun x hx=>H2561.out x (by rw[← hbn] at hx;exact List.mem_of_mem_drop hx)
   have HW2:=hide hw
   obtain⟨k1,hk⟩:∃ k,Z.cap M=k:=⟨_,rfl⟩
   have HC1:=hide hk
   have hk2_1:k1≤4097:=by rw[← hk];exact Nat.min_le_right _ _
   have hmin:∀ (ts:Array TypeId) (t:TypeId) (w:World),(Builtin.min_ ts t #[.int .u64 (M:Int),.int .u64 4097]).run Tryz.prog w=.ok (.int .u64 (k1:Int)) w:=fun ts t w=>by
    rw[run_min_int2]
    have e:=cap_is M
    rw[hk] at e
    have:(if (4097:Int)<(M:Int) then (4097:Int) else (M:Int))=(k1:Int):=by split at e<;>split<;>omega
    rw[this]
   have hwr:IntKind.i64.wrap (k1:Int)=(k1:Int):=by rw[IntKind.wrap_i64];omega
   have r1:=hA.cell (i:=1) rfl
   have t1:=hA.thaw 1
   have HA2:Hid (Blk (w2.setCell ⟨B,1,none⟩ (.int .i64 (k1:Int))) B #[.int .i64 (k0:Int),.int .i64 (k1:Int),.int .i64 0,.int .i64 0] 127):=hA.set 1 (.int .i64 (k1:Int))
   have HR2':=hide (HR2.out.other (p:=⟨B,1,none⟩) (fun e=>by have e:B=w.heap.size:=e;have:=HBW.out;omega) (.int .i64 (k1:Int)))
   have HB2':=hide (HB2.out.setCell (p:=⟨B,1,none⟩) (by have:=HBW.out;show w.heap.size≤B;omega) (.int .i64 (k1:Int)))
   obtain⟨w2',hw'⟩:∃ w',w2.setCell ⟨B,1,none⟩ (.int .i64 (k1:Int))=w':=⟨_,rfl⟩
   rw[hw'] at HA2 HR2' HB2'
   have HWW:=hide hw'
   have HE1:Hid (E.gE b1=0):=HX.out
   clear hX hK hM hA hw hn hc hbn hk hw' HK HX
   go_wp2_with fail
   rw[rounds_succ]
   go_wp2_with fail
   clear hr1 hr2 hmin hwr r1 t1 hKl
   rw[HWW.out]
   clear HWW HR2 HB2
   have HR2:=HR2'
   have HB2:=HB2'
   clear HR2' HB2'
   refine (get_any a2 n2 c2 b2 _ (HW2.out.below HB2.out) H2562.out (by omega)).mono ?_
   rintro e w3 ⟨rfl,hb⟩
   obtain⟨X,hX⟩:∃ X:Nat,E.gE b2=X:=⟨_,rfl⟩
   obtain⟨K,hK⟩:∃ K:Nat,E.gK b2=K:=⟨_,rfl⟩
   obtain⟨M,hM⟩:∃ M:Nat,E.gN b2=M:=⟨_,rfl⟩
   rw[hX,hK,hM]
   have HB3:=hide (bthen HB2.out hb)
   have HR3:=hide (HR2.out.below hb)
   have hA:=HA2.out.below hb
   have HX:=hide hX
   have HK:=hide hK
   have HM2:=hide hM
   clear hb HR2 HA2
   by_cases hX0:X=0
   ·subst hX0
    have hKl:K≤n2:=by rw[← HK.out,← HL2.out];exact (E.gE_zero HX.out H2562.out).1
    obtain⟨a3,hw,hr1,hr2⟩:=rest_of HW2.out hKl
    obtain⟨n3,hn⟩:∃ n,n2 - K=n:=⟨_,rfl⟩
    obtain⟨c3,hc⟩:∃ c,c2 - K=c:=⟨_,rfl⟩
    obtain⟨b3,hbn⟩:∃ d,b2.drop K=d:=⟨_,rfl⟩
    rw[hn,hc,hbn] at hw
    rw[hn,hc] at hr1 hr2
    have HF3:Hid (Z.fb b2=b3):=by show _=_;unfold Z.fb;rw[HK.out];exact hbn
    have hnm3:n3≤140737488355328:=by omega
    have HL3:Hid (b3.length=n3):=by show _=_;rw[← hw.1,ints_length]
    have H2563:Hid (∀ x∈b3,x<256):=fun x hx=>H2562.out x (by rw[← hbn] at hx;exact List.mem_of_mem_drop hx)
    have HW3:=hide hw
    obtain⟨k2,hk⟩:∃ k,Z.cap M=k:=⟨_,rfl⟩
    have HC2:=hide hk
    have hk2_2:k2≤4097:=by rw[← hk];exact Nat.min_le_right _ _
    have hmin:∀ (ts:Array TypeId) (t:TypeId) (w:World),(Builtin.min_ ts t #[.int .u64 (M:Int),.int .u64 4097]).run Tryz.prog w=.ok (.int .u64 (k2:Int)) w:=fun ts t w=>by
     rw[run_min_int2]
     have e:=cap_is M
     rw[hk] at e
     have:(if (4097:Int)<(M:Int) then (4097:Int) else (M:Int))=(k2:Int):=by split at e<;>split<;>omega
     rw[this]
    have hwr:IntKind.i64.wrap (k2:Int)=(k2:Int):=by rw[IntKind.wrap_i64];omega
    have r2:=hA.cell (i:=2) rfl
    have t2:=hA.thaw 2
    have HA3:Hid (Blk (w3.setCell ⟨B,2,none⟩ (.int .i64 (k2:Int))) B #[.int .i64 (k0:Int),.int .i64 (k1:Int),.int .i64 (k2:Int),.int .i64 0] 127):=hA.set 2 (.int .i64 (k2:Int))
    have HR3':=hide (HR3.out.other (p:=⟨B,2,none⟩) (fun e=>by have e:B=w.heap.size:=e;have:=HBW.out;omega) (.int .i64 (k2:Int)))
    have HB3':=hide (HB3.out.setCell (p:=⟨B,2,none⟩) (by have:=HBW.out;show w.heap.size≤B;omega) (.int .i64 (k2:Int)))
    obtain⟨w3',hw'⟩:∃ w',w3.setCell ⟨B,2,none⟩ (.int .i64 (k2:Int))=w':=⟨_,rfl⟩
    rw[hw'] at HA3 HR3' HB3'
    have HWW:=hide hw'
    have HE2:Hid (E.gE b2=0):=HX.out
    clear hX hK hM hA hw hn hc hbn hk hw' HK HX
    go_wp2_with fail
    rw[rounds_succ]
    go_wp2_with fail
    clear hr1 hr2 hmin hwr r2 t2 hKl
    rw[HWW.out]
    clear HWW HR3 HB3
    have HR3:=HR3'
    have HB3:=HB3'
    clear HR3' HB3'
    refine (get_any a3 n3 c3 b3 _ (HW3.out.below HB3.out) H2563.out (by omega)).mono ?_
    rintro e w4 ⟨rfl,hb⟩
    obtain⟨X,hX⟩:∃ X:Nat,E.gE b3=X:=⟨_,rfl⟩
    obtain⟨K,hK⟩:∃ K:Nat,E.gK b3=K:=⟨_,rfl⟩
    obtain⟨M,hM⟩:∃ M:Nat,E.gN b3=M:=⟨_,rfl⟩
    rw[hX,hK,hM]
    have HB4:=hide (bthen HB3.out hb)
    have HR4:=hide (HR3.out.below hb)
    have hA:=HA3.out.below hb
    have HX:=hide hX
    have HK:=hide hK
    have HM3:=hide hM
    clear hb HR3 HA3
    by_cases hX0:X=0
    ·subst hX0
     have hKl:K≤n3:=by rw[← HK.out,← HL3.out];exact (E.gE_zero HX.out H2563.out).1
     obtain⟨a4,hw,hr1,hr2⟩:=rest_of HW3.out hKl
     obtain⟨n4,hn⟩:∃ n,n3 - K=n:=⟨_,rfl⟩
     obtain⟨c4,hc⟩:∃ c,c3 - K=c:=⟨_,rfl⟩
     obtain⟨b4,hbn⟩:∃ d,b3.drop K=d:=⟨_,rfl⟩
     rw[hn,hc,hbn] at hw
     rw[hn,hc] at hr1 hr2
     have HF4:Hid (Z.fb b3=b4):=by show _=_;unfold Z.fb;rw[HK.out];exact hbn
     have hnm4:n4≤140737488355328:=by omega
     have HL4:Hid (b4.length=n4):=by show _=_;rw[← hw.1,ints_length]
     have H2564:Hid (∀ x∈b4,x<256):=fun x hx=>H2563.out x (by rw[← hbn] at hx;exact List.mem_of_mem_drop hx)
     have HW4:=hide hw
     obtain⟨k3,hk⟩:∃ k,Z.cap M=k:=⟨_,rfl⟩
     have HC3:=hide hk
     have hk2_3:k3≤4097:=by rw[← hk];exact Nat.min_le_right _ _
     have hmin:∀ (ts:Array TypeId) (t:TypeId) (w:World),(Builtin.min_ ts t #[.int .u64 (M:Int),.int .u64 4097]).run Tryz.prog w=.ok (.int .u64 (k3:Int)) w:=fun ts t w=>by
      rw[run_min_int2]
      have e:=cap_is M
      rw[hk] at e
      have:(if (4097:Int)<(M:Int) then (4097:Int) else (M:Int))=(k3:Int):=by split at e<;>split<;>omega
      rw[this]
     have hwr:IntKind.i64.wrap (k3:Int)=(k3:Int):=by rw[IntKind.wrap_i64];omega
     have r3:=hA.cell (i:=3) rfl
     have t3:=hA.thaw 3
     have HA4:Hid (Blk (w4.setCell ⟨B,3,none⟩ (.int .i64 (k3:Int))) B #[.int .i64 (k0:Int),.int .i64 (k1:Int),.int .i64 (k2:Int),.int .i64 (k3:Int)] 127):=hA.set 3 (.int .i64 (k3:Int))
     have HR4':=hide (HR4.out.other (p:=⟨B,3,none⟩) (fun e=>by have e:B=w.heap.size:=e;have:=HBW.out;omega) (.int .i64 (k3:Int)))
     have HB4':=hide (HB4.out.setCell (p:=⟨B,3,none⟩) (by have:=HBW.out;show w.heap.size≤B;omega) (.int .i64 (k3:Int)))
     obtain⟨w4',hw'⟩:∃ w',w4.setCell ⟨B,3,none⟩ (.int .i64 (k3:Int))=w':=⟨_,rfl⟩
     rw[hw'] at HA4 HR4' HB4'
     have HWW:=hide hw'
     have HE3:Hid (E.gE b3=0):=HX.out
     clear hX hK hM hA hw hn hc hbn hk hw' HK HX
     have f0:=HA4.out.cell (i:=0) rfl
     have f1:=HA4.out.cell (i:=1) rfl
     have f2:=HA4.out.cell (i:=2) rfl
     have f3:=HA4.out.cell (i:=3) rfl
     rw[← HWW.out] at f0 f1 f2 f3
     go_wp2_with fail
     rw[rounds_succ]
     go_wp2_with fail
     obtain⟨w5,hw5⟩:∃ w5,(w4.setCell ⟨B,3,none⟩ (.int .i64 (k3:Int))).alloc (.cells #[.int .i64 (k0:Int),.int .i64 (k1:Int),.int .i64 (k2:Int),.int .i64 (k3:Int),.int .i64 0,.int .i64 0,.string ⟨#[]⟩,.int .i64 0,.int .i64 0,.string ⟨#[]⟩,.slice none 0 0,.slice none 0 0] 30)=w5:=⟨_,rfl⟩
     have hz:w4.heap.size=(w4.setCell ⟨B,3,none⟩ (.int .i64 (k3:Int))).heap.size:=by simp
     rw[hw5,hz]
     clear hz
     rw[HWW.out] at hw5 ⊢
     have HB5:Hid (Below w.heap.size w w5):=by show Below _ _ _;rw[← hw5];exact bthen HB4'.out (below_one _ _)
     have HR5:Hid (Blk w5 w.heap.size segZ 30):=by show Blk _ _ _ _;rw[← hw5];exact HR4'.out.alloc _
     have HK5:Hid (Blk w5 w4'.heap.size (segH k0 k1 k2 k3) 30):=by show Blk _ _ _ _;rw[← hw5];exact Blk.new _ _ _
     obtain⟨G,hG⟩:∃ G,w4'.heap.size=G:=⟨_,rfl⟩
     rw[hG] at HK5 ⊢
     clear hw5 hG HWW HR4 HB4 HR4' HB4' HA4 hr1 hr2 hmin hwr r3 t3 hKl f0 f1 f2 f3 hk2_0 hk2_1 hk2_2 hk2_3 hnm1 hnm2 hnm3 hnm4 hm
     obtain⟨z2,hz2⟩:∃ z:Int,(k2:Int)=z:=⟨_,rfl⟩
     obtain⟨z3,hz3⟩:∃ z:Int,(k3:Int)=z:=⟨_,rfl⟩
     rw[hz2,hz3]
     have HZ2:=hide hz2
     have HZ3:=hide hz3
     clear hz2 hz3
     refine (check_any none 0 0 [] (k0:Int) w5 (slV_bare w5) (by simp)).mono ?_
     rintro e w6 ⟨rfl,hb6⟩
     have HB6:=hide (bthen HB5.out hb6)
     have HR6:=hide (HR5.out.below hb6)
     have HK6:=hide (HK5.out.below hb6)
     have HH:Hid (Z.hE b0=if Z.kindOk (Z.rk b0)=false∨4096<Z.rr' b0∨Z.rr' b0<Z.rn b0 then 4 else 0):=by
      show _=_
      unfold Z.hE
      rw[HE0.out,if_neg (by decide),HF1.out,HE1.out,if_neg (by decide),HF2.out,HE2.out,if_neg (by decide),HF3.out,HE3.out,if_neg (by decide)]
     have HQ0:Hid (Z.cap (E.gN b0)=k0):=by show _=_;rw[HM0.out];exact HC0.out
     have HQ1:Hid (Z.cap (E.gN (Z.fb b0))=k1):=by show _=_;rw[HF1.out,HM1.out];exact HC1.out
     have HQ2:Hid (Z.cap (Z.rr' b0)=k2):=by show Z.cap (E.gN (Z.fb (Z.fb b0)))=_;rw[HF1.out,HF2.out,HM2.out];exact HC2.out
     have HQ3:Hid (Z.cap (Z.rn b0)=k3):=by show Z.cap (E.gN (Z.fb (Z.fb (Z.fb b0))))=_;rw[HF1.out,HF2.out,HF3.out,HM3.out];exact HC3.out
     have HHB:=hide (head_bad HQ0.out HQ2.out HQ3.out)
     have HX4:Hid (Z.r4 b0=b4):=by show Z.fb (Z.fb (Z.fb (Z.fb b0)))=_;rw[HF1.out,HF2.out,HF3.out];exact HF4.out
     have e2:w6.cell? ⟨G,2,none⟩=some (.int .i64 z2):=by rw[← HZ2.out];exact HK6.out.cell (i:=2) rfl
     have e3:w6.cell? ⟨G,3,none⟩=some (.int .i64 z3):=by rw[← HZ3.out];exact HK6.out.cell (i:=3) rfl
     clear hb6 HB5 HR5 HK5 HM0 HM1 HM2 HM3 HC0 HC1 HC2 HC3 HE0 HE1 HE2 HE3 HF1 HF2 HF3 HF4
     by_cases hko:Z.kindOk (k0:Int)=false
     ·have HKO:=hide hko
      rw[show Z.chk [] (k0:Int)=1 by unfold Z.chk;rw[if_pos hko]]
      clear hko
      have HP:Hid (Z.hE b0=4):=by
       show _=_
       rw[HH.out]
       exact if_pos (HHB.out.2 (.inl HKO.out))
      try clear HH
      try clear HHB
      try clear HX4
      try clear HQ0
      try clear HQ1
      try clear HQ2
      try clear HQ3
      try clear HKO
      try clear HRR
      try clear HNN
      try clear H2560
      try clear H2561
      try clear H2562
      try clear H2563
      try clear H2564
      try clear HL0
      try clear HL1
      try clear HL2
      try clear HL3
      try clear HL4
      try clear HW0
      try clear HW1
      try clear HW2
      try clear HW3
      try clear HW4
      try clear hB
      try clear HBW
      try clear HB0
      try clear HR0
      try clear HA0
      try clear HA1
      try clear HA2
      try clear HA3
      try clear HB1
      try clear HB2
      try clear HB3
      try clear HR1
      try clear HR2
      try clear HR3
      try clear HZ2
      try clear HZ3
      try clear e3
      go_wp2_with (first
       | (guard_target =~ wpList _ _ _ ((⟨none,.store _ _ _,_,_,_,_⟩:Oper) :: _) _ _;refine wpList_store_row rfl 30 (.tmp 2) (.tmp 62) rfl w.heap.size segZ rfl rfl 30 segZ HR6.out Tryz.sizeSeg rfl segZ_one ?_)
       | fail)
      have HRF:=hide (Blk.row HR6.out segZ)
      have HBF:=hide (below_setRow HB6.out (Nat.le_refl _) segZ)
      exact bodyPost_ret (results_seg2 Tryz.results45 _ _ w.heap.size rfl HRF.out Tryz.sizeSeg) rfl (HeadAns.no HP.out (by decide) HBF.out)
     ·have HKO:=hide hko
      rw[show Z.chk [] (k0:Int)=0 by unfold Z.chk;rw[if_neg hko];simp]
      clear hko
      by_cases hr:4096<k2
      ·have HRR:=hide hr
       have hd2:decide ((4096:Int)<z2)=true:=by have:=HZ2.out;simp;omega
       clear hr
       have HP:Hid (Z.hE b0=4):=by
        show _=_
        rw[HH.out]
        exact if_pos (HHB.out.2 (.inr (.inl HRR.out)))
       try clear HH
       try clear HHB
       try clear HX4
       try clear HQ0
       try clear HQ1
       try clear HQ2
       try clear HQ3
       try clear HKO
       try clear HRR
       try clear HNN
       try clear H2560
       try clear H2561
       try clear H2562
       try clear H2563
       try clear H2564
       try clear HL0
       try clear HL1
       try clear HL2
       try clear HL3
       try clear HL4
       try clear HW0
       try clear HW1
       try clear HW2
       try clear HW3
       try clear HW4
       try clear hB
       try clear HBW
       try clear HB0
       try clear HR0
       try clear HA0
       try clear HA1
       try clear HA2
       try clear HA3
       try clear HB1
       try clear HB2
       try clear HB3
       try clear HR1
       try clear HR2
       try clear HR3
       try clear HZ2
       try clear HZ3
       try clear e3
       go_wp2_with (first
        | (guard_target =~ wpList _ _ _ ((⟨none,.store _ _ _,_,_,_,_⟩:Oper) :: _) _ _;refine wpList_store_row rfl 30 (.tmp 2) (.tmp 62) rfl w.heap.size segZ rfl rfl 30 segZ HR6.out Tryz.sizeSeg rfl segZ_one ?_)
        | fail)
       have HRF:=hide (Blk.row HR6.out segZ)
       have HBF:=hide (below_setRow HB6.out (Nat.le_refl _) segZ)
       exact bodyPost_ret (results_seg2 Tryz.results45 _ _ w.heap.size rfl HRF.out Tryz.sizeSeg) rfl (HeadAns.no HP.out (by decide) HBF.out)
      ·have HRR:=hide hr
       have hd2:decide ((4096:Int)<z2)=false:=by have:=HZ2.out;simp;omega
       clear hr
       by_cases hn:k2<k3
       ·have HNN:=hide hn
        have hd3:decide (z2<z3)=true:=by have:=HZ2.out;have:=HZ3.out;simp;omega
        clear hn
        have HP:Hid (Z.hE b0=4):=by
         show _=_
         rw[HH.out]
         exact if_pos (HHB.out.2 (.inr (.inr HNN.out)))
        try clear HH
        try clear HHB
        try clear HX4
        try clear HQ0
        try clear HQ1
        try clear HQ2
        try clear HQ3
        try clear HKO
        try clear HRR
        try clear HNN
        try clear H2560
        try clear H2561
        try clear H2562
        try clear H2563
        try clear H2564
        try clear HL0
        try clear HL1
        try clear HL2
        try clear HL3
        try clear HL4
        try clear HW0
        try clear HW1
        try clear HW2
        try clear HW3
        try clear HW4
        try clear hB
        try clear HBW
        try clear HB0
        try clear HR0
        try clear HA0
        try clear HA1
        try clear HA2
        try clear HA3
        try clear HB1
        try clear HB2
        try clear HB3
        try clear HR1
        try clear HR2
        try clear HR3
        try clear HZ2
        try clear HZ3
        go_wp2_with (first
         | (guard_target =~ wpList _ _ _ ((⟨none,.store _ _ _,_,_,_,_⟩:Oper) :: _) _ _;refine wpList_store_row rfl 30 (.tmp 2) (.tmp 62) rfl w.heap.size segZ rfl rfl 30 segZ HR6.out Tryz.sizeSeg rfl segZ_one ?_)
         | fail)
        have HRF:=hide (Blk.row HR6.out segZ)
        have HBF:=hide (below_setRow HB6.out (Nat.le_refl _) segZ)
        exact bodyPost_ret (results_seg2 Tryz.results45 _ _ w.heap.size rfl HRF.out Tryz.sizeSeg) rfl (HeadAns.no HP.out (by decide) HBF.out)
       ·have HNN:=hide hn
        have hd3:decide (z2<z3)=false:=by have:=HZ2.out;have:=HZ3.out;simp;omega
        clear hn
        have HP:Hid (Z.hE b0=0):=by
         show _=_
         rw[HH.out]
         refine if_neg fun h=>?_
         rcases HHB.out.1 h with h|h|h
         ·exact HKO.out h
         ·exact HRR.out h
         ·exact HNN.out h
        have HFIN:Hid (∀ w',Below w.heap.size w w'→Sl w' .u8 a4 n4 c4 (ints (Z.r4 b0))):=fun w' hb=>by rw[HX4.out];exact HW4.out.below hb
        have HQQ:Hid (segH (E.gN b0) (Z.cap (E.gN (Z.fb b0))) (Z.rr' b0) (Z.rn b0)=segH k0 k1 k2 k3):=by
         show _=_
         have r0:Z.kindOk (Z.rk b0)=true:=by
          cases hq:Z.kindOk (Z.rk b0) with
          | true=>rfl
          | false =>
           have:=HH.out
           rw[if_pos (.inl hq),HP.out] at this
           omega
         have r1:¬ 4096<Z.rr' b0:=fun hq=>by
          have:=HH.out
          rw[if_pos (.inr (.inl hq)),HP.out] at this
          omega
         have r2:¬ Z.rr' b0<Z.rn b0:=fun hq=>by
          have:=HH.out
          rw[if_pos (.inr (.inr hq)),HP.out] at this
          omega
         have q0:=HQ0.out
         have q2:=HQ2.out
         have q3:=HQ3.out
         rw[cap_is] at q0 q2 q3
         have hk:E.gN b0≤3:=by
          unfold Z.kindOk Z.rk at r0
          simp at r0
          omega
         rw[HQ1.out,show E.gN b0=k0 by split at q0<;>omega,show Z.rr' b0=k2 by split at q2<;>omega,show Z.rn b0=k3 by split at q3<;>omega]
        obtain⟨C,hC⟩:∃ C:Array Value,segH k0 k1 k2 k3=C:=⟨_,rfl⟩
        have HK7:Hid (Blk w6 G C 30):=by rw[← hC];exact HK6
        have HCI:Hid ((Tryz.prog.info? 30).map (·.size)=some C.size):=by show _=_;rw[← hC];exact Tryz.sizeSeg
        have HC8:Hid (segZ.size=C.size):=by show _=_;rw[← hC];rfl
        have HC1:Hid (C.all (·.oneCell')=true):=by show _=_;rw[← hC];exact segH_one _ _ _ _
        have HCC:=hide hC
        clear hC
        try clear HH
        try clear HHB
        try clear HX4
        try clear HQ0
        try clear HQ1
        try clear HQ2
        try clear HQ3
        try clear HKO
        try clear HRR
        try clear HNN
        try clear H2560
        try clear H2561
        try clear H2562
        try clear H2563
        try clear H2564
        try clear HL0
        try clear HL1
        try clear HL2
        try clear HL3
        try clear HL4
        try clear HW0
        try clear HW1
        try clear HW2
        try clear HW3
        try clear HW4
        try clear hB
        try clear HBW
        try clear HB0
        try clear HR0
        try clear HA0
        try clear HA1
        try clear HA2
        try clear HA3
        try clear HB1
        try clear HB2
        try clear HB3
        try clear HR1
        try clear HR2
        try clear HR3
        try clear HZ2
        try clear HZ3
        go_wp2_with (first
         | (guard_target =~ wpList _ _ _ ((⟨some 63,.load _ _,_,_,_,_⟩:Oper) :: _) _ _;refine wpList_load_row rfl 30 (.tmp 10) rfl G rfl 30 C (0,0) _ HK7.out Tryz.underlying30 rfl HCI.out ?_)
         | (guard_target =~ wpList _ _ _ ((⟨none,.store _ _ _,_,_,_,_⟩:Oper) :: _) _ _;refine wpList_store_row rfl 30 (.tmp 2) (.tmp 63) rfl w.heap.size C rfl rfl 30 segZ HR6.out HCI.out HC8.out HC1.out ?_)
         | fail)
        have HRF:=hide (Blk.row HR6.out C)
        have HBF:=hide (below_setRow HB6.out (Nat.le_refl _) C)
        refine bodyPost_ret (results_seg2 Tryz.results45 _ _ w.heap.size rfl HRF.out HCI.out) rfl ?_
        refine⟨HBF.out,.inr ⟨HP.out,a4,n4,c4,?_,HFIN.out _ (Below.refl _ _)⟩⟩
        rw[HQQ.out,HCC.out]
        rfl
    ·have hX0':(((X:Nat):Int) != 0)=true:=by simp;omega
     obtain⟨y,hy⟩:∃ y:Int,((X:Nat):Int)=y:=⟨_,rfl⟩
     have hy0:y≠0:=by omega
     have HY0:=hide hy0
     have HP:Hid (Z.hE b0=y):=by
      show _=_
      unfold Z.hE
      rw[HE0.out,if_neg (by decide),HF1.out,HE1.out,if_neg (by decide),HF2.out,HE2.out,if_neg (by decide),HF3.out,HX.out,if_pos hX0]
      exact hy
     rw[hy] at hX0' ⊢
     clear hX hK hM hA hy hX0 hy0
     go_wp2_with (first
      | (guard_target =~ wpList _ _ _ ((⟨none,.store _ _ _,_,_,_,_⟩:Oper) :: _) _ _;refine wpList_store_row rfl 30 (.tmp 2) (.tmp 22) rfl w.heap.size segZ rfl rfl 30 segZ HR4.out Tryz.sizeSeg rfl segZ_one ?_)
      | fail)
     have HRF:=hide (Blk.row HR4.out segZ)
     have HBF:=hide (below_setRow HB4.out (Nat.le_refl _) segZ)
     exact bodyPost_ret (results_seg2 Tryz.results45 _ _ w.heap.size rfl HRF.out Tryz.sizeSeg) rfl (HeadAns.no HP.out (by exact HY0.out) HBF.out)
   ·have hX0':(((X:Nat):Int) != 0)=true:=by simp;omega
    obtain⟨y,hy⟩:∃ y:Int,((X:Nat):Int)=y:=⟨_,rfl⟩
    have hy0:y≠0:=by omega
    have HY0:=hide hy0
    have HP:Hid (Z.hE b0=y):=by
     show _=_
     unfold Z.hE
     rw[HE0.out,if_neg (by decide),HF1.out,HE1.out,if_neg (by decide),HF2.out,HX.out,if_pos hX0]
     exact hy
    rw[hy] at hX0' ⊢
    clear hX hK hM hA hy hX0 hy0
    go_wp2_with (first
     | (guard_target =~ wpList _ _ _ ((⟨none,.store _ _ _,_,_,_,_⟩:Oper) :: _) _ _;refine wpList_store_row rfl 30 (.tmp 2) (.tmp 22) rfl w.heap.size segZ rfl rfl 30 segZ HR3.out Tryz.sizeSeg rfl segZ_one ?_)
     | fail)
    have HRF:=hide (Blk.row HR3.out segZ)
    have HBF:=hide (below_setRow HB3.out (Nat.le_refl _) segZ)
    exact bodyPost_ret (results_seg2 Tryz.results45 _ _ w.heap.size rfl HRF.out Tryz.sizeSeg) rfl (HeadAns.no HP.out (by exact HY0.out) HBF.out)
  ·have hX0':(((X:Nat):Int) != 0)=true:=by simp;omega
   obtain⟨y,hy⟩:∃ y:Int,((X:Nat):Int)=y:=⟨_,rfl⟩
   have hy0:y≠0:=by omega
   have HY0:=hide hy0
   have HP:Hid (Z.hE b0=y):=by
    show _=_
    unfold Z.hE
    rw[HE0.out,if_neg (by decide),HF1.out,HX.out,if_pos hX0]
    exact hy
   rw[hy] at hX0' ⊢
   clear hX hK hM hA hy hX0 hy0
   go_wp2_with (first
    | (guard_target =~ wpList _ _ _ ((⟨none,.store _ _ _,_,_,_,_⟩:Oper) :: _) _ _;refine wpList_store_row rfl 30 (.tmp 2) (.tmp 22) rfl w.heap.size segZ rfl rfl 30 segZ HR2.out Tryz.sizeSeg rfl segZ_one ?_)
    | fail)
   have HRF:=hide (Blk.row HR2.out segZ)
   have HBF:=hide (below_setRow HB2.out (Nat.le_refl _) segZ)
   exact bodyPost_ret (results_seg2 Tryz.results45 _ _ w.heap.size rfl HRF.out Tryz.sizeSeg) rfl (HeadAns.no HP.out (by exact HY0.out) HBF.out)
 ·have hX0':(((X:Nat):Int) != 0)=true:=by simp;omega
  obtain⟨y,hy⟩:∃ y:Int,((X:Nat):Int)=y:=⟨_,rfl⟩
  have hy0:y≠0:=by omega
  have HY0:=hide hy0
  have HP:Hid (Z.hE b0=y):=by
   show _=_
   unfold Z.hE
   rw[HX.out,if_pos hX0]
   exact hy
  rw[hy] at hX0' ⊢
  clear hX hK hM hA hy hX0 hy0
  go_wp2_with (first
   | (guard_target =~ wpList _ _ _ ((⟨none,.store _ _ _,_,_,_,_⟩:Oper) :: _) _ _;refine wpList_store_row rfl 30 (.tmp 2) (.tmp 22) rfl w.heap.size segZ rfl rfl 30 segZ HR1.out Tryz.sizeSeg rfl segZ_one ?_)
   | fail)
  have HRF:=hide (Blk.row HR1.out segZ)
  have HBF:=hide (below_setRow HB1.out (Nat.le_refl _) segZ)
  exact bodyPost_ret (results_seg2 Tryz.results45 _ _ w.heap.size rfl HRF.out Tryz.sizeSeg) rfl (HeadAns.no HP.out (by exact HY0.out) HBF.out)
end Go.Proofs.YtnkpgmibhpmdhaaGreat

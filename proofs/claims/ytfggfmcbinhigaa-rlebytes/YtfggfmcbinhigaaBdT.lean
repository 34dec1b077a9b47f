/- ToRuns, Of: runs read, and spread. -/
import Derived.Test.YtfggfmcbinhigaaBdS
import Derived.BigQuiet
import Derived.WalkSmall
namespace Go.Proofs.Ytfggfmcbinhigaa
set_option linter.unusedVariables false
open Go.RowKit

/-- What ToRuns answers. -/
def RunsAns (t : TypeId) (b : List Nat) (n kind : Int) (w : World) (e : Ending) (w' : World) : Prop := ∃ v, e = .returned (.tuple #[v, .int .i64 (Z.uE b n kind)]) ∧ OwnR w' t w.heap.size v (Z.uL b n kind) ∧ Below w.heap.size w w'
theorem RunsAns.no {t : TypeId} {b : List Nat} {n kind X : Int} {w w' : World} (h : Z.uE b n kind = X) (h0 : X ≠ 0) (hb : Below w.heap.size w w') : RunsAns t b n kind w (.returned (.tuple #[.slice none 0 0, .int .i64 X])) w' := by
  unfold RunsAns; rw [uL_bad (by rw [h]; exact h0), h]
  exact ⟨_, rfl, ownR_nil _ _ _, hb⟩
theorem RunsAns.yes {t : TypeId} {b : List Nat} {n kind : Int} {w w' : World} {v : Value} {rs : List Z.R} (h : Z.uE b n kind = 0) (hr : Z.uL b n kind = rs) (ho : OwnR w' t w.heap.size v rs) (hb : Below w.heap.size w w') : RunsAns t b n kind w (.returned (.tuple #[v, .int .i64 0])) w' := by
  subst hr
  unfold RunsAns; rw [h]
  exact ⟨_, rfl, ho, hb⟩
theorem chk_nil {kind : Int} (h : Z.kindOk kind = true) : Z.chk [] kind = 0 := chk_yes h (by simp) rfl rfl
theorem slV_nil (w : World) : SlV w none 0 0 [] := ⟨rfl, Nat.le_refl _, by simp [maxLen], fun _ => rfl, .inl rfl⟩
theorem rnR_len (kind : Int) (b : List Nat) : (Z.rnR kind b).length ≤ b.length := by
  have h1 := pR_len kind 1 (b.drop (E.gK b))
  have h2 : (b.drop (E.gK b)).length ≤ b.length := by rw [List.length_drop]; omega
  exact Nat.le_trans h1 h2
theorem rnR_lt {kind : Int} {b : List Nat} (h : ∀ x ∈ b, x < 256) : ∀ x ∈ Z.rnR kind b, x < 256 := oR_lt (fun x hx => h x (List.mem_of_mem_drop hx)) kind
/-- What the loop keeps: what is left to be read, and the runs so far. -/
structure RunLoop (kind : Int) (N : Nat) (b : List Nat) (left : Nat) (bs : List Nat) (rs : List Z.R) : Prop where
  err : Z.te kind N none b = Z.te kind left (Z.top rs.reverse) bs
  list : Z.tl kind N none b = rs ++ Z.tl kind left (Z.top rs.reverse) bs
  low : ∀ x ∈ bs, x < 256
  few : rs.length + left ≤ N
theorem RunLoop.step {kind : Int} {N : Nat} {b : List Nat} {left : Nat} {bs : List Nat} {rs : List Z.R} (h : RunLoop kind N b left bs rs) (h0 : 0 < left) (h1 : Z.r1 kind left bs = 0) (h2 : Z.isV (Z.top rs.reverse) (Z.rnV kind bs) = false) :
    RunLoop kind N b (left - E.gN bs) (Z.rnR kind bs) (rs ++ [⟨((E.gN bs : Nat) : Int), Z.rnV kind bs⟩]) := by
  have h3 := r2_of (p := Z.top rs.reverse) h1 (fun e => by rw [(isV_iff _ _).2 e] at h2; exact absurd h2 (by decide))
  obtain ⟨_, g2, g3, _⟩ := r1_ok h1
  refine ⟨?_, ?_, rnR_lt h.low, ?_⟩
  · rw [top_snoc, h.err, te_step h0 h3]
  · rw [top_snoc, h.list, tl_step h0 h3, List.append_assoc]; rfl
  · have := h.few
    rw [List.length_append]
    simp
    omega

set_option maxHeartbeats 2000000 in
theorem toruns_some (ao : Option Addr) (len cap : Nat) (b : List Nat) (N : Nat) (kind : Int) (w : World) (h : Sl w .u8 ao len cap (ints b)) (h256 : ∀ x ∈ b, x < 256) (hm : len ≤ 140737488355328) (hN : N ≤ 4096) (hk : Z.kindOk kind = true) :
    Calls Try.prog 15 #[.slice ao len cap, .int .i64 (N : Int), .int .i64 kind] w (RunsAns 49 b (N : Int) kind w) := by
  have hd1 : decide ((N : Int) < 0) = false := by simp
  have hd2 : decide ((4096 : Int) < (N : Int)) = false := by simp; omega
  have HCK := hide (check_any none 0 0 [] kind w (slV_nil w) (by simp))
  have HS := hide h
  have HK := hide hk
  have H0 : Hid (RunLoop kind N b N b []) := ⟨rfl, rfl, h256, by simp⟩
  clear h h256 hk
  go_enter Try.func15, Try.ntmps15
  go_wp2_with fail
  refine HCK.out.mono ?_
  rintro e w1 ⟨rfl, hb1⟩
  rw [chk_nil HK.out]
  replace hb1 := hide hb1
  clear HCK
  go_wp2_with fail
  go_loopw [0, 1, 9] (fun s nn v wr => ∃ (left L c : Nat) (a : Option Addr) (bs : List Nat) (rs : List Z.R), left ≤ 4096 ∧ L ≤ 140737488355328 ∧ nn = .int .i64 left ∧ s = .slice a L c ∧ Hid (Sl w .u8 a L c (ints bs)) ∧ Hid (OwnR wr 49 w.heap.size v rs) ∧ Hid (RunLoop kind N b left bs rs) ∧ Hid (Below w.heap.size w wr)) (fun _ nn _ _ => (intOf nn).toNat)
  case atStart => exact ⟨N, len, cap, ao, b, [], hN, hm, rfl, rfl, HS, hide (ownR_nil _ _ _), H0, hb1⟩
  case round =>
    obtain ⟨left, L, c, a, bs, rs, hleft, hL, rfl, rfl, hs, hrow, hlp, hbw⟩ := hrel
    by_cases h0 : 0 < left
    · have HT := hide (torun_any a L c bs left kind wr w hs.out (hs.out.below hbw.out) hlp.out.low hL hleft h0 HK.out)
      go_wp2_with fail
      refine HT.out.mono ?_
      rintro e w2 ⟨hb2, hr⟩
      have HB2 := hide (bthen hbw.out hb2)
      have hrow2 := hrow.out.below hb2
      clear HT
      rcases hr with ⟨hbad, rfl⟩ | ⟨hok, ra, rc, rfl, hsr⟩
      · obtain ⟨X, hX⟩ : ∃ X : Int, ((Z.r1 kind left bs : Nat) : Int) = X := ⟨_, rfl⟩
        have HP : Hid (Z.uE b (N : Int) kind = X) := by
          show _ = _
          rw [uE_is HK.out hN, hlp.out.err, te_bad h0 (by rw [r2_bad hbad]; exact hbad), r2_bad hbad, hX]
        have hX0 : X ≠ 0 := by omega
        have HX0 := hide hX0
        have hXb : (X != 0) = true := by simpa using hX0
        have HBE := hide (bthen HB2.out (below_one w2 (.cells #[.int .i64 0, .int .i64 0, .int .i64 0, .string ⟨#[]⟩] 49)))
        rw [hX]
        clear hbad hX hrow2 hb2
        go_wp2
        go_ret2
        exact RunsAns.no HP.out HX0.out HBE.out
      · obtain ⟨_, g2, g3, _⟩ := r1_ok hok
        obtain ⟨⟨vk, vi, vs⟩, hv⟩ : ∃ x, Z.rnV kind bs = x := ⟨_, rfl⟩
        obtain ⟨m, hmm⟩ : ∃ m, E.gN bs = m := ⟨_, rfl⟩
        obtain ⟨q, hq⟩ : ∃ q, (Z.rnR kind bs).length = q := ⟨_, rfl⟩
        have hbl : bs.length = L := by rw [← hs.out.1, ints_length]
        have hqL : q ≤ 140737488355328 := by have := rnR_len kind bs; omega
        rw [hv, hmm, hq]
        rw [hq] at hsr
        rw [hmm] at g2 g3
        have b3 := below_one w2 (.cells #[.int .i64 (m : Int), .int .i64 vk, .int .i64 vi, .string vs] 49)
        have hA := AtR.new w2 49 (m : Int) vk vi vs
        have hrow3 := hrow2.below b3
        obtain ⟨oa, oc, hov, hosl, _⟩ := SlR.of_own hrow3
        have hrl := hlp.out.few
        have HG := hide (goes_any oa _ oc rs vk vi vs _ hosl (by omega))
        obtain ⟨k, hkk⟩ : ∃ k, rs.length = k := ⟨_, rfl⟩
        rw [hkk] at hov HG hrl
        obtain ⟨a0, a1, a2, a3⟩ := hA.cells
        have HA := hide hA
        have HB3 := hide (bthen HB2.out b3)
        have HR3 := hide hrow3
        have HOK := hide hok
        have HV := hide hv
        have HMM := hide hmm
        have HSR := hide hsr
        have HKK := hide hkk
        have HSZ := hide hb2.size
        have HOV := hide hov
        rw [hov]
        clear hok hv hmm hq hsr b3 hA hrow3 hosl hkk hbl hrow2 hb2 hov
        go_wp2_with fail
        refine HG.out.mono ?_
        rintro e w4 ⟨rfl, hb4⟩
        obtain ⟨p, hp⟩ : ∃ p, Z.isV (Z.top rs.reverse) ⟨vk, vi, vs⟩ = p := ⟨_, rfl⟩
        rw [hp]
        have HB4 := hide (bthen HB3.out hb4)
        have HA4 := hide (HA.out.below hb4)
        have HR4 := hide (HR3.out.below hb4)
        have HPP := hide hp
        clear HG a0 a1 a2 a3 hb4 hp HA HR3 HB3
        cases p with
        | true =>
          have HP : Hid (Z.uE b (N : Int) kind = 4) := by
            show _ = _
            have h4 := r2_again HOK.out ((isV_iff _ _).1 (by rw [HV.out]; exact HPP.out))
            rw [uE_is HK.out hN, hlp.out.err, te_bad h0 (by rw [h4]; decide), h4]
            rfl
          go_wp2
          go_ret2
          exact RunsAns.no HP.out (by decide) HB4.out
        | false =>
          have HST := hide (hlp.out.step h0 HOK.out (by rw [HV.out]; exact HPP.out))
          rw [HV.out, HMM.out] at HST
          have b5 := below_one w4 (.cells #[.int .i64 (m : Int), .int .i64 vk, .int .i64 vi, .string vs] 49)
          have HR5 := hide (HR4.out.below b5)
          have HB5 := hide (bthen HB4.out b5)
          have hA5 := HA4.out.below b5
          have HA5 := hide hA5
          obtain ⟨a0, a1, a2, a3⟩ := HA4.out.cells
          have hsz5 := HB5.out.size
          have hsz4 := HB4.out.size
          rw [HOV.out] at HR5
          clear b5 hA5
          go_wp2_with (at_builtin; refine wpList_appR 35 49 Try.underlying35 Try.infoRun rfl _ _ rfl w.heap.size (.slice oa k oc) rs rfl HR5.out (some ⟨w4.heap.size, 0, none⟩) 1 ⟨(m : Int), ⟨vk, vi, vs⟩⟩ rfl (slR_one w4 49 (m : Int) vk vi vs) (by rw [HKK.out]; omega) (by simp; omega) ?_)
          intro v6 w6 ho6 has6
          have hb6 : Below w.heap.size w w6 := HB5.out.trans (has6.below (by simp; omega) (fun k hk => (owns_lt HR5.out hk).1))
          have hA6 : AtR w6 w2.heap.size 49 (m : Int) vk vi vs := by
            refine (has6.1.block _ (lt_of_block HA5.out) (fun e => ?_)).trans HA5.out
            have h1 := (owns_lt hrow.out (k := w2.heap.size) (by rw [HOV.out]; exact e)).2
            have h2 := HSZ.out
            omega
          obtain ⟨a0, a1, a2, a3⟩ := hA6.cells
          have HO6 := hide ho6
          have HB6 := hide hb6
          have HR : Hid (∃ bs2, Sl w .u8 ra q rc (ints bs2) ∧ RunLoop kind N b (left - m) bs2 (rs ++ [⟨(m : Int), ⟨vk, vi, vs⟩⟩])) := ⟨_, HSR.out, HST.out⟩
          have hsub : (left : Int) - (m : Int) = ((left - m : Nat) : Int) := by omega
          clear hb6 hA6 ho6 has6
          go_wp2
          go_roundw
          case rel =>
            obtain ⟨bs2, r1, r2⟩ := HR.out
            exact ⟨left - m, q, rc, ra, bs2, _, by omega, hqL, by first | rfl | rw [hsub], rfl, hide r1, HO6, hide r2, HB6⟩
          case measure => simp [intOf]; omega
    · obtain rfl : left = 0 := by omega
      have hbl : bs.length = L := by rw [← hs.out.1, ints_length]
      by_cases hL0 : L = 0
      · subst hL0
        obtain rfl : bs = [] := List.eq_nil_of_length_eq_zero hbl
        have HP : Hid (Z.uE b (N : Int) kind = 0) := by show _ = _; rw [uE_is HK.out hN, hlp.out.err]; rfl
        have HQ : Hid (Z.uL b (N : Int) kind = rs) := by show _ = _; rw [uL_is HP.out, hlp.out.list, tl_zero, List.append_nil]
        clear hbl
        go_wp2
        go_ret2
        exact RunsAns.yes HP.out HQ.out hrow.out hbw.out
      · have HP : Hid (Z.uE b (N : Int) kind = 4) := by
          show _ = _
          rw [uE_is HK.out hN, hlp.out.err, te_zero (fun e => by rw [e] at hbl; exact hL0 hbl.symm)]
          rfl
        have hpos : 0 < L := by omega
        clear hbl
        go_wp2
        go_ret2
        exact RunsAns.no HP.out (by decide) hbw.out
theorem toruns_any (ao : Option Addr) (len cap : Nat) (b : List Nat) (n kind : Int) (w : World) (h : Sl w .u8 ao len cap (ints b)) (h256 : ∀ x ∈ b, x < 256) (hm : len ≤ 140737488355328) :
    Calls Try.prog 15 #[.slice ao len cap, .int .i64 n, .int .i64 kind] w (RunsAns 49 b n kind w) := by
  cases hk : Z.kindOk kind with
  | false =>
    have HK := hide hk
    have HCK := hide (check_any none 0 0 [] kind w (slV_nil w) (by simp))
    clear hk h h256
    go_enter Try.func15, Try.ntmps15
    go_wp2_with fail
    refine HCK.out.mono ?_
    rintro e w2 ⟨rfl, hb⟩
    rw [chk_kind HK.out]
    replace hb := hide hb
    clear HCK
    go_wp2
    go_ret2
    exact RunsAns.no (uE_kind HK.out) (by decide) hb.out
  | true =>
    by_cases hn : n < 0 ∨ 4096 < n
    · have HK := hide hk
      have HN := hide hn
      have HCK := hide (check_any none 0 0 [] kind w (slV_nil w) (by simp))
      clear hk h h256
      rcases hn with hn | hn
      · have hd1 : decide (n < 0) = true := by simpa using hn
        go_enter Try.func15, Try.ntmps15
        go_wp2_with fail
        refine HCK.out.mono ?_
        rintro e w2 ⟨rfl, hb⟩
        rw [chk_nil HK.out]
        replace hb := hide hb
        clear HCK
        go_wp2
        go_ret2
        exact RunsAns.no (uE_many HK.out HN.out) (by decide) hb.out
      · have hd1 : decide (n < 0) = false := by simp; omega
        have hd2 : decide (4096 < n) = true := by simpa using hn
        go_enter Try.func15, Try.ntmps15
        go_wp2_with fail
        refine HCK.out.mono ?_
        rintro e w2 ⟨rfl, hb⟩
        rw [chk_nil HK.out]
        replace hb := hide hb
        clear HCK
        go_wp2
        go_ret2
        exact RunsAns.no (uE_many HK.out HN.out) (by decide) hb.out
    · obtain ⟨N, rfl⟩ : ∃ N : Nat, n = (N : Int) := ⟨n.toNat, by omega⟩
      exact toruns_some ao len cap b N kind w h h256 hm (by omega) hk
/-- What Of answers. -/
def SpreadAns (b : List Nat) (n kind : Int) (w : World) (e : Ending) (w' : World) : Prop := ∃ v, e = .returned (.tuple #[v, .int .i64 (Z.uE b n kind)]) ∧ OwnV w' w.heap.size v (Z.sp (Z.uL b n kind)) ∧ Below w.heap.size w w'
theorem own_lowV {w : World} {B C : Nat} {v : Value} {l : List Z.V} (h : OwnV w B v l) (hC : C ≤ B) : OwnV w C v l := owns_base h fun g hg => Nat.le_trans hC (owns_lt h hg).1
theorem uL_len {b : List Nat} {n kind : Int} (h256 : ∀ x ∈ b, x < 256) : (Z.uL b n kind).length ≤ 4096 := by
  by_cases h : Z.uE b n kind = 0
  · have h1 := neat_few (u_two h256 h).1
    have h2 := uL_few (n := n) (kind := kind) h256
    omega
  · rw [uL_bad h]; simp
theorem rlof_any (ao : Option Addr) (len cap : Nat) (b : List Nat) (n kind : Int) (w : World) (h : Sl w .u8 ao len cap (ints b)) (h256 : ∀ x ∈ b, x < 256) (hm : len ≤ 140737488355328) :
    Calls Try.prog 13 #[.slice ao len cap, .int .i64 n, .int .i64 kind] w (SpreadAns b n kind w) := by
  have HT := hide (toruns_any ao len cap b n kind w h h256 hm)
  have HF := hide (uL_len (n := n) (kind := kind) h256)
  have HSF := hide (spr_few (uL_few (n := n) (kind := kind) h256))
  clear h h256
  go_enter Try.func13, Try.ntmps13
  go_wp2_with fail
  refine HT.out.mono ?_
  rintro e w1 ⟨v, rfl, ho, hb⟩
  obtain ⟨ra, rc, rfl, hsl, _⟩ := SlR.of_own ho
  have HS := hide (spread_any ra _ rc _ w1 hsl (by have := HF.out; omega))
  obtain ⟨X, hX⟩ : ∃ X, Z.uE b n kind = X := ⟨_, rfl⟩
  obtain ⟨k, hk⟩ : ∃ k, (Z.uL b n kind).length = k := ⟨_, rfl⟩
  rw [hX, hk]
  rw [hk] at HS
  have HX := hide hX
  have HB := hide hb
  clear hX hk hsl ho hb HT
  go_wp2_with fail
  refine HS.out.mono ?_
  rintro e w2 ⟨v2, rfl, ho2, hb2⟩
  rw [HSF.out] at ho2
  have HO := hide (own_lowV ho2 HB.out.size)
  have HB2 := hide (bthen HB.out hb2)
  clear ho2 hb2 HS
  go_wp2
  go_ret2
  exact ⟨_, by rw [HX.out]; rfl, HO.out, HB2.out⟩
end Go.Proofs.Ytfggfmcbinhigaa
/- The document's Runs. -/
namespace Go.Proofs.Ytfggfmcbinhigaa
set_option linter.unusedVariables false
open Go.RowKit

theorem runs_rep {l : List Z.V} {x : Z.V} {n : Nat} (h : Z.isV (Z.top (Z.runs l).reverse) x = false) (hn : 1 ≤ n) : Z.runs (l ++ List.replicate n x) = Z.runs l ++ [⟨(n : Int), x⟩] := by
  have h1 : Z.top (Z.rr l) ≠ some x := by
    intro e
    rw [runs_rev, (isV_iff _ _).2 e] at h
    exact absurd h (by decide)
  have h2 := fold_run (t := Z.rr l) (r := ⟨(n : Int), x⟩) h1 (by show (1 : Int) ≤ (n : Int); omega)
  rw [show ((⟨(n : Int), x⟩ : Z.R)).n.toNat = n by show ((n : Int)).toNat = n; omega] at h2
  unfold Z.runs
  rw [show Z.rr (l ++ List.replicate n x) = (List.replicate n x).foldl Z.addR (Z.rr l) from by unfold Z.rr; rw [List.foldl_append], h2, List.reverse_cons]
/-- From one place on a value stands there, up to another one. -/
theorem take_rep {l : List Z.V} {x : Z.V} {p q : Nat} (hpq : p ≤ q) (hq : q ≤ l.length) (h : ∀ j, p ≤ j → j < q → l[j]? = some x) : l.take q = l.take p ++ List.replicate (q - p) x := by
  apply List.ext_getElem?
  intro j
  rw [List.getElem?_append, List.length_take, Nat.min_eq_left (by omega), List.getElem?_take]
  by_cases h1 : j < p
  · rw [if_pos h1, if_pos (by omega), List.getElem?_take, if_pos h1]
  · rw [if_neg h1, List.getElem?_replicate]
    by_cases h2 : j < q
    · rw [if_pos h2, if_pos (by omega), h j (by omega) h2]
    · rw [if_neg h2, if_neg (by omega)]

set_option maxHeartbeats 2000000 in
theorem rruns_some (b off len cap : Nat) (l : List Z.V) (w : World) (hl : l.length = len) (hm : len ≤ 100000000) (hlt : b < w.heap.size)
    (hc : ∀ j x, l[j]? = some x → w.cell? ⟨b, off + j * 3, none⟩ = some (.int .i64 x.k) ∧ w.cell? ⟨b, off + j * 3 + 1, none⟩ = some (.int .i64 x.i) ∧ w.cell? ⟨b, off + j * 3 + 2, none⟩ = some (.string x.s)) :
    Calls Try.prog 19 #[.slice (some ⟨b, off, none⟩) len cap] w fun e w' => ∃ v, e = .returned v ∧ OwnR w' 60 w.heap.size v (Z.runs l) ∧ Below w.heap.size w w' := by
  have HC := hide hc
  have HL := hide hl
  clear hc hl
  go_enter Try.func19, Try.ntmps19
  go_wp2_with fail
  go_loopw [3, 4] (fun v i wr => ∃ j : Nat, j ≤ len ∧ i = .int .i64 j ∧ Hid (OwnR wr 60 w.heap.size v (Z.runs (l.take j))) ∧ Hid (∀ x, l[j]? = some x → Z.isV (Z.top (Z.runs (l.take j)).reverse) x = false) ∧ Hid (Below w.heap.size w wr)) (fun _ i _ => len - (intOf i).toNat)
  case atStart => exact ⟨0, Nat.zero_le _, rfl, hide (ownR_nil _ _ _), hide (fun x _ => rfl), hide (Below.refl _ _)⟩
  case round =>
    obtain ⟨j, hj, rfl, hrow, hnew, hbw⟩ := hrel
    by_cases hjl : j < len
    · obtain ⟨⟨xk, xi, xs⟩, hx⟩ : ∃ x, l[j]? = some x := ⟨l[j]'(by rw [HL.out]; exact hjl), List.getElem?_eq_getElem _⟩
      obtain ⟨c1, c2, c3⟩ := HC.out j _ hx
      have HX := hide hx
      have HN := hide (hnew.out _ hx)
      have HC1 := hide c1
      have HC2 := hide c2
      have HC3 := hide c3
      have hrl : (Z.runs (l.take j)).length ≤ j := by
        have := runs_few (l.take j)
        rw [List.length_take] at this
        omega
      clear c1 c2 c3 hx
      go_wp2_with fail
      go_loopw [5] (fun i wq => ∃ q : Nat, q ≤ len ∧ j ≤ q ∧ i = .int .i64 q ∧ Hid (∀ p, j ≤ p → p < q → l[p]? = some ⟨xk, xi, xs⟩) ∧ Hid (OwnR wq 60 w.heap.size u3 (Z.runs (l.take j))) ∧ Hid (Below w.heap.size w wq)) (fun i _ => len - (intOf i).toNat)
      case atStart => exact ⟨j, hj, Nat.le_refl _, rfl, hide (fun p h1 h2 => absurd h2 (by omega)), hrow, hbw⟩
      case round =>
        obtain ⟨q, hql, hjq, rfl, hall, hrow, hbw⟩ := hrel
        have d1 : wr.cell? ⟨b, off + j * 3, none⟩ = some (.int .i64 xk) := by rw [hbw.out.cell (p := ⟨b, off + j * 3, none⟩) hlt]; exact HC1.out
        have d2 : wr.cell? ⟨b, off + j * 3 + 1, none⟩ = some (.int .i64 xi) := by rw [hbw.out.cell (p := ⟨b, off + j * 3 + 1, none⟩) hlt]; exact HC2.out
        have d3 : wr.cell? ⟨b, off + j * 3 + 2, none⟩ = some (.string xs) := by rw [hbw.out.cell (p := ⟨b, off + j * 3 + 2, none⟩) hlt]; exact HC3.out
        by_cases hqq : q < len
        · obtain ⟨⟨yk, yi, ys⟩, hy⟩ : ∃ x, l[q]? = some x := ⟨l[q]'(by rw [HL.out]; exact hqq), List.getElem?_eq_getElem _⟩
          obtain ⟨c1, c2, c3⟩ := HC.out q _ hy
          have e1 : wr.cell? ⟨b, off + q * 3, none⟩ = some (.int .i64 yk) := by rw [hbw.out.cell (p := ⟨b, off + q * 3, none⟩) hlt]; exact c1
          have e2 : wr.cell? ⟨b, off + q * 3 + 1, none⟩ = some (.int .i64 yi) := by rw [hbw.out.cell (p := ⟨b, off + q * 3 + 1, none⟩) hlt]; exact c2
          have e3 : wr.cell? ⟨b, off + q * 3 + 2, none⟩ = some (.string ys) := by rw [hbw.out.cell (p := ⟨b, off + q * 3 + 2, none⟩) hlt]; exact c3
          have hv := fun w => veq_run yk yi ys xk xi xs w
          have HY := hide hy
          obtain ⟨z, hz⟩ : ∃ z, Z.same ⟨yk, yi, ys⟩ ⟨xk, xi, xs⟩ = z := ⟨_, rfl⟩
          have HZ := hide hz
          rw [hz] at hv
          have hqi : (q : Int) < (len : Int) := by omega
          have hji : (j : Int) < (len : Int) := by omega
          clear c1 c2 c3 hy hz
          cases z with
          | true =>
            go_wp2_with fail
            go_quiet (fail)
            go_wp2
            go_roundw
            case rel =>
              have hyx : (⟨yk, yi, ys⟩ : Z.V) = ⟨xk, xi, xs⟩ := (Z.same_iff _ _).1 HZ.out
              refine ⟨q + 1, hqq, by omega, by go_num, hide fun p h1 h2 => ?_, hide (hrow.out.below (below_drewN (Below.refl _ _) nq)), hide (below_drewN hbw.out nq)⟩
              by_cases h3 : p = q
              · subst h3; rw [HY.out, hyx]
              · exact hall.out p h1 (by omega)
            case measure => simp [intOf]; omega
          | false =>
            have hjq2 : j < q := by
              rcases Nat.lt_or_ge j q with h3 | h3
              · exact h3
              · exfalso
                have h4 : q = j := by omega
                have h5 := HY.out
                rw [h4, HX.out] at h5
                have h6 := Option.some.inj h5
                have h7 := HZ.out
                rw [← h6, Z.same_self] at h7
                exact absurd h7 (by decide)
            have HRN : Hid (Z.runs (l.take q) = Z.runs (l.take j) ++ [⟨(q : Int) - (j : Int), ⟨xk, xi, xs⟩⟩]) := by
              show _ = _
              rw [take_rep hjq (by rw [HL.out]; exact hql) hall.out, runs_rep HN.out (by omega), show ((q - j : Nat) : Int) = (q : Int) - (j : Int) by omega]
            have HNN : Hid (∀ x, l[q]? = some x → Z.isV (Z.top (Z.runs (l.take q)).reverse) x = false) := fun y hy => by
              rw [HY.out] at hy
              rw [HRN.out, top_snoc, ← Option.some.inj hy]
              show Z.same _ _ = false
              refine same_ne fun e => ?_
              have h7 := HZ.out
              have e2 : (⟨xk, xi, xs⟩ : Z.V) = ⟨yk, yi, ys⟩ := e
              rw [← e2, Z.same_self] at h7
              exact absurd h7 (by decide)
            go_wp2_with fail
            go_quiet (fail)
            obtain ⟨wn, hwn⟩ : ∃ wn, wr.drewN nq = wn := ⟨_, rfl⟩
            have hbn : Below wr.heap.size wr wn := by rw [← hwn]; exact below_drewN (Below.refl _ _) nq
            rw [hwn]
            have g1 : wn.cell? ⟨b, off + j * 3, none⟩ = some (.int .i64 xk) := by rw [← hwn]; exact d1
            have g2 : wn.cell? ⟨b, off + j * 3 + 1, none⟩ = some (.int .i64 xi) := by rw [← hwn]; exact d2
            have g3 : wn.cell? ⟨b, off + j * 3 + 2, none⟩ = some (.string xs) := by rw [← hwn]; exact d3
            have b3 := below_one wn (.cells #[.int .i64 ((q : Int) - (j : Int)), .int .i64 xk, .int .i64 xi, .string xs] 60)
            have HB3 := hide (bthen (bthen hbw.out hbn) b3)
            have HR3 := hide ((hrow.out.below hbn).below b3)
            have hsz := (bthen hbw.out hbn).size
            clear hwn hbn b3 d1 d2 d3 e1 e2 e3 hv
            go_wp2_with (at_builtin; refine wpList_appR 38 60 Try.underlying38 Try.infoRfRun rfl _ _ rfl w.heap.size u3 (Z.runs (l.take j)) rfl HR3.out (some ⟨wn.heap.size, 0, none⟩) 1 ⟨(q : Int) - (j : Int), ⟨xk, xi, xs⟩⟩ rfl (slR_one wn 60 ((q : Int) - (j : Int)) xk xi xs) (by omega) (by simp; omega) ?_)
            intro v4 w4 ho4 has
            rw [← HRN.out] at ho4
            have hb4 : Below w.heap.size w w4 := HB3.out.trans (has.below (by simp; omega) (fun k hk => (owns_lt HR3.out hk).1))
            have HO4 := hide ho4
            have HB4 := hide hb4
            clear ho4 hb4 has g1 g2 g3
            go_wp2
            go_roundw
            case rel => exact ⟨q, hql, rfl, HO4, HNN, HB4⟩
            case measure => simp [intOf]; omega
        · have hqe : q = len := by omega
          have hd : decide ((q : Int) < (len : Int)) = false := by simp; omega
          have HRN : Hid (Z.runs (l.take q) = Z.runs (l.take j) ++ [⟨(q : Int) - (j : Int), ⟨xk, xi, xs⟩⟩]) := by
            show _ = _
            rw [take_rep hjq (by rw [HL.out]; exact hql) hall.out, runs_rep HN.out (by omega), show ((q - j : Nat) : Int) = (q : Int) - (j : Int) by omega]
          have HNN : Hid (∀ x, l[q]? = some x → Z.isV (Z.top (Z.runs (l.take q)).reverse) x = false) := fun y hy => by
            rw [List.getElem?_eq_none (by rw [HL.out]; omega)] at hy
            exact absurd hy (by simp)
          clear hqe
          go_wp2_with fail
          go_quiet (fail)
          obtain ⟨wn, hwn⟩ : ∃ wn, wr.drewN nq = wn := ⟨_, rfl⟩
          have hbn : Below wr.heap.size wr wn := by rw [← hwn]; exact below_drewN (Below.refl _ _) nq
          rw [hwn]
          have g1 : wn.cell? ⟨b, off + j * 3, none⟩ = some (.int .i64 xk) := by rw [← hwn]; exact d1
          have g2 : wn.cell? ⟨b, off + j * 3 + 1, none⟩ = some (.int .i64 xi) := by rw [← hwn]; exact d2
          have g3 : wn.cell? ⟨b, off + j * 3 + 2, none⟩ = some (.string xs) := by rw [← hwn]; exact d3
          have b3 := below_one wn (.cells #[.int .i64 ((q : Int) - (j : Int)), .int .i64 xk, .int .i64 xi, .string xs] 60)
          have HB3 := hide (bthen (bthen hbw.out hbn) b3)
          have HR3 := hide ((hrow.out.below hbn).below b3)
          have hsz := (bthen hbw.out hbn).size
          clear hwn hbn b3 d1 d2 d3
          go_wp2_with (at_builtin; refine wpList_appR 38 60 Try.underlying38 Try.infoRfRun rfl _ _ rfl w.heap.size u3 (Z.runs (l.take j)) rfl HR3.out (some ⟨wn.heap.size, 0, none⟩) 1 ⟨(q : Int) - (j : Int), ⟨xk, xi, xs⟩⟩ rfl (slR_one wn 60 ((q : Int) - (j : Int)) xk xi xs) (by omega) (by simp; omega) ?_)
          intro v4 w4 ho4 has
          rw [← HRN.out] at ho4
          have hb4 : Below w.heap.size w w4 := HB3.out.trans (has.below (by simp; omega) (fun k hk => (owns_lt HR3.out hk).1))
          have HO4 := hide ho4
          have HB4 := hide hb4
          clear ho4 hb4 has g1 g2 g3
          go_wp2
          go_roundw
          case rel => exact ⟨q, hql, rfl, HO4, HNN, HB4⟩
          case measure => simp [intOf]; omega
    · obtain rfl : j = len := by omega
      have hll : l.take j = l := by rw [← HL.out, List.take_length]
      have HR : Hid (OwnR wr 60 w.heap.size u3 (Z.runs l)) := by
        have := hrow.out
        rwa [hll] at this
      clear hll hrow hnew
      go_wp2
      go_ret
      exact ⟨_, rfl, HR.out, hbw.out⟩
theorem rruns_none (ao : Option Addr) (cap : Nat) (w : World) : Calls Try.prog 19 #[.slice ao 0 cap] w fun e w' => ∃ v, e = .returned v ∧ OwnR w' 60 w.heap.size v (Z.runs []) ∧ Below w.heap.size w w' := by
  go_enter Try.func19, Try.ntmps19
  go_wp2_with fail
  go_rounds 1
  go_ret
  exact ⟨_, rfl, ownR_nil _ _ _, Below.refl _ _⟩
theorem rruns_any (ao : Option Addr) (len cap : Nat) (l : List Z.V) (w : World) (h : SlV w ao len cap l) (hm : len ≤ 100000000) :
    Calls Try.prog 19 #[.slice ao len cap] w fun e w' => ∃ v, e = .returned v ∧ OwnR w' 60 w.heap.size v (Z.runs l) ∧ Below w.heap.size w w' := by
  rcases h.2.2.2.2 with h5 | ⟨b, off, rfl, hlt, h5⟩
  · subst h5
    obtain rfl : l = [] := List.eq_nil_of_length_eq_zero h.1
    exact rruns_none ao cap w
  · exact rruns_some b off len cap l w h.1 hm hlt h5
end Go.Proofs.Ytfggfmcbinhigaa

/- The walk of the statement: runs of columns one behind the other. -/
import Derived.Test.YtfggfmcbinhigaaBdSJa
import Derived.Test.YtfggfmcbinhigaaBdQJ
import Derived.Test.YtfggfmcbinhigaaBdV
namespace Go.Proofs.Ytfggfmcbinhigaa
set_option linter.unusedVariables false
open Go.RowKit

set_option maxHeartbeats 4000000 in
theorem rleJoins_walk (w : World) (a : Option Addr) (len cap : Nat) (l : List Z.V) (hs : SlV w a len cap l) (hwf : ∀ x ∈ l, Z.Wf x) (hr : cap * 32 ≤ 140737488351232) (a1 : Option Addr) (len1 cap1 : Nat) (m : List Z.V) (hs1 : SlV w a1 len1 cap1 m) (hwf1 : ∀ x ∈ m, Z.Wf x) (hr1 : cap1 * 32 ≤ 140737488351232) :
    Calls Try.prog 7 #[.slice a len cap, .slice a1 len1 cap1] w fun e w' => e = .returned (.bool true) ∧ Below w.heap.size w w' := by
  have hlen : len ≤ 140737488351232 := by have := hs.2.1; omega
  have hlen1 : len1 ≤ 140737488351232 := by have := hs1.2.1; omega
  have HS := hide hs
  have HM := hide hs1
  have HLL := hide hs.1
  have HML := hide hs1.1
  clear hs hs1 hwf hwf1 hr hr1
  go_enter Try.func7, Try.ntmps7
  go_wp2_with fail
  refine (rshown_any _).mono ?_
  rintro e w1 ⟨rfl, hb⟩
  have b0 := hide hb
  clear hb
  go_wp2_with fail
  refine (rfew_any a len cap l _ (HS.out.below b0.out) (by omega)).mono ?_
  rintro e w2 ⟨q, rfl, hq, rfl⟩
  cases q with
  | false =>
    go_wp2
    go_ret
    exact ⟨rfl, b0.out⟩
  | true =>
    have hl1 := hq rfl
    clear hq
    go_wp2_with fail
    refine (rfew_any a1 len1 cap1 m _ (HM.out.below b0.out) (by omega)).mono ?_
    rintro e w3 ⟨q, rfl, hq, rfl⟩
    cases q with
    | false =>
      go_wp2
      go_ret
      exact ⟨rfl, b0.out⟩
    | true =>
      have hl2 := hq rfl
      clear hq
      have HJ := hide (joined l m)
      obtain ⟨ra, hra⟩ : ∃ r, Z.runs l = r := ⟨_, rfl⟩
      obtain ⟨rb, hrb⟩ : ∃ r, Z.runs m = r := ⟨_, rfl⟩
      obtain ⟨rc, hrc⟩ : ∃ r, Z.runs (l ++ m) = r := ⟨_, rfl⟩
      obtain ⟨la, hla⟩ : ∃ k, ra.length = k := ⟨_, rfl⟩
      obtain ⟨lb, hlb⟩ : ∃ k, rb.length = k := ⟨_, rfl⟩
      obtain ⟨lc, hlc⟩ : ∃ k, rc.length = k := ⟨_, rfl⟩
      rw [hra, hrb, hrc, hla, hlb, hlc] at HJ
      have hlal : la ≤ len := by rw [← hla, ← hra, ← HLL.out]; exact runs_few l
      have hlbl : lb ≤ len1 := by rw [← hlb, ← hrb, ← HML.out]; exact runs_few m
      have HLA0 : Hid (la = 0 → l = []) := fun h => runs_nil (by rw [hra]; exact List.eq_nil_of_length_eq_zero (by rw [hla]; exact h))
      have C1 : Hid (∀ w5, Below w.heap.size w w5 → Calls Try.prog 18 #[.slice a len cap] w5 fun e w' => ∃ a c, e = .returned (.slice a la c) ∧ SlR w' a la c ra ∧ Below w5.heap.size w5 w') := fun w5 h5 => by
        refine (runs_any a len cap l w5 (HS.out.below h5) (by omega)).mono ?_
        rintro e w' ⟨v, rfl, ho, hb⟩
        obtain ⟨sa, sc, rfl, hsl, _⟩ := SlR.of_own ho
        rw [hra, hla] at hsl
        rw [hra, hla]
        exact ⟨sa, sc, rfl, hsl, hb⟩
      have C2 : Hid (∀ w5, Below w.heap.size w w5 → Calls Try.prog 18 #[.slice a1 len1 cap1] w5 fun e w' => ∃ a c, e = .returned (.slice a lb c) ∧ SlR w' a lb c rb ∧ Below w5.heap.size w5 w') := fun w5 h5 => by
        refine (runs_any a1 len1 cap1 m w5 (HM.out.below h5) (by omega)).mono ?_
        rintro e w' ⟨v, rfl, ho, hb⟩
        obtain ⟨sa, sc, rfl, hsl, _⟩ := SlR.of_own ho
        rw [hrb, hlb] at hsl
        rw [hrb, hlb]
        exact ⟨sa, sc, rfl, hsl, hb⟩
      have C3 : Hid (∀ w5 p c, SlV w5 p (len + len1) c (l ++ m) → Calls Try.prog 18 #[.slice p (len + len1) c] w5 fun e w' => ∃ a c, e = .returned (.slice a lc c) ∧ SlR w' a lc c rc ∧ Below w5.heap.size w5 w') := fun w5 p c h5 => by
        refine (runs_any p (len + len1) c (l ++ m) w5 h5 (by omega)).mono ?_
        rintro e w' ⟨v, rfl, ho, hb⟩
        obtain ⟨sa, sc, rfl, hsl, _⟩ := SlR.of_own ho
        rw [hrc, hlc] at hsl
        rw [hrc, hlc]
        exact ⟨sa, sc, rfl, hsl, hb⟩
      have HRA := hide hra
      have HRC := hide hrc
      clear hra hrb hrc hla hlb hlc
      go_wp2_with fail
      refine (C1.out _ b0.out).mono ?_
      rintro e w4 ⟨pa, pc, rfl, h4, hb⟩
      replace b0 := hide (bthen b0.out hb)
      have H4 := hide h4
      clear h4 hb C1
      go_wp2_with fail
      refine (C2.out _ b0.out).mono ?_
      rintro e w5 ⟨qa, qc, rfl, h5, hb⟩
      replace b0 := hide (bthen b0.out hb)
      replace H4 := hide (H4.out.below hb)
      clear h5 hb C2
      go_wp2_with (at_builtin; refine wpList_appV rfl _ _ rfl w5.heap.size _ [] rfl (own_bareV' w5) a len cap l rfl ((HS.out.below b0.out).below (below_one w5 _)) (by simp; omega) (by simp) ?_)
      intro v6 w6 ho6 has _
      have hb6 : Below w5.heap.size w5 w6 := (below_one w5 _).trans (has.below (by simp) (fun k hk => by simp [Value.ownBlock] at hk; omega))
      have HO6 := hide ho6
      have HB6 := hide hb6
      have hsz6 := hb6.size
      clear ho6 has hb6
      go_wp2_with (at_builtin; refine wpList_appV rfl _ _ rfl w5.heap.size v6 l rfl HO6.out a1 len1 cap1 m rfl ((HM.out.below b0.out).below HB6.out) (by rw [HLL.out]; omega) hsz6 ?_)
      intro v7 w7 ho7 has _
      have hb7 : Below w5.heap.size w5 w7 := HB6.out.trans (has.below hsz6 (fun k hk => (owns_lt HO6.out hk).1))
      obtain ⟨p7, c7, rfl, s7, _⟩ := SlV.of_own ho7
      have hlm : (l ++ m).length = len + len1 := by rw [List.length_append, HLL.out, HML.out]
      rw [hlm] at s7 ⊢
      have HC := hide (C3.out w7 p7 c7 s7)
      replace b0 := hide (bthen b0.out hb7)
      replace H4 := hide (H4.out.below hb7)
      obtain ⟨L2, hL2⟩ : ∃ L2, len + len1 = L2 := ⟨_, rfl⟩
      rw [hL2] at HC ⊢
      clear ho7 has hb7 s7 HO6 HB6 hlm hsz6 C3 hL2
      go_wp2_with fail
      refine HC.out.mono ?_
      rintro e w8 ⟨ca, cc, rfl, h8, hb⟩
      replace b0 := hide (bthen b0.out hb)
      replace H4 := hide (H4.out.below hb)
      have H8 := hide h8
      clear h8 hb HC
      have HSL := hide (HS.out.below b0.out)
      have HSM := hide (HM.out.below b0.out)
      by_cases h0 : len = 0
      · subst h0
        obtain rfl : l = [] := List.eq_nil_of_length_eq_zero HLL.out
        obtain rfl : la = 0 := by omega
        have hlcb : lc = lb := by have := HJ.out.none (.inl rfl); omega
        subst hlcb
        clear hlal
        go_wp2_with fail
        go_quiet (fail)
        obtain ⟨wn, hwn⟩ : ∃ wn, w8.drewN nq = wn := ⟨_, rfl⟩
        have hbn : Below w8.heap.size w8 wn := by rw [← hwn]; exact below_drewN (Below.refl _ _) nq
        rw [hwn]
        replace b0 := hide (bthen b0.out hbn)
        clear hwn hbn
        go_wp2_with fail
        go_quiet (fail)
        have HBE := hide (below_drewN b0.out nq)
        go_wp2
        go_ret
        exact ⟨rfl, HBE.out⟩
      · have HL0 : Hid (l ≠ []) := fun e => h0 (by rw [← HLL.out, e]; rfl)
        obtain ⟨n0, n1, ⟨vk, vi, vs⟩, j1, j2, j3⟩ := HJ.out.head HL0.out
        rw [HRA.out] at j1
        rw [HRC.out] at j2
        have hla1 : 0 < la := by have := (List.getElem?_eq_some_iff.1 j1).1; have h2 := H4.out.1; omega
        have hlc1 : 0 < lc := by have := (List.getElem?_eq_some_iff.1 j2).1; have h2 := H8.out.1; omega
        rcases H4.out.2.2.2.2 with h5 | ⟨g, og, rfl, hgl, h5⟩
        · omega
        rcases H8.out.2.2.2.2 with h6 | ⟨f, of, rfl, hfl, h6⟩
        · omega
        have hlab : ((la : Int) == 0) = false := by simp; omega
        have hnn : decide (n0 ≤ n1) = true := by simpa using j3
        have hve := fun w => veq_run vk vi vs vk vi vs w
        rw [Z.same_self] at hve
        obtain ⟨c0, c1, c2, c3⟩ := h5 0 _ j1
        obtain ⟨d0, d1, d2, d3⟩ := h6 0 _ j2
        have hlai : (0 : Int) < (la : Int) := by omega
        have hlci : (0 : Int) < (lc : Int) := by omega
        replace c0 : w8.cell? ⟨g, og, none⟩ = some (.int .i64 n0) := c0
        replace c1 : w8.cell? ⟨g, og + 1, none⟩ = some (.int .i64 vk) := c1
        replace c2 : w8.cell? ⟨g, og + 2, none⟩ = some (.int .i64 vi) := c2
        replace c3 : w8.cell? ⟨g, og + 3, none⟩ = some (.string vs) := c3
        replace d0 : w8.cell? ⟨f, of, none⟩ = some (.int .i64 n1) := d0
        replace d1 : w8.cell? ⟨f, of + 1, none⟩ = some (.int .i64 vk) := d1
        replace d2 : w8.cell? ⟨f, of + 2, none⟩ = some (.int .i64 vi) := d2
        replace d3 : w8.cell? ⟨f, of + 3, none⟩ = some (.string vs) := d3
        have hnla : ¬ len < la := by omega
        clear j1 j2 h5 h6 j3
        have hlen0 : 0 < len := by omega
        have hleni : (0 : Int) < (len : Int) := by omega
        by_cases h1 : len1 = 0
        · subst h1
          obtain rfl : m = [] := List.eq_nil_of_length_eq_zero HML.out
          obtain rfl : lb = 0 := by omega
          obtain rfl : lc = la := by have := HJ.out.none (.inr rfl); omega
          clear hlbl
          go_wp2_with fail
          go_quiet (fail)
          obtain ⟨wn, hwn⟩ : ∃ wn, w8.drewN nq = wn := ⟨_, rfl⟩
          have hbn : Below w8.heap.size w8 wn := by rw [← hwn]; exact below_drewN (Below.refl _ _) nq
          rw [hwn]
          replace b0 := hide (bthen b0.out hbn)
          have k0 := (hbn.cell (p := ⟨g, og, none⟩) hgl).trans c0
          have k1 := (hbn.cell (p := ⟨g, og + 1, none⟩) hgl).trans c1
          have k2 := (hbn.cell (p := ⟨g, og + 2, none⟩) hgl).trans c2
          have k3 := (hbn.cell (p := ⟨g, og + 3, none⟩) hgl).trans c3
          have m0 := (hbn.cell (p := ⟨f, of, none⟩) hfl).trans d0
          have m1 := (hbn.cell (p := ⟨f, of + 1, none⟩) hfl).trans d1
          have m2 := (hbn.cell (p := ⟨f, of + 2, none⟩) hfl).trans d2
          have m3 := (hbn.cell (p := ⟨f, of + 3, none⟩) hfl).trans d3
          clear hwn hbn c0 c1 c2 c3 d0 d1 d2 d3
          go_wp2_with fail
          go_quiet (fail)
          have HBE := hide (below_drewN b0.out nq)
          go_wp2
          go_ret
          exact ⟨rfl, HBE.out⟩
        · have hlen10 : 0 < len1 := by omega
          have hlen1i : (0 : Int) < (len1 : Int) := by omega
          obtain ⟨p, hp⟩ : ∃ p, len = p + 1 := ⟨len - 1, by omega⟩
          have hpi : (len : Int) - 1 = (p : Int) := by omega
          have hpl : (p : Int) < (len : Int) := by omega
          obtain ⟨⟨xk, xi, xs⟩, hx⟩ : ∃ x, l[p]? = some x := ⟨l[p]'(by rw [HLL.out]; omega), List.getElem?_eq_getElem _⟩
          obtain ⟨⟨yk, yi, ys⟩, hy⟩ : ∃ x, m[0]? = some x := ⟨m[0]'(by rw [HML.out]; omega), List.getElem?_eq_getElem _⟩
          have hcnt := HJ.out.both _ _ (by rw [HLL.out, hp, Nat.add_sub_cancel]; exact hx) hy
          rcases HSL.out.2.2.2.2 with h5 | ⟨u, ou, rfl, hul, h5⟩
          · omega
          rcases HSM.out.2.2.2.2 with h6 | ⟨v, ov, rfl, hvl, h6⟩
          · omega
          obtain ⟨x0, x1, x2⟩ := h5 p _ hx
          obtain ⟨y0, y1, y2⟩ := h6 0 _ hy
          replace y0 : w8.cell? ⟨v, ov, none⟩ = some (.int .i64 yk) := y0
          replace y1 : w8.cell? ⟨v, ov + 1, none⟩ = some (.int .i64 yi) := y1
          replace y2 : w8.cell? ⟨v, ov + 2, none⟩ = some (.string ys) := y2
          have hvx := fun w => veq_run xk xi xs yk yi ys w
          obtain ⟨z, hz⟩ : ∃ z, Z.same ⟨xk, xi, xs⟩ ⟨yk, yi, ys⟩ = z := ⟨_, rfl⟩
          rw [hz] at hcnt hvx
          clear h5 h6 hx hy hz hp
          cases z with
          | true =>
            have hsum : (la : Int) + (lb : Int) - 1 = (lc : Int) := by rw [if_pos rfl] at hcnt; omega
            clear hcnt
            go_wp2_with fail
            go_quiet (fail)
            obtain ⟨wn, hwn⟩ : ∃ wn, w8.drewN nq = wn := ⟨_, rfl⟩
            have hbn : Below w8.heap.size w8 wn := by rw [← hwn]; exact below_drewN (Below.refl _ _) nq
            rw [hwn]
            replace b0 := hide (bthen b0.out hbn)
            have k0 := (hbn.cell (p := ⟨g, og, none⟩) hgl).trans c0
            have k1 := (hbn.cell (p := ⟨g, og + 1, none⟩) hgl).trans c1
            have k2 := (hbn.cell (p := ⟨g, og + 2, none⟩) hgl).trans c2
            have k3 := (hbn.cell (p := ⟨g, og + 3, none⟩) hgl).trans c3
            have m0 := (hbn.cell (p := ⟨f, of, none⟩) hfl).trans d0
            have m1 := (hbn.cell (p := ⟨f, of + 1, none⟩) hfl).trans d1
            have m2 := (hbn.cell (p := ⟨f, of + 2, none⟩) hfl).trans d2
            have m3 := (hbn.cell (p := ⟨f, of + 3, none⟩) hfl).trans d3
            clear x0 x1 x2 y0 y1 y2 hwn hbn c0 c1 c2 c3 d0 d1 d2 d3
            go_wp2_with fail
            go_quiet (fail)
            have HBE := hide (below_drewN b0.out nq)
            go_wp2
            go_ret
            exact ⟨rfl, HBE.out⟩
          | false =>
            have hsum : (la : Int) + (lb : Int) = (lc : Int) := by rw [if_neg (by decide)] at hcnt; omega
            clear hcnt
            go_wp2_with fail
            go_quiet (fail)
            obtain ⟨wn, hwn⟩ : ∃ wn, w8.drewN nq = wn := ⟨_, rfl⟩
            have hbn : Below w8.heap.size w8 wn := by rw [← hwn]; exact below_drewN (Below.refl _ _) nq
            rw [hwn]
            replace b0 := hide (bthen b0.out hbn)
            have k0 := (hbn.cell (p := ⟨g, og, none⟩) hgl).trans c0
            have k1 := (hbn.cell (p := ⟨g, og + 1, none⟩) hgl).trans c1
            have k2 := (hbn.cell (p := ⟨g, og + 2, none⟩) hgl).trans c2
            have k3 := (hbn.cell (p := ⟨g, og + 3, none⟩) hgl).trans c3
            have m0 := (hbn.cell (p := ⟨f, of, none⟩) hfl).trans d0
            have m1 := (hbn.cell (p := ⟨f, of + 1, none⟩) hfl).trans d1
            have m2 := (hbn.cell (p := ⟨f, of + 2, none⟩) hfl).trans d2
            have m3 := (hbn.cell (p := ⟨f, of + 3, none⟩) hfl).trans d3
            clear x0 x1 x2 y0 y1 y2 hwn hbn c0 c1 c2 c3 d0 d1 d2 d3
            go_wp2_with fail
            go_quiet (fail)
            have HBE := hide (below_drewN b0.out nq)
            go_wp2
            go_ret
            exact ⟨rfl, HBE.out⟩
end Go.Proofs.Ytfggfmcbinhigaa

/- The walk of the statement: a column of one kind is no one of another, but if it has no values. -/
import Derived.Test.YthcnfbjljkighaaBdQJ
import Derived.Test.YthcnfbjljkighaaBdS
namespace Go.Proofs.Ythcnfbjljkighaa
set_option linter.unusedVariables false
open Go.RowKit

theorem chk_null {l : List Z.V} {k : Int} (hk : Z.kindOk k = true) (hl : l.length ≤ 1000) : Z.chk (l ++ [Z.z0]) k = 7 := by
  refine chk_other hk (by rw [List.length_append]; simp; omega) ?_
  rw [List.any_append, Bool.or_eq_true]
  refine .inr ?_
  rcases kind_cases hk with rfl | rfl | rfl <;> rfl
theorem chk_two {l : List Z.V} {k j : Int} (h : Z.chk l k = 0) (hj : Z.kindOk j = true) (hne : k ≠ j) (hl : 0 < l.length) : Z.chk l j = 7 := by
  obtain ⟨h1, h2, h3, h4⟩ := chk_zero h
  refine chk_other hj h2 (List.any_eq_true.2 ⟨l[0], List.getElem_mem hl, ?_⟩)
  have := h3 l[0] (List.getElem_mem hl)
  unfold Z.isOther
  rw [this]
  simpa using hne
theorem chk_nil {j : Int} (hj : Z.kindOk j = true) : Z.chk [] j = 0 := chk_of (kind_cases hj) (by simp) (by simp) (by simp)
theorem rem3 (n : Int) (h0 : 0 ≤ n) : ∃ k : Int, n % 3 = k ∧ 0 ≤ k ∧ k ≤ 2 := ⟨n % 3, rfl, by omega, by omega⟩
theorem kind3 {k : Int} (h0 : 0 ≤ k) (h1 : k ≤ 2) : Z.kindOk (1 + k) = true := by
  obtain rfl | rfl | rfl : k = 0 ∨ k = 1 ∨ k = 2 := by omega
  all_goals rfl

set_option maxHeartbeats 4000000 in
theorem plainKinds_walk (w : World) (a : Option Addr) (len cap : Nat) (l : List Z.V) (hs : SlV w a len cap l) (hwf : ∀ x ∈ l, Z.Wf x) (hr : cap * 32 ≤ 140737488351232) (kind : Int) (wk : (Lit.int .u8 kind).wf = true) (other : Int) (wo : (Lit.int .u8 other).wf = true) :
    Calls Try.prog 6 #[.slice a len cap, .int .u8 kind, .int .u8 other] w fun e w' => e = .returned (.bool true) ∧ Below w.heap.size w w' := by
  have hlen : len ≤ 140737488351232 := by have := hs.2.1; omega
  have h1 := wf_u8 wk
  have h2 := wf_u8 wo
  have HS := hide hs
  have HWF := hide hwf
  have HLL := hide hs.1
  clear hs hwf hr wk wo
  go_enter Try.func6, Try.ntmps6
  go_wp2_with fail
  refine (plshown_any _).mono ?_
  rintro e w1 ⟨rfl, hb⟩
  have b0 := hide hb
  clear hb
  go_wp2_with fail
  refine (few_any a len cap l _ (HS.out.below b0.out) (by omega)).mono ?_
  rintro e w2 ⟨q, rfl, hq, rfl⟩
  cases q with
  | false =>
    go_wp2
    go_ret
    exact ⟨rfl, b0.out⟩
  | true =>
    have hl1 := hq rfl
    clear hq
    go_wp2_with fail
    obtain ⟨r1, hr1, p1, p2⟩ := rem3 kind h1.1
    obtain ⟨r2, hr2, p3, p4⟩ := rem3 other h2.1
    have K1 := hide (kind3 p1 p2)
    have J1 := hide (kind3 p3 p4)
    rw [hr1, hr2]
    clear hr1 hr2
    obtain ⟨k, hk⟩ : ∃ k : Int, 1 + r1 = k := ⟨_, rfl⟩
    obtain ⟨j, hj⟩ : ∃ j : Int, 1 + r2 = j := ⟨_, rfl⟩
    rw [hk] at K1 ⊢
    rw [hj] at J1 ⊢
    clear hk hj p1 p2 p3 p4
    refine (check_any a len cap l k _ (HS.out.below b0.out) (fun x hx => (HWF.out x hx).2.1)).mono ?_
    rintro e w3 ⟨rfl, hb⟩
    replace b0 := hide (bthen b0.out hb)
    clear hb
    by_cases h0 : Z.chk l k = 0
    · rw [h0]
      have HE := hide h0
      clear h0
      go_wp2_with (at_builtin; refine wpList_appV rfl _ _ rfl w3.heap.size _ [] rfl (own_bareV' w3) a len cap l rfl ((HS.out.below b0.out).below (below_one w3 _)) (by simp; omega) (by simp) ?_)
      intro v4 w4 ho4 has _
      have hb4 : Below w3.heap.size w3 w4 := (below_one w3 _).trans (has.below (by simp) (fun k hk => by simp [Value.ownBlock] at hk; omega))
      have ho4' : OwnV (w4.alloc (.cells #[.int .i64 0, .int .i64 0, .string ⟨#[]⟩] 41)) w3.heap.size v4 l := World.ownsRow.alloc ho4 _
      have hone := slV_one w4 0 0 ⟨#[]⟩
      have hb4' : Below w3.heap.size w3 (w4.alloc (.cells #[.int .i64 0, .int .i64 0, .string ⟨#[]⟩] 41)) := hb4.alloc hb4.size _
      have HO4 := hide ho4'
      have H1 := hide hone
      have HB4 := hide hb4'
      have hsz4 := hb4'.size
      clear ho4 ho4' has hb4 hone hb4'
      go_wp2_with (at_builtin; refine wpList_appV rfl _ _ rfl w3.heap.size v4 l rfl HO4.out (some ⟨w4.heap.size, 0, none⟩) 1 1 [Z.z0] rfl H1.out (by rw [HLL.out]; omega) hsz4 ?_)
      intro v5 w5 ho5 has _
      have hb5 : Below w3.heap.size w3 w5 := HB4.out.trans (has.below hsz4 (fun k hk => (owns_lt HO4.out hk).1))
      obtain ⟨p6, c6, rfl, s6, _⟩ := SlV.of_own ho5
      have hla : (l ++ [Z.z0]).length = len + 1 := by rw [List.length_append, HLL.out]; rfl
      rw [hla] at s6 ⊢
      have HS6 := hide s6
      replace b0 := hide (bthen b0.out hb5)
      clear ho5 has hb5 s6 HO4 HB4 hla hsz4 H1
      go_wp2_with fail
      refine (pbytes_any p6 (len + 1) c6 (l ++ [Z.z0]) k _ HS6.out (fun x hx => by
        rcases List.mem_append.1 hx with hx | hx
        · exact (HWF.out x hx).2.1
        · obtain rfl := List.mem_singleton.1 hx
          exact ⟨by decide, by decide⟩)).mono ?_
      rintro e w6 ⟨ra, rc, rfl, _, hb⟩
      rw [chk_null K1.out (by rw [HLL.out]; exact hl1)]
      generalize (Z.cb (l ++ [Z.z0]) k).length = n6
      replace b0 := hide (bthen b0.out hb)
      clear hb HS6
      go_wp2_with fail
      refine (check_any a len cap l j _ (HS.out.below b0.out) (fun x hx => (HWF.out x hx).2.1)).mono ?_
      rintro e w7 ⟨rfl, hb⟩
      replace b0 := hide (bthen b0.out hb)
      clear hb
      by_cases hkj : k = j
      · subst hkj
        rw [HE.out]
        go_wp2_with fail
        refine (check_any a len cap l 0 _ (HS.out.below b0.out) (fun x hx => (HWF.out x hx).2.1)).mono ?_
        rintro e w8 ⟨rfl, hb⟩
        rw [chk_kind (l := l) (kind := 0) rfl]
        replace b0 := hide (bthen b0.out hb)
        clear hb
        go_wp2_with fail
        refine (check_any a len cap l 4 _ (HS.out.below b0.out) (fun x hx => (HWF.out x hx).2.1)).mono ?_
        rintro e w9 ⟨rfl, hb⟩
        rw [chk_kind (l := l) (kind := 4) rfl]
        replace b0 := hide (bthen b0.out hb)
        clear hb
        go_wp2
        go_ret
        exact ⟨rfl, b0.out⟩
      · have hkb : (k == j) = false := by simpa using hkj
        have HKJ := hide hkj
        clear hkj
        by_cases hl0 : len = 0
        · subst hl0
          rw [show Z.chk l j = 0 by rw [List.eq_nil_of_length_eq_zero HLL.out]; exact chk_nil J1.out]
          go_wp2_with fail
          refine (check_any a 0 cap l 0 _ (HS.out.below b0.out) (fun x hx => (HWF.out x hx).2.1)).mono ?_
          rintro e w8 ⟨rfl, hb⟩
          rw [chk_kind (l := l) (kind := 0) rfl]
          replace b0 := hide (bthen b0.out hb)
          clear hb
          go_wp2_with fail
          refine (check_any a 0 cap l 4 _ (HS.out.below b0.out) (fun x hx => (HWF.out x hx).2.1)).mono ?_
          rintro e w9 ⟨rfl, hb⟩
          rw [chk_kind (l := l) (kind := 4) rfl]
          replace b0 := hide (bthen b0.out hb)
          clear hb
          go_wp2
          go_ret
          exact ⟨rfl, b0.out⟩
        · have hlb : ((len : Int) == 0) = false := by simp; omega
          rw [chk_two HE.out J1.out HKJ.out (by rw [HLL.out]; omega)]
          clear hl0
          go_wp2_with fail
          refine (check_any a len cap l 0 _ (HS.out.below b0.out) (fun x hx => (HWF.out x hx).2.1)).mono ?_
          rintro e w8 ⟨rfl, hb⟩
          rw [chk_kind (l := l) (kind := 0) rfl]
          replace b0 := hide (bthen b0.out hb)
          clear hb
          go_wp2_with fail
          refine (check_any a len cap l 4 _ (HS.out.below b0.out) (fun x hx => (HWF.out x hx).2.1)).mono ?_
          rintro e w9 ⟨rfl, hb⟩
          rw [chk_kind (l := l) (kind := 4) rfl]
          replace b0 := hide (bthen b0.out hb)
          clear hb
          go_wp2
          go_ret
          exact ⟨rfl, b0.out⟩
    · obtain ⟨E, hE⟩ : ∃ E, Z.chk l k = E := ⟨_, rfl⟩
      rw [hE] at h0 ⊢
      have hEb : (E != 0) = true := by simpa using h0
      clear hE
      go_wp2
      go_ret
      exact ⟨rfl, b0.out⟩
end Go.Proofs.Ythcnfbjljkighaa

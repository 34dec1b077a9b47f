/- The walk of the statement: the bytes of two columns one behind the other are those of both. -/
import Derived.Test.YthcnfbjljkighaaBdS
namespace Go.Proofs.Ythcnfbjljkighaa
set_option linter.unusedVariables false
open Go.RowKit

theorem chk_join {l m : List Z.V} {kind : Int} (hl : l.length ≤ 1000) (hm : m.length ≤ 1000) : Z.chk (l ++ m) kind = 0 ↔ Z.chk l kind = 0 ∧ Z.chk m kind = 0 := by
  constructor
  · intro h
    obtain ⟨h1, h2, h3, h4⟩ := chk_zero h
    exact ⟨chk_of h1 (by omega) (fun x hx => h3 x (List.mem_append_left _ hx)) (fun x hx => h4 x (List.mem_append_left _ hx)), chk_of h1 (by omega) (fun x hx => h3 x (List.mem_append_right _ hx)) (fun x hx => h4 x (List.mem_append_right _ hx))⟩
  · rintro ⟨h, k⟩
    obtain ⟨h1, h2, h3, h4⟩ := chk_zero h
    obtain ⟨k1, k2, k3, k4⟩ := chk_zero k
    refine chk_of h1 (by rw [List.length_append]; omega) (fun x hx => ?_) (fun x hx => ?_)
    · rcases List.mem_append.1 hx with hx | hx
      · exact h3 x hx
      · exact k3 x hx
    · rcases List.mem_append.1 hx with hx | hx
      · exact h4 x hx
      · exact k4 x hx
theorem str_append (a b : List Nat) : strOfNums (ints (a ++ b)) = strOfNums (ints a) ++ strOfNums (ints b) := by
  apply ByteArray.ext
  apply Array.ext'
  rw [strOfNums_data, ByteArray.data_append, Array.toList_append, strOfNums_data, strOfNums_data]
  simp [ints]
theorem own_bareV' (w : World) : OwnV (w.alloc (.cells #[] 41)) w.heap.size (.slice (some ⟨w.heap.size, 0, none⟩) 0 0) [] := World.ownsRow_lit w #[] 0 (Nat.le_refl _) (by decide) rfl

set_option maxHeartbeats 4000000 in
theorem plainJoins_walk (w : World) (a : Option Addr) (len cap : Nat) (l : List Z.V) (hs : SlV w a len cap l) (hwf : ∀ x ∈ l, Z.Wf x) (hr : cap * 32 ≤ 140737488351232) (a1 : Option Addr) (len1 cap1 : Nat) (m : List Z.V) (hs1 : SlV w a1 len1 cap1 m) (hwf1 : ∀ x ∈ m, Z.Wf x) (hr1 : cap1 * 32 ≤ 140737488351232) (kind : Int) (wk : (Lit.int .i64 kind).wf = true) :
    Calls Try.prog 5 #[.slice a len cap, .slice a1 len1 cap1, .int .i64 kind] w fun e w' => e = .returned (.bool true) ∧ Below w.heap.size w w' := by
  have hlen : len ≤ 140737488351232 := by have := hs.2.1; omega
  have hlen1 : len1 ≤ 140737488351232 := by have := hs1.2.1; omega
  have HS := hide hs
  have HM := hide hs1
  have HWF := hide hwf
  have HWM := hide hwf1
  have HLL := hide hs.1
  have HML := hide hs1.1
  clear hs hs1 hwf hwf1 hr hr1 wk
  go_enter Try.func5, Try.ntmps5
  go_wp2_with fail
  refine (plshown_any _).mono ?_
  rintro e w1 ⟨rfl, hb⟩
  have b0 := hide hb
  clear hb
  go_wp2_with fail
  refine (few_any a len cap l _ (HS.out.below b0.out) (by omega)).mono ?_
  rintro e w2 ⟨q, rfl, hq, rfl⟩
  cases q with
  | false =>
    go_wp2
    go_ret
    exact ⟨rfl, b0.out⟩
  | true =>
    have hl1 := hq rfl
    clear hq
    go_wp2_with fail
    refine (few_any a1 len1 cap1 m _ (HM.out.below b0.out) (by omega)).mono ?_
    rintro e w2 ⟨q, rfl, hq, rfl⟩
    cases q with
    | false =>
      go_wp2
      go_ret
      exact ⟨rfl, b0.out⟩
    | true =>
      have hl2 := hq rfl
      clear hq
      go_wp2_with fail
      refine (pbytes_any a len cap l kind _ (HS.out.below b0.out) (fun x hx => (HWF.out x hx).2.1)).mono ?_
      rintro e w3 ⟨pa, pc, rfl, hs3, hb⟩
      replace b0 := hide (bthen b0.out hb)
      have HP := hide hs3
      obtain ⟨E, hE⟩ : ∃ E, Z.chk l kind = E := ⟨_, rfl⟩
      obtain ⟨K, hK⟩ : ∃ K, (Z.cb l kind).length = K := ⟨_, rfl⟩
      rw [hK] at HP
      rw [hE, hK]
      have HE := hide hE
      clear hb hs3 hE hK
      go_wp2_with fail
      refine (pbytes_any a1 len1 cap1 m kind _ (HM.out.below b0.out) (fun x hx => (HWM.out x hx).2.1)).mono ?_
      rintro e w4 ⟨qa, qc, rfl, hs4, hb⟩
      replace b0 := hide (bthen b0.out hb)
      replace HP := hide (HP.out.below hb)
      have HQ := hide hs4
      obtain ⟨F, hF⟩ : ∃ E, Z.chk m kind = E := ⟨_, rfl⟩
      obtain ⟨J, hJ⟩ : ∃ K, (Z.cb m kind).length = K := ⟨_, rfl⟩
      rw [hJ] at HQ
      rw [hF, hJ]
      have HF := hide hF
      clear hb hs4 hF hJ
      go_wp2_with (at_builtin; refine wpList_appV rfl _ _ rfl w4.heap.size _ [] rfl (own_bareV' w4) a len cap l rfl ((HS.out.below b0.out).below (below_one w4 _)) (by simp; omega) (by simp) ?_)
      intro v5 w5 ho5 has _
      have hb5 : Below w4.heap.size w4 w5 := (below_one w4 _).trans (has.below (by simp) (fun k hk => by simp [Value.ownBlock] at hk; omega))
      have HO5 := hide ho5
      have HB5 := hide hb5
      have hsz5 := hb5.size
      clear ho5 has hb5
      go_wp2_with (at_builtin; refine wpList_appV rfl _ _ rfl w4.heap.size v5 l rfl HO5.out a1 len1 cap1 m rfl ((HM.out.below b0.out).below HB5.out) (by rw [HLL.out]; omega) hsz5 ?_)
      intro v6 w6 ho6 has _
      have hb6 : Below w4.heap.size w4 w6 := HB5.out.trans (has.below hsz5 (fun k hk => (owns_lt HO5.out hk).1))
      obtain ⟨p6, c6, rfl, s6, _⟩ := SlV.of_own ho6
      have hla : (l ++ m).length = len + len1 := by rw [List.length_append, HLL.out, HML.out]
      rw [hla] at s6 ⊢
      have HS6 := hide s6
      replace b0 := hide (bthen b0.out hb6)
      replace HP := hide (HP.out.below hb6)
      replace HQ := hide (HQ.out.below hb6)
      clear ho6 has hb6 s6 HO5 HB5 hla hsz5
      go_wp2_with fail
      refine (pbytes_any p6 (len + len1) c6 (l ++ m) kind _ HS6.out (fun x hx => by rcases List.mem_append.1 hx with hx | hx; exact (HWF.out x hx).2.1; exact (HWM.out x hx).2.1)).mono ?_
      rintro e w7 ⟨ra, rc, rfl, hs7, hb⟩
      replace b0 := hide (bthen b0.out hb)
      replace HP := hide (HP.out.below hb)
      replace HQ := hide (HQ.out.below hb)
      have HR := hide hs7
      obtain ⟨G, hG⟩ : ∃ E, Z.chk (l ++ m) kind = E := ⟨_, rfl⟩
      obtain ⟨I, hI⟩ : ∃ K, (Z.cb (l ++ m) kind).length = K := ⟨_, rfl⟩
      rw [hI] at HR
      rw [hG, hI]
      have HG := hide hG
      have hj := chk_join (l := l) (m := m) (kind := kind) (by rw [HLL.out]; exact hl1) (by rw [HML.out]; exact hl2)
      rw [hG, HE.out, HF.out] at hj
      have HJ := hide hj
      clear hb hs7 hG hI hj HS6
      by_cases h1 : E = 0
      · subst h1
        by_cases h2 : F = 0
        · subst h2
          obtain rfl : G = 0 := HJ.out.2 ⟨rfl, rfl⟩
          have t1 := str_of HR.out
          have t2 := str_of HP.out
          have t3 := str_of HQ.out
          have z1 := cb_len (kind := kind) HWF.out
          have z2 := cb_len (kind := kind) HWM.out
          rw [cb_ok HG.out, pb_append, str_append] at t1
          rw [cb_ok HE.out] at t2 z1
          rw [cb_ok HF.out] at t3 z2
          obtain ⟨X, hX⟩ : ∃ X, strOfNums (ints (Z.pb l)) = X := ⟨_, rfl⟩
          obtain ⟨Y, hY⟩ : ∃ Y, strOfNums (ints (Z.pb m)) = Y := ⟨_, rfl⟩
          have y1 : X.size ≤ 4235264 := by rw [← hX, strOfNums_size, ints_length]; exact z1
          have y2 : Y.size ≤ 4235264 := by rw [← hY, strOfNums_size, ints_length]; exact z2
          rw [hX, hY] at t1
          rw [hX] at t2
          rw [hY] at t3
          have hxy : ((X ++ Y).toList == (X ++ Y).toList) = true := by simp
          clear hX hY z1 z2 HJ
          go_wp2
          go_ret
          exact ⟨rfl, b0.out⟩
        · have h2b : (F != 0) = true := by simpa using h2
          have hg : G ≠ 0 := fun e => h2 (HJ.out.1 e).2
          have hgb : (G != 0) = true := by simpa using hg
          clear HJ
          go_wp2
          go_ret
          exact ⟨rfl, b0.out⟩
      · have h1b : (E != 0) = true := by simpa using h1
        have hg : G ≠ 0 := fun e => h1 (HJ.out.1 e).1
        have hgb : (G != 0) = true := by simpa using hg
        clear HJ
        go_wp2
        go_ret
        exact ⟨rfl, b0.out⟩
end Go.Proofs.Ythcnfbjljkighaa

/- The walk of the statement: values' bytes, whether they may be a column's, and bytes as so many values, are the document's. -/
import Derived.Test.YthcnfbjljkighaaBdS
import Derived.Test.YthcnfbjljkighaaBdR
namespace Go.Proofs.Ythcnfbjljkighaa
set_option linter.unusedVariables false
open Go.RowKit

theorem cL_len (b : List Nat) (n kind : Int) : (Z.cL b n kind).length ≤ 4096 := by
  unfold Z.cL
  split
  · rename_i h
    have hn : ¬ (n < 0 ∨ 4096 < n) := by
      intro hn
      unfold Z.cE at h
      split at h
      · exact absurd h (by decide)
      · exact absurd h (by decide)
    rw [pL_length]
    omega
  · simp

set_option maxHeartbeats 4000000 in
theorem plainBytes_in (w : World) (a : Option Addr) (len cap : Nat) (l : List Z.V) (hs : SlV w a len cap l) (hwf : ∀ x ∈ l, Z.Wf x) (hr : cap * 32 ≤ 140737488351232) (kind : Int) (a1 : Option Addr) (len1 cap1 : Nat) (b : List Nat) (hb : Sl w .u8 a1 len1 cap1 (ints b)) (h256 : ∀ x ∈ b, x < 256) (hr1 : cap1 * 1 ≤ 140737488351232) (n : Int) :
    Calls Try.prog 3 #[.slice a len cap, .int .i64 kind, .slice a1 len1 cap1, .int .i64 n] w fun e w' => e = .returned (.bool true) ∧ Below w.heap.size w w' := by
  have hlen : len ≤ 140737488351232 := by have := hs.2.1; omega
  have hlen1 : len1 ≤ 140737488351232 := by have := hb.2.1; omega
  have HS := hide hs
  have HB := hide hb
  have H256 := hide h256
  have HWF := hide hwf
  have HLL := hide hs.1
  clear hs hb hwf hr hr1 h256
  go_enter Try.func3, Try.ntmps3
  go_wp2_with fail
  refine (plshown_any _).mono ?_
  rintro e w1 ⟨rfl, hb⟩
  have b0 := hide hb
  clear hb
  go_wp2_with fail
  refine (few_any a len cap l _ (HS.out.below b0.out) (by omega)).mono ?_
  rintro e w2 ⟨q, rfl, hq, rfl⟩
  cases q with
  | false =>
    go_wp2
    go_ret
    exact ⟨rfl, b0.out⟩
  | true =>
    clear hq
    obtain ⟨E, hE⟩ : ∃ E, Z.chk l kind = E := ⟨_, rfl⟩
    obtain ⟨K, hK⟩ : ∃ K, (Z.cb l kind).length = K := ⟨_, rfl⟩
    obtain ⟨F, hF⟩ : ∃ F, Z.cE b n kind = F := ⟨_, rfl⟩
    obtain ⟨vs, hvs⟩ : ∃ vs, Z.cL b n kind = vs := ⟨_, rfl⟩
    have hvl : vs.length ≤ 4096 := by rw [← hvs]; exact cL_len b n kind
    obtain ⟨m, hm⟩ : ∃ m, vs.length = m := ⟨_, rfl⟩
    rw [hm] at hvl
    have HE := hide hE
    have HK := hide hK
    have HF := hide hF
    have HVS := hide hvs
    have HM := hide hm
    clear hE hK hF hvs hm
    go_wp2_with fail
    refine (pbytes_any a len cap l kind _ (HS.out.below b0.out) (fun x hx => (HWF.out x hx).2.1)).mono ?_
    rintro e w3 ⟨pa, pc, rfl, hs3, hb⟩
    rw [HE.out, HK.out]
    rw [HK.out] at hs3
    replace b0 := hide (bthen b0.out hb)
    have HP := hide hs3
    clear hb hs3
    go_wp2_with fail
    refine (rbytes_any a len cap l kind _ (HS.out.below b0.out) (fun x hx => (HWF.out x hx).2.1)).mono ?_
    rintro e w4 ⟨qa, qc, rfl, hs4, hb⟩
    rw [HE.out, HK.out]
    rw [HK.out] at hs4
    replace b0 := hide (bthen b0.out hb)
    replace HP := hide (HP.out.below hb)
    have HQ := hide hs4
    clear hb hs4
    go_wp2_with fail
    refine (pof_any a1 len1 cap1 b n kind _ (HB.out.below b0.out) H256.out (by omega)).mono ?_
    rintro e w5 ⟨ra, rc, rfl, hs5, hb⟩
    rw [HF.out, HVS.out, HM.out]
    rw [HVS.out, HM.out] at hs5
    replace b0 := hide (bthen b0.out hb)
    replace HP := hide (HP.out.below hb)
    replace HQ := hide (HQ.out.below hb)
    have HR := hide hs5
    clear hb hs5
    go_wp2_with fail
    refine (rof_any a1 len1 cap1 b n kind _ (HB.out.below b0.out) H256.out (by omega)).mono ?_
    rintro e w6 ⟨sa, sc, rfl, hs6, hb⟩
    rw [HF.out, HVS.out, HM.out]
    rw [HVS.out, HM.out] at hs6
    replace b0 := hide (bthen b0.out hb)
    replace HP := hide (HP.out.below hb)
    replace HQ := hide (HQ.out.below hb)
    replace HR := hide (HR.out.below hb)
    have HT := hide hs6
    clear hb hs6
    go_wp2_with fail
    refine (check_any a len cap l kind _ (HS.out.below b0.out) (fun x hx => (HWF.out x hx).2.1)).mono ?_
    rintro e w7 ⟨rfl, hb⟩
    rw [HE.out]
    replace b0 := hide (bthen b0.out hb)
    replace HP := hide (HP.out.below hb)
    replace HQ := hide (HQ.out.below hb)
    replace HR := hide (HR.out.below hb)
    replace HT := hide (HT.out.below hb)
    clear hb
    go_wp2_with fail
    refine (rcheck_any a len cap l kind _ (HS.out.below b0.out) (fun x hx => (HWF.out x hx).2.1)).mono ?_
    rintro e w8 ⟨rfl, hb⟩
    rw [HE.out]
    replace b0 := hide (bthen b0.out hb)
    replace HP := hide (HP.out.below hb)
    replace HQ := hide (HQ.out.below hb)
    replace HR := hide (HR.out.below hb)
    replace HT := hide (HT.out.below hb)
    clear hb
    have t1 := str_of HP.out
    have t2 := str_of HQ.out
    obtain ⟨X, hX⟩ : ∃ X, strOfNums (ints (Z.cb l kind)) = X := ⟨_, rfl⟩
    rw [hX] at t1 t2
    have hxx : (X.toList == X.toList) = true := by simp
    have hee : (E == E) = true := by simp
    have hff : (F == F) = true := by simp
    clear hX
    go_wp2_with fail
    refine (vsame_yes ra sa m rc sc vs _ HR.out HT.out (by omega)).mono ?_
    rintro e w9 ⟨rfl, hb⟩
    replace b0 := hide (bthen b0.out hb)
    clear hb t1 t2
    go_wp2
    go_ret
    exact ⟨rfl, b0.out⟩
theorem plainBytes_walk (w : World) (a : Option Addr) (len cap : Nat) (l : List Z.V) (hs : SlV w a len cap l) (hwf : ∀ x ∈ l, Z.Wf x) (hr : cap * 32 ≤ 140737488351232) (kind : Int) (wk : (Lit.int .i64 kind).wf = true) (a1 : Option Addr) (len1 cap1 : Nat) (z : List Int) (c : Came .u8 w a1 len1 cap1 z) (hr1 : cap1 * 1 ≤ 140737488351232) (n : Int) (wn : (Lit.int .i64 n).wf = true) :
    Calls Try.prog 3 #[.slice a len cap, .int .i64 kind, .slice a1 len1 cap1, .int .i64 n] w fun e w' => e = .returned (.bool true) ∧ Below w.heap.size w w' := by
  obtain ⟨b, rfl, h256⟩ := came_bytes c
  exact plainBytes_in w a len cap l hs hwf hr kind a1 len1 cap1 b c.1 h256 hr1 n
end Go.Proofs.Ythcnfbjljkighaa

/- DeltaBytes: any values' steps, and bytes, whether they rise, and any bytes as so many numbers, are the document's, or refused. Conditions: none. -/
import Derived.Test.YtkcpfgjkplailaaBdX
import Derived.Test.YtkcpfgjkplailaaBdKG
import Derived.Test.YtkcpfgjkplailaaBdKD
import Derived.Test.YtkcpfgjkplailaaBdWD
import Derived.Test.YtkcpfgjkplailaaBdRX
import Derived.Test.YtkcpfgjkplailaaBdY
namespace Go.Proofs.Ytkcpfgjkplailaa
set_option linter.unusedVariables false
set_option maxRecDepth 10000
open Go.RowKit
set_option maxHeartbeats 4000000 in
theorem deltaBytes_in (w : World) (a : Option Addr) (len cap : Nat) (l : List Z.V) (hs : SlV w a len cap l) (hwf : ∀ x ∈ l, Z.Wf x) (hr : cap * 32 ≤ 140737488351232) (a1 : Option Addr) (len1 cap1 : Nat) (b : List Nat) (hb : Sl w .u8 a1 len1 cap1 (ints b)) (h256 : ∀ x ∈ b, x < 256) (hr1 : cap1 * 1 ≤ 140737488351232) (n : Int) :
    Calls Try.prog 3 #[.slice a len cap, .slice a1 len1 cap1, .int .i64 n] w fun e w' => e = .returned (.bool true) ∧ Below w.heap.size w w' := by
  have hlen : len ≤ 140737488351232 := by have := hs.2.1; omega
  have hlen1 : len1 ≤ 140737488351232 := by have := hb.2.1; omega
  have HS := hide hs
  have HB := hide hb
  have H256 := hide h256
  have HWF := hide hwf
  clear hs hb hwf hr hr1 h256
  go_enter Try.func3, Try.ntmps3
  go_wp2_with fail
  refine (mshown_any _).mono ?_
  rintro e w1 ⟨rfl, hb⟩
  have b0 := hide hb
  clear hb
  go_wp2_with fail
  refine (mfew_any a len cap l _ (HS.out.below b0.out) (by omega)).mono ?_
  rintro e w2 ⟨q, rfl, hq, rfl⟩
  cases q with
  | false =>
    go_wp2
    go_ret
    exact ⟨rfl, b0.out⟩
  | true =>
    have hl1 := hq rfl
    clear hq
    have f3 := feL_few b n
    obtain ⟨xs, hxs⟩ : ∃ xs, Z.decb l = xs := ⟨_, rfl⟩
    obtain ⟨K, hK⟩ : ∃ K, xs.length = K := ⟨_, rfl⟩
    obtain ⟨E, hE⟩ : ∃ E, Z.chk l 1 = E := ⟨_, rfl⟩
    obtain ⟨X, hX⟩ : ∃ X, Z.feE b n = X := ⟨_, rfl⟩
    obtain ⟨vs, hvs⟩ : ∃ vs, Z.feL b n = vs := ⟨_, rfl⟩
    obtain ⟨N, hN⟩ : ∃ N, vs.length = N := ⟨_, rfl⟩
    obtain ⟨us, hus⟩ : ∃ us, Z.dst l = us := ⟨_, rfl⟩
    obtain ⟨M, hM⟩ : ∃ M, us.length = M := ⟨_, rfl⟩
    obtain ⟨u, hu⟩ : ∃ u, Z.upB l = u := ⟨_, rfl⟩
    have hN4 : N ≤ 4096 := by rw [← hN, ← hvs]; exact f3
    have hM4 : M ≤ 1000 := by rw [← hM, ← hus, dst_length, HS.out.1]; omega
    have D1 : Hid (∀ w9 : World, Below w.heap.size w w9 → Calls Try.prog 10 #[.slice a len cap] w9 fun e w' => ∃ a c, e = .returned (.tuple #[.slice a K c, .int .i64 E]) ∧ Sl w' .u8 a K c (ints xs) ∧ Below w9.heap.size w9 w') := fun w9 h9 => by
      have := debytes_any a len cap l w9 (HS.out.below h9) (fun x hx => (HWF.out x hx).2.1)
      unfold DeltaBytesAns at this
      rwa [hxs, hK, hE] at this
    have D2 : Hid (∀ w9 : World, Below w.heap.size w w9 → Calls Try.prog 11 #[.slice a len cap] w9 fun e w' => ∃ a c, e = .returned (.tuple #[.slice a K c, .int .i64 E]) ∧ Sl w' .u8 a K c (ints xs) ∧ Below w9.heap.size w9 w') := fun w9 h9 => by
      have := rdebytes_any a len cap l w9 (HS.out.below h9) (fun x hx => (HWF.out x hx).2.1)
      unfold DeltaBytesAns at this
      rwa [hxs, hK, hE] at this
    have D3 : Hid (∀ w9 : World, Below w.heap.size w w9 → Calls Try.prog 12 #[.slice a1 len1 cap1, .int .i64 n] w9 fun e w' => ∃ a c, e = .returned (.tuple #[.slice a N c, .int .i64 X]) ∧ SlV w' a N c vs ∧ Below w9.heap.size w9 w') := fun w9 h9 => by
      have := deof_any a1 len1 cap1 b n w9 (HB.out.below h9) H256.out (by omega)
      unfold DeltaOfAns at this
      rwa [hvs, hN, hX] at this
    have D4 : Hid (∀ w9 : World, Below w.heap.size w w9 → Calls Try.prog 13 #[.slice a1 len1 cap1, .int .i64 n] w9 fun e w' => ∃ a c, e = .returned (.tuple #[.slice a N c, .int .i64 X]) ∧ SlV w' a N c vs ∧ Below w9.heap.size w9 w') := fun w9 h9 => by
      have := drof_any a1 len1 cap1 b n w9 (HB.out.below h9) H256.out (by omega)
      unfold DeltaOfAns at this
      rwa [hvs, hN, hX] at this
    have D5 : Hid (∀ w9 : World, Below w.heap.size w w9 → Calls Try.prog 15 #[.slice a len cap] w9 fun e w' => ∃ a c, e = .returned (.slice a M c) ∧ Sl w' .u64 a M c (ints us) ∧ Below w9.heap.size w9 w') := fun w9 h9 => by
      have := steps_any a len cap l w9 (HS.out.below h9) (fun x hx => (HWF.out x hx).2.1) (by omega)
      unfold StepsAns at this
      rwa [hus, hM] at this
    have D6 : Hid (∀ w9 : World, Below w.heap.size w w9 → Calls Try.prog 16 #[.slice a len cap] w9 fun e w' => ∃ a c, e = .returned (.slice a M c) ∧ Sl w' .u64 a M c (ints us) ∧ Below w9.heap.size w9 w') := fun w9 h9 => by
      have := rsteps_any a len cap l w9 (HS.out.below h9) (fun x hx => (HWF.out x hx).2.1) (by omega)
      unfold StepsAns at this
      rwa [hus, hM] at this
    have D7 : Hid (∀ w9 : World, Below w.heap.size w w9 → Calls Try.prog 17 #[.slice a len cap] w9 fun e w' => e = .returned (.bool u) ∧ Below w9.heap.size w9 w') := fun w9 h9 => by
      have := sorted_any a len cap l w9 (HS.out.below h9) (by omega)
      rwa [hu] at this
    have D8 : Hid (∀ w9 : World, Below w.heap.size w w9 → Calls Try.prog 18 #[.slice a len cap] w9 fun e w' => e = .returned (.bool u) ∧ Below w9.heap.size w9 w') := fun w9 h9 => by
      have := rsorted_any a len cap l w9 (HS.out.below h9) (fun x hx => (HWF.out x hx).2.2) (by omega)
      rwa [hu] at this
    clear hxs hK hE hX hvs hN hus hM hu f3
    go_wp2_with fail
    refine (D1.out _ b0.out).mono ?_
    rintro e w3 ⟨xa, xc, rfl, hs3, hb⟩
    replace b0 := hide (bthen b0.out hb)
    have HXX := hide hs3
    clear hb hs3
    go_wp2_with fail
    refine (D2.out _ b0.out).mono ?_
    rintro e w4 ⟨ya, yc, rfl, hs4, hb⟩
    replace b0 := hide (bthen b0.out hb)
    replace HXX := hide (HXX.out.below hb)
    have HYY := hide hs4
    clear hb hs4
    go_wp2_with fail
    refine (D3.out _ b0.out).mono ?_
    rintro e w5 ⟨pa, pc, rfl, hs5, hb⟩
    replace b0 := hide (bthen b0.out hb)
    replace HXX := hide (HXX.out.below hb)
    replace HYY := hide (HYY.out.below hb)
    have HPP := hide hs5
    clear hb hs5
    go_wp2_with fail
    refine (D4.out _ b0.out).mono ?_
    rintro e w6 ⟨qa, qc, rfl, hs6, hb⟩
    replace b0 := hide (bthen b0.out hb)
    replace HXX := hide (HXX.out.below hb)
    replace HYY := hide (HYY.out.below hb)
    replace HPP := hide (HPP.out.below hb)
    have HQQ := hide hs6
    clear hb hs6 D1 D2 D3 D4
    go_wp2_with fail
    refine (D5.out _ b0.out).mono ?_
    rintro e w7 ⟨sa, sc, rfl, hs7, hb⟩
    replace b0 := hide (bthen b0.out hb)
    replace HXX := hide (HXX.out.below hb)
    replace HYY := hide (HYY.out.below hb)
    replace HPP := hide (HPP.out.below hb)
    replace HQQ := hide (HQQ.out.below hb)
    have HVV := hide hs7
    clear hb hs7 D5
    go_wp2_with fail
    refine (D6.out _ b0.out).mono ?_
    rintro e w8 ⟨ta, tc, rfl, hs8, hb⟩
    replace b0 := hide (bthen b0.out hb)
    replace HXX := hide (HXX.out.below hb)
    replace HYY := hide (HYY.out.below hb)
    replace HPP := hide (HPP.out.below hb)
    replace HQQ := hide (HQQ.out.below hb)
    replace HVV := hide (HVV.out.below hb)
    have HZZ := hide hs8
    clear hb hs8 D6
    go_wp2_with fail
    refine (u64same_yes sa ta M sc tc (ints us) _ HVV.out HZZ.out (by omega)).mono ?_
    rintro e w10 ⟨rfl, hk⟩
    have hb := hk.below (Nat.le_refl _) (by simp)
    replace b0 := hide (bthen b0.out hb)
    replace HXX := hide (HXX.out.below hb)
    replace HYY := hide (HYY.out.below hb)
    replace HPP := hide (HPP.out.below hb)
    replace HQQ := hide (HQQ.out.below hb)
    clear hb hk HVV HZZ
    go_wp2_with fail
    refine (D7.out _ b0.out).mono ?_
    rintro e w11 ⟨rfl, hb⟩
    replace b0 := hide (bthen b0.out hb)
    replace HXX := hide (HXX.out.below hb)
    replace HYY := hide (HYY.out.below hb)
    replace HPP := hide (HPP.out.below hb)
    replace HQQ := hide (HQQ.out.below hb)
    clear hb D7
    go_wp2_with fail
    refine (D8.out _ b0.out).mono ?_
    rintro e w12 ⟨rfl, hb⟩
    replace b0 := hide (bthen b0.out hb)
    replace HXX := hide (HXX.out.below hb)
    replace HYY := hide (HYY.out.below hb)
    replace HPP := hide (HPP.out.below hb)
    replace HQQ := hide (HQQ.out.below hb)
    clear hb D8
    have t1 := str_of HXX.out
    have t2 := str_of HYY.out
    obtain ⟨S, hS⟩ : ∃ S, strOfNums (ints xs) = S := ⟨_, rfl⟩
    rw [hS] at t1 t2
    have hss : (S.toList == S.toList) = true := by simp
    have huu : (u == u) = true := by simp
    have hee : (E == E) = true := by simp
    have hxe : (X == X) = true := by simp
    clear hS HXX HYY
    go_wp2_with fail
    refine (vsame_yes pa qa N pc qc vs _ HPP.out HQQ.out (by omega)).mono ?_
    rintro e w14 ⟨rfl, hb⟩
    replace b0 := hide (bthen b0.out hb)
    clear hb HPP HQQ t1 t2
    go_wp2
    go_ret
    exact ⟨rfl, b0.out⟩
theorem deltaBytes_walk (w : World) (a : Option Addr) (len cap : Nat) (l : List Z.V) (hs : SlV w a len cap l) (hwf : ∀ x ∈ l, Z.Wf x) (hr : cap * 32 ≤ 140737488351232) (a1 : Option Addr) (len1 cap1 : Nat) (z : List Int) (c : Came .u8 w a1 len1 cap1 z) (hr1 : cap1 * 1 ≤ 140737488351232) (n : Int) (wn : (Lit.int .i64 n).wf = true) :
    Calls Try.prog 3 #[.slice a len cap, .slice a1 len1 cap1, .int .i64 n] w fun e w' => e = .returned (.bool true) ∧ Below w.heap.size w w' := by
  obtain ⟨b, rfl, h256⟩ := came_bytes c
  exact deltaBytes_in w a len cap l hs hwf hr a1 len1 cap1 b c.1 h256 hr1 n
end Go.Proofs.Ytkcpfgjkplailaa

/- The walk of the statement: what was laid down in runs is read; what is read is laid down as the very bytes. -/
import Derived.Test.YtfggfmcbinhigaaBdV
import Derived.Test.YtfggfmcbinhigaaBdQR
namespace Go.Proofs.Ytfggfmcbinhigaa
set_option linter.unusedVariables false
open Go.RowKit

theorem rb_lt : ∀ {rs : List Z.R}, (∀ r ∈ rs, Z.Wf r.v) → ∀ y ∈ Z.rb rs, y < 256
  | [], _, y, hy => by simp [Z.rb] at hy
  | r :: rs, h, y, hy => by
    rw [rb_cons] at hy
    rcases List.mem_append.1 hy with hy | hy
    · exact E.leb_lt _ y hy
    · rcases List.mem_append.1 hy with hy | hy
      · exact pb_lt (l := [r.v]) (by intro x hx; simp at hx; rw [hx]; exact h r (by simp)) y (by simp [Z.pb]; exact hy)
      · exact rb_lt (fun x hx => h x (by simp [hx])) y hy
theorem rcb_lt {l : List Z.V} {kind : Int} (h : ∀ x ∈ l, Z.Wf x) : ∀ y ∈ Z.rcb l kind, y < 256 := by
  unfold Z.rcb
  split
  · exact rb_lt fun r hr => h _ (run_mem hr)
  · simp
theorem rcb_len {l : List Z.V} {kind : Int} (h : ∀ x ∈ l, Z.Wf x) : (Z.rcb l kind).length ≤ 4276224 := by
  unfold Z.rcb
  split
  · rename_i h0
    have h1 := rb_le (Z.runs l) (rfit_runs (fun x hx => (h x hx).2.1) h0)
    have h2 := (chk_zero h0).2.1
    have h3 := runs_few l
    omega
  · simp
theorem tl_i64 {kind : Int} : ∀ (f n : Nat), n ≤ f → ∀ (p : Option Z.V) (b : List Nat), (∀ x ∈ b, x < 256) → ∀ r ∈ Z.tl kind n p b, Z.I64 r.v.i
  | f, 0, _, p, b, _, r, hr => by rw [tl_zero] at hr; simp at hr
  | 0, n + 1, hf, _, _, _, _, _ => absurd hf (by omega)
  | f + 1, n + 1, hf, p, b, h256, r, hr => by
    by_cases h2 : Z.r2 kind (n + 1) p b = 0
    · have g2 := (r1_ok (r2_n h2).1).2.1
      rw [tl_step (by omega) h2] at hr
      rcases List.mem_cons.1 hr with rfl | hr
      · exact oV_i64 (fun x hx => h256 x (List.mem_of_mem_drop hx)) kind
      · exact tl_i64 f (n + 1 - E.gN b) (by omega) _ _ (rnR_lt h256) r hr
    · unfold Z.tl at hr
      rw [Z.nX, if_neg h2] at hr
      simp at hr
theorem uL_i64 {b : List Nat} {n kind : Int} (h256 : ∀ x ∈ b, x < 256) : ∀ x ∈ Z.sp (Z.uL b n kind), Z.I64 x.i := fun x hx => by
  obtain ⟨r, hr, hx⟩ := List.mem_flatMap.1 hx
  rw [(List.mem_replicate.1 hx).2]
  unfold Z.uL at hr
  split at hr
  · exact tl_i64 _ _ (Nat.le_refl _) none b h256 r hr
  · simp at hr
theorem uE_two {b : List Nat} {n kind : Int} (h256 : ∀ x ∈ b, x < 256) (h : Z.uE b n kind = 0) : ∃ N : Nat, n = (N : Int) ∧ N ≤ 4096 ∧ (Z.sp (Z.uL b n kind)).length = N ∧ Z.chk (Z.sp (Z.uL b n kind)) kind = 0 ∧ Z.rcb (Z.sp (Z.uL b n kind)) kind = b := by
  obtain ⟨g1, g2, g3, g4⟩ := u_two h256 h
  obtain ⟨h1, h2, h3, _⟩ := uE_zero h
  have hm : ∀ x ∈ Z.sp (Z.uL b n kind), x.k = kind ∧ Z.may x = true := fun x hx => by
    obtain ⟨r, hr, hx⟩ := List.mem_flatMap.1 hx
    rw [(List.mem_replicate.1 hx).2]
    exact g2 r hr
  have hc : Z.chk (Z.sp (Z.uL b n kind)) kind = 0 := chk_of (kind_is h1) (by rw [g3]; omega) (fun x hx => (hm x hx).1) (fun x hx => (hm x hx).2)
  exact ⟨n.toNat, by omega, by omega, g3, hc, by rw [rcb_ok hc, runs_sp g1, g4]⟩

set_option maxHeartbeats 4000000 in
theorem rleBack_in (w : World) (a : Option Addr) (len cap : Nat) (l : List Z.V) (hs : SlV w a len cap l) (hwf : ∀ x ∈ l, Z.Wf x) (hr : cap * 32 ≤ 140737488351232) (kind : Int) (a1 : Option Addr) (len1 cap1 : Nat) (b : List Nat) (hb : Sl w .u8 a1 len1 cap1 (ints b)) (h256 : ∀ x ∈ b, x < 256) (hr1 : cap1 * 1 ≤ 140737488351232) (n : Int) :
    Calls Try.prog 4 #[.slice a len cap, .int .i64 kind, .slice a1 len1 cap1, .int .i64 n] w fun e w' => e = .returned (.bool true) ∧ Below w.heap.size w w' := by
  have hlen : len ≤ 140737488351232 := by have := hs.2.1; omega
  have hlen1 : len1 ≤ 140737488351232 := by have := hb.2.1; omega
  have HS := hide hs
  have HB := hide hb
  have H256 := hide h256
  have HWF := hide hwf
  have HLL := hide hs.1
  clear hs hb hwf hr hr1 h256
  go_enter Try.func4, Try.ntmps4
  go_wp2_with fail
  refine (rshown_any _).mono ?_
  rintro e w1 ⟨rfl, hb⟩
  have b0 := hide hb
  clear hb
  go_wp2_with fail
  refine (rfew_any a len cap l _ (HS.out.below b0.out) (by omega)).mono ?_
  rintro e w2 ⟨q, rfl, hq, rfl⟩
  cases q with
  | false =>
    go_wp2
    go_ret
    exact ⟨rfl, b0.out⟩
  | true =>
    have hl1 := hq rfl
    clear hq
    obtain ⟨xs, hxs⟩ : ∃ xs, Z.rcb l kind = xs := ⟨_, rfl⟩
    obtain ⟨K, hK⟩ : ∃ K, xs.length = K := ⟨_, rfl⟩
    have hKl : K ≤ 4276224 := by rw [← hK, ← hxs]; exact rcb_len HWF.out
    have HXL : Hid (∀ y ∈ xs, y < 256) := by rw [← hxs]; exact rcb_lt HWF.out
    obtain ⟨X, hX⟩ : ∃ X, Z.chk l kind = X := ⟨_, rfl⟩
    have HX := hide hX
    have HXS := hide hxs
    have HC := hide (rlbytes_any a len cap l kind w2 (HS.out.below b0.out) (fun x hx => (HWF.out x hx).2.1))
    unfold RunBytes at HC
    rw [hX, hxs, hK] at HC
    clear hX hxs hK
    go_wp2_with fail
    refine HC.out.mono ?_
    rintro e w3 ⟨pa, pc, rfl, hs3, hb⟩
    replace b0 := hide (bthen b0.out hb)
    have HD := hide (rlof_any pa K pc xs (len : Int) kind w3 hs3 HXL.out (by omega))
    obtain ⟨Y, hY⟩ : ∃ Y, Z.uE xs (len : Int) kind = Y := ⟨_, rfl⟩
    have HY := hide hY
    unfold SpreadAns at HD
    rw [hY] at HD
    clear hb hs3 hY HC
    go_wp2_with fail
    refine HD.out.mono ?_
    rintro e w4 ⟨mv, rfl, ho4, hb⟩
    replace b0 := hide (bthen b0.out hb)
    obtain ⟨ma, mc, rfl, hsm, _⟩ := SlV.of_own ho4
    obtain ⟨mm, hmm⟩ : ∃ mm, (Z.sp (Z.uL xs (len : Int) kind)).length = mm := ⟨_, rfl⟩
    rw [hmm] at hsm ⊢
    have HSM := hide hsm
    clear hb ho4 hsm hmm HD
    -- what follows: bytes read, and laid down again
    have REST : Hid (∀ (w5 : World), Below w.heap.size w w5 → Calls Try.prog 13 #[.slice a1 len1 cap1, .int .i64 n, .int .i64 kind] w5 (SpreadAns b n kind w5)) := fun w5 h5 => rlof_any a1 len1 cap1 b n kind w5 (HB.out.below h5) H256.out (by omega)
    by_cases hX0 : X = 0
    · subst hX0
      obtain ⟨u1, u2⟩ := u_back (fun x hx => (HWF.out x hx).2.1) HX.out
      rw [HXS.out, HLL.out] at u1 u2
      obtain rfl : Y = 0 := by rw [← HY.out]; exact u1
      rw [u2, sp_runs] at HSM
      have hml : mm = len := by rw [← HSM.out.1, HLL.out]
      subst hml
      have HV := hide (vsame_yes a ma mm cap mc l w4 (HS.out.below b0.out) HSM.out (by omega))
      clear u1 u2 HSM
      go_wp2_with fail
      refine HV.out.mono ?_
      rintro e w5 ⟨rfl, hb⟩
      replace b0 := hide (bthen b0.out hb)
      clear hb HV
      go_wp2_with fail
      refine (REST.out _ b0.out).mono ?_
      rintro e w6 ⟨kv, rfl, ho6, hb⟩
      replace b0 := hide (bthen b0.out hb)
      obtain ⟨Z1, hZ⟩ : ∃ Z1, Z.uE b n kind = Z1 := ⟨_, rfl⟩
      obtain ⟨ka, kc, rfl, hsk, _⟩ := SlV.of_own ho6
      obtain ⟨ks, hks⟩ : ∃ ks, Z.sp (Z.uL b n kind) = ks := ⟨_, rfl⟩
      have HKI : Hid (∀ x ∈ ks, Z.I64 x.i) := by rw [← hks]; exact uL_i64 H256.out
      obtain ⟨kl, hkl⟩ : ∃ kl, ks.length = kl := ⟨_, rfl⟩
      rw [hks] at hsk ⊢
      rw [hkl] at hsk ⊢
      rw [hZ]
      have HZ := hide hZ
      have HSK := hide hsk
      have HKS := hide hks
      have HKL := hide hkl
      clear hb ho6 hZ hsk hks hkl REST
      by_cases hZ0 : Z1 = 0
      · subst hZ0
        obtain ⟨N, rfl, hN4, g1, g2, g3⟩ := uE_two H256.out HZ.out
        rw [HKS.out] at g1 g2 g3
        obtain rfl : kl = N := by rw [← HKL.out]; exact g1
        have HC := hide (rlbytes_any ka kl kc ks kind w6 HSK.out HKI.out)
        unfold RunBytes at HC
        have hbl : b.length = len1 := by rw [← HB.out.1, ints_length]
        rw [g2, g3, hbl] at HC
        clear g1 g2 g3 hbl
        go_wp2_with fail
        refine HC.out.mono ?_
        rintro e w7 ⟨ya, yc, rfl, hs7, hb⟩
        replace b0 := hide (bthen b0.out hb)
        have t1 := str_of hs7
        have t2 := str_of (HB.out.below b0.out)
        obtain ⟨S, hS⟩ : ∃ S, strOfNums (ints b) = S := ⟨_, rfl⟩
        rw [hS] at t1 t2
        clear hb hs7 HC hS
        go_wp2
        go_ret
        exact ⟨rfl, b0.out⟩
      · have hZb : (Z1 != 0) = true := by simpa using hZ0
        obtain rfl : kl = 0 := by rw [← HKL.out, ← HKS.out, uL_bad (by rw [HZ.out]; exact hZ0)]; rfl
        clear hZ0
        go_wp2
        go_ret
        exact ⟨rfl, b0.out⟩
    · have hXb : (X == 0) = false := by simpa using hX0
      clear hX0
      go_wp2_with fail
      refine (REST.out _ b0.out).mono ?_
      rintro e w6 ⟨kv, rfl, ho6, hb⟩
      replace b0 := hide (bthen b0.out hb)
      obtain ⟨Z1, hZ⟩ : ∃ Z1, Z.uE b n kind = Z1 := ⟨_, rfl⟩
      obtain ⟨ka, kc, rfl, hsk, _⟩ := SlV.of_own ho6
      obtain ⟨ks, hks⟩ : ∃ ks, Z.sp (Z.uL b n kind) = ks := ⟨_, rfl⟩
      have HKI : Hid (∀ x ∈ ks, Z.I64 x.i) := by rw [← hks]; exact uL_i64 H256.out
      obtain ⟨kl, hkl⟩ : ∃ kl, ks.length = kl := ⟨_, rfl⟩
      rw [hks] at hsk ⊢
      rw [hkl] at hsk ⊢
      rw [hZ]
      have HZ := hide hZ
      have HSK := hide hsk
      have HKS := hide hks
      have HKL := hide hkl
      clear hb ho6 hZ hsk hks hkl REST
      by_cases hZ0 : Z1 = 0
      · subst hZ0
        obtain ⟨N, rfl, hN4, g1, g2, g3⟩ := uE_two H256.out HZ.out
        rw [HKS.out] at g1 g2 g3
        obtain rfl : kl = N := by rw [← HKL.out]; exact g1
        have HC := hide (rlbytes_any ka kl kc ks kind w6 HSK.out HKI.out)
        unfold RunBytes at HC
        have hbl : b.length = len1 := by rw [← HB.out.1, ints_length]
        rw [g2, g3, hbl] at HC
        clear g1 g2 g3 hbl
        go_wp2_with fail
        refine HC.out.mono ?_
        rintro e w7 ⟨ya, yc, rfl, hs7, hb⟩
        replace b0 := hide (bthen b0.out hb)
        have t1 := str_of hs7
        have t2 := str_of (HB.out.below b0.out)
        obtain ⟨S, hS⟩ : ∃ S, strOfNums (ints b) = S := ⟨_, rfl⟩
        rw [hS] at t1 t2
        clear hb hs7 HC hS
        go_wp2
        go_ret
        exact ⟨rfl, b0.out⟩
      · have hZb : (Z1 != 0) = true := by simpa using hZ0
        obtain rfl : kl = 0 := by rw [← HKL.out, ← HKS.out, uL_bad (by rw [HZ.out]; exact hZ0)]; rfl
        clear hZ0
        go_wp2
        go_ret
        exact ⟨rfl, b0.out⟩
theorem rleBack_walk (w : World) (a : Option Addr) (len cap : Nat) (l : List Z.V) (hs : SlV w a len cap l) (hwf : ∀ x ∈ l, Z.Wf x) (hr : cap * 32 ≤ 140737488351232) (kind : Int) (wk : (Lit.int .i64 kind).wf = true) (a1 : Option Addr) (len1 cap1 : Nat) (z : List Int) (c : Came .u8 w a1 len1 cap1 z) (hr1 : cap1 * 1 ≤ 140737488351232) (n : Int) (wn : (Lit.int .i64 n).wf = true) :
    Calls Try.prog 4 #[.slice a len cap, .int .i64 kind, .slice a1 len1 cap1, .int .i64 n] w fun e w' => e = .returned (.bool true) ∧ Below w.heap.size w w' := by
  obtain ⟨b, rfl, h256⟩ := came_bytes c
  exact rleBack_in w a len cap l hs hwf hr kind a1 len1 cap1 b c.1 h256 hr1 n
end Go.Proofs.Ytfggfmcbinhigaa

/- The walk of the statement: any values' runs, and bytes, and any bytes as so many values, are the document's. -/
import Derived.Test.YtfggfmcbinhigaaBdSR
import Derived.Test.YtfggfmcbinhigaaBdV
namespace Go.Proofs.Ytfggfmcbinhigaa
set_option linter.unusedVariables false
open Go.RowKit

set_option maxHeartbeats 4000000 in
theorem rleBytes_in (w : World) (a : Option Addr) (len cap : Nat) (l : List Z.V) (hs : SlV w a len cap l) (hwf : ∀ x ∈ l, Z.Wf x) (hr : cap * 32 ≤ 140737488351232) (kind : Int) (a1 : Option Addr) (len1 cap1 : Nat) (b : List Nat) (hb : Sl w .u8 a1 len1 cap1 (ints b)) (h256 : ∀ x ∈ b, x < 256) (hr1 : cap1 * 1 ≤ 140737488351232) (n : Int) :
    Calls Try.prog 3 #[.slice a len cap, .int .i64 kind, .slice a1 len1 cap1, .int .i64 n] w fun e w' => e = .returned (.bool true) ∧ Below w.heap.size w w' := by
  have hlen : len ≤ 140737488351232 := by have := hs.2.1; omega
  have hlen1 : len1 ≤ 140737488351232 := by have := hb.2.1; omega
  have HS := hide hs
  have HB := hide hb
  have H256 := hide h256
  have HI : Hid (∀ x ∈ l, Z.I64 x.i) := fun x hx => (hwf x hx).2.1
  have HLL := hide hs.1
  clear hs hb hwf hr hr1 h256
  go_enter Try.func3, Try.ntmps3
  go_wp2_with fail
  refine (rshown_any _).mono ?_
  rintro e w1 ⟨rfl, hb⟩
  have b0 := hide hb
  clear hb
  go_wp2_with fail
  refine (rfew_any a len cap l _ (HS.out.below b0.out) (by omega)).mono ?_
  rintro e w2 ⟨q, rfl, hq, rfl⟩
  cases q with
  | false =>
    go_wp2
    go_ret
    exact ⟨rfl, b0.out⟩
  | true =>
    have hl1 := hq rfl
    clear hq
    obtain ⟨xs, hxs⟩ : ∃ xs, Z.rcb l kind = xs := ⟨_, rfl⟩
    obtain ⟨K, hK⟩ : ∃ K, xs.length = K := ⟨_, rfl⟩
    obtain ⟨X, hX⟩ : ∃ X, Z.chk l kind = X := ⟨_, rfl⟩
    obtain ⟨Y, hY⟩ : ∃ Y, Z.uE b n kind = Y := ⟨_, rfl⟩
    obtain ⟨us, hus⟩ : ∃ us, Z.uL b n kind = us := ⟨_, rfl⟩
    obtain ⟨U, hU⟩ : ∃ U, us.length = U := ⟨_, rfl⟩
    obtain ⟨vs, hvs⟩ : ∃ vs, Z.sp us = vs := ⟨_, rfl⟩
    obtain ⟨V, hV⟩ : ∃ V, vs.length = V := ⟨_, rfl⟩
    obtain ⟨rs, hrs⟩ : ∃ rs, Z.runs l = rs := ⟨_, rfl⟩
    obtain ⟨R, hR⟩ : ∃ R, rs.length = R := ⟨_, rfl⟩
    have hU4 : U ≤ 4096 := by rw [← hU, ← hus]; exact uL_len H256.out
    have hV4 : V ≤ 4096 := by rw [← hV, ← hvs, ← hus]; exact uL_few H256.out
    have hR1 : R ≤ 1000 := by rw [← hR, ← hrs]; have := runs_few l; have := HLL.out; omega
    have C1 : Hid (∀ w5, Below w.heap.size w w5 → Calls Try.prog 11 #[.slice a len cap, .int .i64 kind] w5 fun e w' => ∃ a c, e = .returned (.tuple #[.slice a K c, .int .i64 X]) ∧ Sl w' .u8 a K c (ints xs) ∧ Below w5.heap.size w5 w') := fun w5 h5 => by
      have := rlbytes_any a len cap l kind w5 (HS.out.below h5) HI.out
      unfold RunBytes at this
      rw [hxs, hK, hX] at this
      exact this
    have C2 : Hid (∀ w5, Below w.heap.size w w5 → Calls Try.prog 12 #[.slice a len cap, .int .i64 kind] w5 fun e w' => ∃ a c, e = .returned (.tuple #[.slice a K c, .int .i64 X]) ∧ Sl w' .u8 a K c (ints xs) ∧ Below w5.heap.size w5 w') := fun w5 h5 => by
      have := rfbytes_any a len cap l kind w5 (HS.out.below h5) HI.out
      unfold RunBytes at this
      rw [hxs, hK, hX] at this
      exact this
    have C3 : Hid (∀ w5, Below w.heap.size w w5 → Calls Try.prog 13 #[.slice a1 len1 cap1, .int .i64 n, .int .i64 kind] w5 fun e w' => ∃ a c, e = .returned (.tuple #[.slice a V c, .int .i64 Y]) ∧ SlV w' a V c vs ∧ Below w5.heap.size w5 w') := fun w5 h5 => by
      refine (rlof_any a1 len1 cap1 b n kind w5 (HB.out.below h5) H256.out (by omega)).mono ?_
      rintro e w' ⟨v, rfl, ho, hb⟩
      obtain ⟨sa, sc, rfl, hsl, _⟩ := SlV.of_own ho
      rw [hus, hvs, hV] at hsl
      rw [hus, hvs, hV, hY]
      exact ⟨sa, sc, rfl, hsl, hb⟩
    have C4 : Hid (∀ w5, Below w.heap.size w w5 → Calls Try.prog 14 #[.slice a1 len1 cap1, .int .i64 n, .int .i64 kind] w5 fun e w' => ∃ a c, e = .returned (.tuple #[.slice a V c, .int .i64 Y]) ∧ SlV w' a V c vs ∧ Below w5.heap.size w5 w') := fun w5 h5 => by
      refine (rfof_any a1 len1 cap1 b n kind w5 (HB.out.below h5) H256.out (by omega)).mono ?_
      rintro e w' ⟨v, rfl, ho, hb⟩
      obtain ⟨sa, sc, rfl, hsl, _⟩ := SlV.of_own ho
      rw [hus, hvs, hV] at hsl
      rw [hus, hvs, hV, hY]
      exact ⟨sa, sc, rfl, hsl, hb⟩
    have C5 : Hid (∀ w5, Below w.heap.size w w5 → Calls Try.prog 15 #[.slice a1 len1 cap1, .int .i64 n, .int .i64 kind] w5 fun e w' => ∃ a c, e = .returned (.tuple #[.slice a U c, .int .i64 Y]) ∧ SlR w' a U c us ∧ Below w5.heap.size w5 w') := fun w5 h5 => by
      refine (toruns_any a1 len1 cap1 b n kind w5 (HB.out.below h5) H256.out (by omega)).mono ?_
      rintro e w' ⟨v, rfl, ho, hb⟩
      obtain ⟨sa, sc, rfl, hsl, _⟩ := SlR.of_own ho
      rw [hus, hU] at hsl
      rw [hus, hU, hY]
      exact ⟨sa, sc, rfl, hsl, hb⟩
    have C6 : Hid (∀ w5, Below w.heap.size w w5 → Calls Try.prog 16 #[.slice a1 len1 cap1, .int .i64 n, .int .i64 kind] w5 fun e w' => ∃ a c, e = .returned (.tuple #[.slice a U c, .int .i64 Y]) ∧ SlR w' a U c us ∧ Below w5.heap.size w5 w') := fun w5 h5 => by
      refine (rtoruns_any a1 len1 cap1 b n kind w5 (HB.out.below h5) H256.out (by omega)).mono ?_
      rintro e w' ⟨v, rfl, ho, hb⟩
      obtain ⟨sa, sc, rfl, hsl, _⟩ := SlR.of_own ho
      rw [hus, hU] at hsl
      rw [hus, hU, hY]
      exact ⟨sa, sc, rfl, hsl, hb⟩
    have C7 : Hid (∀ w5, Below w.heap.size w w5 → Calls Try.prog 18 #[.slice a len cap] w5 fun e w' => ∃ a c, e = .returned (.slice a R c) ∧ SlR w' a R c rs ∧ Below w5.heap.size w5 w') := fun w5 h5 => by
      refine (runs_any a len cap l w5 (HS.out.below h5) (by omega)).mono ?_
      rintro e w' ⟨v, rfl, ho, hb⟩
      obtain ⟨sa, sc, rfl, hsl, _⟩ := SlR.of_own ho
      rw [hrs, hR] at hsl
      rw [hrs, hR]
      exact ⟨sa, sc, rfl, hsl, hb⟩
    have C8 : Hid (∀ w5, Below w.heap.size w w5 → Calls Try.prog 19 #[.slice a len cap] w5 fun e w' => ∃ a c, e = .returned (.slice a R c) ∧ SlR w' a R c rs ∧ Below w5.heap.size w5 w') := fun w5 h5 => by
      refine (rruns_any a len cap l w5 (HS.out.below h5) (by omega)).mono ?_
      rintro e w' ⟨v, rfl, ho, hb⟩
      obtain ⟨sa, sc, rfl, hsl, _⟩ := SlR.of_own ho
      rw [hrs, hR] at hsl
      rw [hrs, hR]
      exact ⟨sa, sc, rfl, hsl, hb⟩
    clear hxs hK hX hY hus hU hvs hV hrs hR
    go_wp2_with fail
    refine (C1.out _ b0.out).mono ?_
    rintro e w3 ⟨xa, xc, rfl, h3, hb⟩
    replace b0 := hide (bthen b0.out hb)
    have H3 := hide h3
    clear h3 hb C1
    go_wp2_with fail
    refine (C2.out _ b0.out).mono ?_
    rintro e w4 ⟨ya, yc, rfl, h4, hb⟩
    replace b0 := hide (bthen b0.out hb)
    replace H3 := hide (H3.out.below hb)
    have H4 := hide h4
    clear h4 hb C2
    go_wp2_with fail
    refine (C3.out _ b0.out).mono ?_
    rintro e w5 ⟨pa, pc, rfl, h5, hb⟩
    replace b0 := hide (bthen b0.out hb)
    replace H3 := hide (H3.out.below hb)
    replace H4 := hide (H4.out.below hb)
    have H5 := hide h5
    clear h5 hb C3
    go_wp2_with fail
    refine (C4.out _ b0.out).mono ?_
    rintro e w6 ⟨qa, qc, rfl, h6, hb⟩
    replace b0 := hide (bthen b0.out hb)
    replace H3 := hide (H3.out.below hb)
    replace H4 := hide (H4.out.below hb)
    replace H5 := hide (H5.out.below hb)
    have H6 := hide h6
    clear h6 hb C4
    go_wp2_with fail
    refine (C5.out _ b0.out).mono ?_
    rintro e w7 ⟨ua, uc, rfl, h7, hb⟩
    replace b0 := hide (bthen b0.out hb)
    replace H3 := hide (H3.out.below hb)
    replace H4 := hide (H4.out.below hb)
    replace H5 := hide (H5.out.below hb)
    replace H6 := hide (H6.out.below hb)
    have H7 := hide h7
    clear h7 hb C5
    go_wp2_with fail
    refine (C6.out _ b0.out).mono ?_
    rintro e w8 ⟨va, vc, rfl, h8, hb⟩
    replace b0 := hide (bthen b0.out hb)
    replace H3 := hide (H3.out.below hb)
    replace H4 := hide (H4.out.below hb)
    replace H5 := hide (H5.out.below hb)
    replace H6 := hide (H6.out.below hb)
    replace H7 := hide (H7.out.below hb)
    have H8 := hide h8
    clear h8 hb C6
    go_wp2_with fail
    refine (C7.out _ b0.out).mono ?_
    rintro e w9 ⟨ra, rc, rfl, h9, hb⟩
    replace b0 := hide (bthen b0.out hb)
    replace H3 := hide (H3.out.below hb)
    replace H4 := hide (H4.out.below hb)
    replace H5 := hide (H5.out.below hb)
    replace H6 := hide (H6.out.below hb)
    replace H7 := hide (H7.out.below hb)
    replace H8 := hide (H8.out.below hb)
    have H9 := hide h9
    clear h9 hb C7
    go_wp2_with fail
    refine (C8.out _ b0.out).mono ?_
    rintro e w10 ⟨sa, sc, rfl, h10, hb⟩
    replace b0 := hide (bthen b0.out hb)
    replace H3 := hide (H3.out.below hb)
    replace H4 := hide (H4.out.below hb)
    replace H5 := hide (H5.out.below hb)
    replace H6 := hide (H6.out.below hb)
    replace H7 := hide (H7.out.below hb)
    replace H8 := hide (H8.out.below hb)
    replace H9 := hide (H9.out.below hb)
    have H10 := hide h10
    clear h10 hb C8
    go_wp2_with fail
    refine (rsame_any ra sa R rc sc rs _ H9.out H10.out (by omega)).mono ?_
    rintro e w11 ⟨rfl, hb⟩
    replace b0 := hide (bthen b0.out hb)
    replace H3 := hide (H3.out.below hb)
    replace H4 := hide (H4.out.below hb)
    replace H5 := hide (H5.out.below hb)
    replace H6 := hide (H6.out.below hb)
    replace H7 := hide (H7.out.below hb)
    replace H8 := hide (H8.out.below hb)
    clear hb H9 H10
    go_wp2_with fail
    refine (rsame_any ua va U uc vc us _ H7.out H8.out (by omega)).mono ?_
    rintro e w12 ⟨rfl, hb⟩
    replace b0 := hide (bthen b0.out hb)
    replace H3 := hide (H3.out.below hb)
    replace H4 := hide (H4.out.below hb)
    replace H5 := hide (H5.out.below hb)
    replace H6 := hide (H6.out.below hb)
    have t1 := str_of H3.out
    have t2 := str_of H4.out
    obtain ⟨S, hS⟩ : ∃ S, strOfNums (ints xs) = S := ⟨_, rfl⟩
    rw [hS] at t1 t2
    have HV := hide (vsame_yes pa qa V pc qc vs w12 H5.out H6.out (by omega))
    clear hb H7 H8 hS
    go_wp2_with fail
    refine HV.out.mono ?_
    rintro e w13 ⟨rfl, hb⟩
    replace b0 := hide (bthen b0.out hb)
    clear hb HV t1 t2
    go_wp2
    go_ret
    exact ⟨rfl, b0.out⟩
theorem rleBytes_walk (w : World) (a : Option Addr) (len cap : Nat) (l : List Z.V) (hs : SlV w a len cap l) (hwf : ∀ x ∈ l, Z.Wf x) (hr : cap * 32 ≤ 140737488351232) (kind : Int) (wk : (Lit.int .i64 kind).wf = true) (a1 : Option Addr) (len1 cap1 : Nat) (z : List Int) (c : Came .u8 w a1 len1 cap1 z) (hr1 : cap1 * 1 ≤ 140737488351232) (n : Int) (wn : (Lit.int .i64 n).wf = true) :
    Calls Try.prog 3 #[.slice a len cap, .int .i64 kind, .slice a1 len1 cap1, .int .i64 n] w fun e w' => e = .returned (.bool true) ∧ Below w.heap.size w w' := by
  obtain ⟨b, rfl, h256⟩ := came_bytes c
  exact rleBytes_in w a len cap l hs hwf hr kind a1 len1 cap1 b c.1 h256 hr1 n
end Go.Proofs.Ytfggfmcbinhigaa

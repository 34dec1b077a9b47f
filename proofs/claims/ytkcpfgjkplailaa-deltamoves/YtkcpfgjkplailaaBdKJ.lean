/- DeltaBack: what was laid down is read; what is read is laid down as the very bytes. Conditions: none. -/
import Derived.Test.YtkcpfgjkplailaaBdX
import Derived.Test.YtkcpfgjkplailaaBdY
import Derived.Test.YtkcpfgjkplailaaBdT
namespace Go.Proofs.Ytkcpfgjkplailaa
set_option linter.unusedVariables false
set_option maxRecDepth 10000
open Go.RowKit
theorem vals_snoc {z : List Int} {j : Nat} {x : Int} (h : z[j]? = some x) : Z.vals (z.take (j + 1)) = Z.vals (z.take j) ++ [⟨1, x, ⟨#[]⟩⟩] := by
  unfold Z.vals
  rw [List.take_add_one, h, List.map_append]
  rfl
theorem vals_take_length {z : List Int} {j : Nat} (h : j ≤ z.length) : (Z.vals (z.take j)).length = j := by rw [vals_length, List.length_take]; omega
theorem vals_i64 {z : List Int} (h : ∀ x ∈ z, Z.I64 x) : ∀ x ∈ Z.vals z, Z.I64 x.i := fun x hx => by
  obtain ⟨y, hy, rfl⟩ := List.mem_map.1 hx
  exact h y hy
set_option maxHeartbeats 4000000 in
theorem deltaBack_in (w : World) (a : Option Addr) (len cap : Nat) (z : List Int) (hs : Sl w .i64 a len cap z) (hz : ∀ x ∈ z, Z.I64 x) (a1 : Option Addr) (len1 cap1 : Nat) (b : List Nat) (hb : Sl w .u8 a1 len1 cap1 (ints b)) (h256 : ∀ x ∈ b, x < 256) (hr1 : cap1 * 1 ≤ 140737488351232) (n : Int) :
    Calls Try.prog 4 #[.slice a len cap, .slice a1 len1 cap1, .int .i64 n] w fun e w' => e = .returned (.bool true) ∧ Below w.heap.size w w' := by
  have hlen1 : len1 ≤ 140737488351232 := by have := hb.2.1; omega
  have HS := hide hs
  have HB := hide hb
  have H256 := hide h256
  have HZ := hide hz
  have HLL := hide hs.1
  clear hs hb hz hr1 h256
  go_enter Try.func4, Try.ntmps4
  go_wp2_with fail
  refine (mshown_any _).mono ?_
  rintro e w1 ⟨rfl, hb⟩
  have b0 := hide hb
  clear hb
  by_cases hbig : 1000 < len
  · go_wp2
    go_ret
    exact ⟨rfl, b0.out⟩
  · have hl1 : len ≤ 1000 := by omega
    go_wp2_with fail
    go_loopw [8, 9] (fun v i wr => ∃ j : Nat, j ≤ len ∧ i = .int .i64 j ∧ Hid (OwnV wr w1.heap.size v (Z.vals (z.take j))) ∧ Hid (Below w1.heap.size w1 wr)) (fun _ i _ => len - (intOf i).toNat)
    case atStart => exact ⟨0, Nat.zero_le _, rfl, hide (World.ownsRow_nil _ _ _ _), hide (Below.refl _ _)⟩
    case round =>
      obtain ⟨j, hj, rfl, hrow, hbw⟩ := hrel
      by_cases hjl : j < len
      · obtain ⟨bb, off, rfl, hlt, c0⟩ := HS.out.here hjl
        obtain ⟨x, hx⟩ : ∃ x, z[j]? = some x := ⟨z[j]'(by rw [HLL.out]; exact hjl), List.getElem?_eq_getElem _⟩
        have hxg : z.getD j 0 = x := by rw [List.getD_eq_getElem?_getD, hx]; rfl
        rw [hxg] at c0
        have d1 : wr.cell? ⟨bb, off + j, none⟩ = some (.int .i64 x) := by rw [(bthen b0.out hbw.out).cell (p := ⟨bb, off + j, none⟩) hlt]; exact c0
        have HSN := hide (vals_snoc hx)
        have HVL := hide (vals_take_length (z := z) (j := j) (by rw [HLL.out]; exact hj))
        have HR2 := hide (World.ownsRow.alloc hrow.out (.cells #[.int .i64 1, .int .i64 x, .string ⟨#[]⟩] 42))
        have HB2 := hide (bthen hbw.out (below_one wr (.cells #[.int .i64 1, .int .i64 x, .string ⟨#[]⟩] 42)))
        have hsz2 := HB2.out.size
        clear c0 hx hxg hrow
        go_wp2_with (at_builtin; refine wpList_appV rfl _ _ rfl w1.heap.size _ (Z.vals (z.take j)) rfl HR2.out (some ⟨wr.heap.size, 0, none⟩) 1 1 [⟨1, x, ⟨#[]⟩⟩] rfl (slV_one wr 1 x ⟨#[]⟩) (by rw [HVL.out]; omega) hsz2 ?_)
        intro v4 w4 ho4 has _
        have hb4 : Below w1.heap.size w1 w4 := HB2.out.trans (has.below hsz2 (fun g hg => (owns_lt HR2.out hg).1))
        rw [← HSN.out] at ho4
        have HO4 := hide ho4
        have HB4 := hide hb4
        clear ho4 hb4 has d1
        go_wp2
        go_roundw
        case rel => exact ⟨j + 1, hjl, by go_num, HO4, HB4⟩
        case measure => simp [intOf]; omega
      · obtain rfl : j = len := by omega
        have hrow1 := hrow.out
        rw [show z.take j = z from by rw [← HLL.out, List.take_length]] at hrow1
        have hvl : (Z.vals z).length = j := by rw [vals_length]; exact HLL.out
        obtain ⟨va, vc, hv, hsl, _⟩ := SlV.of_own hrow1
        rw [hvl] at hv hsl
        subst hv
        have HVI := hide (vals_i64 HZ.out)
        have hchk : Z.chk (Z.vals z) 1 = 0 := vals_chk (by rw [HLL.out]; omega)
        obtain ⟨l, hl⟩ : ∃ l, Z.vals z = l := ⟨_, rfl⟩
        rw [hl] at hsl HVI hchk hvl
        replace b0 := hide (bthen b0.out hbw.out)
        have HSL := hide hsl
        have HVL := hide hvl
        obtain ⟨g1, g2⟩ := fe_back HVI.out hchk
        have g3 := decb_lt HVI.out
        have g4 := decb_len HVI.out
        rw [hvl] at g1 g2
        obtain ⟨xs, hxs⟩ : ∃ xs, Z.decb l = xs := ⟨_, rfl⟩
        rw [hxs] at g1 g2 g3 g4
        obtain ⟨K, hK⟩ : ∃ K, xs.length = K := ⟨_, rfl⟩
        rw [hK] at g4
        have HG1 := hide g1
        have HG2 := hide g2
        have HG3 := hide g3
        have D1 : Hid (Calls Try.prog 10 #[.slice va j vc] wr fun e w' => ∃ a c, e = .returned (.tuple #[.slice a K c, .int .i64 0]) ∧ Sl w' .u8 a K c (ints xs) ∧ Below wr.heap.size wr w') := by
          have := debytes_any va j vc l wr hsl HVI.out
          unfold DeltaBytesAns at this
          rwa [hxs, hK, hchk] at this
        have D3 : Hid (∀ w9 : World, Below w.heap.size w w9 → Calls Try.prog 12 #[.slice a1 len1 cap1, .int .i64 n] w9 (DeltaOfAns b n w9)) := fun w9 h9 => deof_any a1 len1 cap1 b n w9 (HB.out.below h9) H256.out (by omega)
        clear hrow1 hsl hvl hchk hl hxs hK g1 g2 g3 hrow
        go_wp2_with fail
        refine D1.out.mono ?_
        rintro e w3 ⟨xa, xc, rfl, hs3, hb⟩
        replace b0 := hide (bthen b0.out hb)
        replace HSL := hide (HSL.out.below hb)
        have HXX := hide hs3
        clear hb hs3 D1
        have D2 : Hid (Calls Try.prog 12 #[.slice xa K xc, .int .i64 (j : Int)] w3 fun e w' => ∃ a c, e = .returned (.tuple #[.slice a j c, .int .i64 0]) ∧ SlV w' a j c l ∧ Below w3.heap.size w3 w') := by
          have := deof_any xa K xc xs (j : Int) w3 HXX.out HG3.out (by omega)
          unfold DeltaOfAns at this
          rwa [HG1.out, HG2.out, HVL.out] at this
        go_wp2_with fail
        refine D2.out.mono ?_
        rintro e w4 ⟨ma, mc, rfl, hs4, hb⟩
        replace b0 := hide (bthen b0.out hb)
        replace HSL := hide (HSL.out.below hb)
        have HMM := hide hs4
        clear hb hs4 D2
        go_wp2_with fail
        refine (vsame_yes va ma j vc mc l _ HSL.out HMM.out (by omega)).mono ?_
        rintro e w5 ⟨rfl, hb⟩
        replace b0 := hide (bthen b0.out hb)
        clear hb HMM HSL
        go_wp2_with fail
        refine (D3.out _ b0.out).mono ?_
        rintro e w6 ⟨ka, kc, rfl, hs6, hb⟩
        replace b0 := hide (bthen b0.out hb)
        clear hb D3
        by_cases hz : Z.feE b n = 0
        · obtain ⟨N, hn, hN, hchk, hcb⟩ := fe_two H256.out hz
          rw [hz, hN]
          rw [hN] at hs6
          have HCI := hide (feL_i64 (n := n) H256.out)
          obtain ⟨ks, hks⟩ : ∃ ks, Z.feL b n = ks := ⟨_, rfl⟩
          rw [hks] at hs6 hchk hcb HCI
          have hbl : b.length = len1 := by rw [← HB.out.1, ints_length]
          have D4 : Hid (∀ w9 : World, Below w6.heap.size w6 w9 → Calls Try.prog 10 #[.slice ka N kc] w9 fun e w' => ∃ a c, e = .returned (.tuple #[.slice a len1 c, .int .i64 0]) ∧ Sl w' .u8 a len1 c (ints b) ∧ Below w9.heap.size w9 w') := fun w9 h9 => by
            have := debytes_any ka N kc ks w9 (hs6.below h9) HCI.out
            unfold DeltaBytesAns at this
            rwa [hcb, hbl, hchk] at this
          obtain rfl : n = (N : Int) := hn
          have HNl := hide (feL_few b (N : Int))
          clear hs6 hchk hcb hks hN hz hbl
          go_wp2_with fail
          refine (D4.out _ (Below.refl _ _)).mono ?_
          rintro e w10 ⟨ya, yc, rfl, hs10, hb⟩
          replace b0 := hide (bthen b0.out hb)
          have t1 := str_of hs10
          have t2 := str_of (HB.out.below b0.out)
          obtain ⟨X, hX⟩ : ∃ X, strOfNums (ints b) = X := ⟨_, rfl⟩
          rw [hX] at t1 t2
          have hxx : (X.toList == X.toList) = true := by simp
          have hnn : ((N : Int) == (N : Int)) = true := by simp
          clear hb hs10 hX D4
          go_wp2
          go_ret
          exact ⟨rfl, b0.out⟩
        · have hcl := feL_bad hz
          obtain ⟨H, hH⟩ : ∃ H, Z.feE b n = H := ⟨_, rfl⟩
          rw [hH] at hz
          have hzb : (H != 0) = true := by simpa using hz
          rw [hcl, hH]
          clear hs6 hcl hH hz
          go_wp2
          go_ret
          exact ⟨rfl, b0.out⟩
theorem deltaBack_walk (w : World) (a : Option Addr) (len cap : Nat) (z : List Int) (c : Came .i64 w a len cap z) (hr : cap * 8 ≤ 140737488351232) (a1 : Option Addr) (len1 cap1 : Nat) (y : List Int) (c1 : Came .u8 w a1 len1 cap1 y) (hr1 : cap1 * 1 ≤ 140737488351232) (n : Int) (wn : (Lit.int .i64 n).wf = true) :
    Calls Try.prog 4 #[.slice a len cap, .slice a1 len1 cap1, .int .i64 n] w fun e w' => e = .returned (.bool true) ∧ Below w.heap.size w w' := by
  obtain ⟨b, rfl, h256⟩ := came_bytes c1
  exact deltaBack_in w a len cap z c.1 (fun x hx => wf_i64 (c.2 x hx)) a1 len1 cap1 b c1.1 h256 hr1 n
end Go.Proofs.Ytkcpfgjkplailaa

/- DeltaCuts: bytes of numbers, cut anywhere ahead of their end, are not as many numbers; turned round rising ones don't rise, but such that are alike. Conditions: none. -/
import Derived.Test.YtkcpfgjkplailaaBdX
import Derived.Test.YtkcpfgjkplailaaBdKJ
import Derived.BigQuiet
import Derived.WalkSmall
import Derived.Test.YtkcpfgjkplailaaBdY
namespace Go.Proofs.Ytkcpfgjkplailaa
set_option linter.unusedVariables false
set_option maxRecDepth 10000
open Go.RowKit
/-- Two rows of one's own lie in two blocks. -/
def Apart (v u : Value) : Prop := ∀ g, v.ownBlock = some g → u.ownBlock ≠ some g
theorem Apart.swap {v u : Value} (h : Apart v u) : Apart u v := fun g h1 h2 => h g h2 h1
theorem Apart.none (u : Value) : Apart (.slice none 0 0) u := fun g h => by simp [Value.ownBlock] at h
/-- A row of one's own stays, whatever is appended to another one. -/
theorem own_beside {w w' : World} {B : Nat} {v v' u : Value} {x : List Z.V} (h : OwnV w B u x) (ha : Apart v u) (has : AS w v w' v') : OwnV w' B u x ∧ Apart v' u := by
  refine ⟨owns_of_block h fun g hg => has.1.block g (owns_lt h hg).2 (fun e => ha g e hg), ?_⟩
  rcases has.2 with e | e
  · intro g hg hu
    rw [e] at hg
    exact ha g hg hu
  · intro g hg hu
    have h1 := e g hg
    have h2 := (owns_lt h hu).2
    omega
theorem vals_rev_at {z : List Int} {j i : Nat} {x : Int} (hi : i + j + 1 = z.length) (h : z[i]? = some x) : z.reverse[j]? = some x := by
  rw [List.getElem?_reverse (by omega), show z.length - 1 - j = i by omega, h]
theorem all_snoc {z : List Int} {j : Nat} {x x0 : Int} (h : z[j]? = some x) : (z.take (j + 1)).all (fun y => y == x0) = ((z.take j).all (fun y => y == x0) && (x == x0)) := by
  rw [List.take_add_one, h, List.all_append]
  simp
set_option maxHeartbeats 4000000 in
theorem deltaCuts_in (w : World) (a : Option Addr) (len cap : Nat) (z : List Int) (hs : Sl w .i64 a len cap z) (hz : ∀ x ∈ z, Z.I64 x) (cut : Int) (hcut : 0 ≤ cut ∧ cut < 65536) :
    Calls Try.prog 7 #[.slice a len cap, .int .u16 cut] w fun e w' => e = .returned (.bool true) ∧ Below w.heap.size w w' := by
  have HS := hide hs
  have HZ := hide hz
  have HLL := hide hs.1
  clear hs hz
  go_enter Try.func7, Try.ntmps7
  go_wp2_with fail
  refine (mshown_any _).mono ?_
  rintro e w1 ⟨rfl, hb⟩
  have b0 := hide hb
  clear hb
  by_cases hbig : 500 < len
  · go_wp2
    go_ret
    exact ⟨rfl, b0.out⟩
  · by_cases hz0 : len = 0
    · subst hz0
      go_wp2
      go_ret
      exact ⟨rfl, b0.out⟩
    · have hl1 : len ≤ 500 := by omega
      have hlz : ((len : Int) == 0) = false := by simp; omega
      obtain ⟨bb, off, rfl, hlt, k0⟩ := HS.out.here (j := 0) (by omega)
      obtain ⟨x0, hx0⟩ : ∃ x, z[0]? = some x := ⟨z[0]'(by rw [HLL.out]; omega), List.getElem?_eq_getElem _⟩
      rw [show z.getD 0 0 = x0 by rw [List.getD_eq_getElem?_getD, hx0]; rfl] at k0
      have HK0 := hide k0
      have HX0 := hide hx0
      clear k0 hx0
      go_wp2_with fail
      go_loopw [6, 7, 8, 9] (fun v u t i wr => ∃ j : Nat, j ≤ len ∧ i = .int .i64 j ∧ t = .bool ((z.take j).all fun y => y == x0) ∧ Hid (OwnV wr w1.heap.size v (Z.vals (z.take j))) ∧ Hid (OwnV wr w1.heap.size u (Z.vals (z.reverse.take j))) ∧ Hid (Apart v u) ∧ Hid (Below w1.heap.size w1 wr)) (fun _ _ _ i _ => len - (intOf i).toNat)
      case atStart => exact ⟨0, Nat.zero_le _, rfl, rfl, hide (World.ownsRow_nil _ _ _ _), hide (World.ownsRow_nil _ _ _ _), hide (Apart.none _), hide (Below.refl _ _)⟩
      case round =>
        obtain ⟨j, hj, rfl, rfl, hrow, hrev, hap, hbw⟩ := hrel
        by_cases hjl : j < len
        · obtain ⟨i, hi⟩ : ∃ i, i + j + 1 = len := ⟨len - 1 - j, by omega⟩
          obtain ⟨L, hL⟩ : ∃ L : Nat, (len : Int) - 1 = (L : Int) := ⟨len - 1, by omega⟩
          have hLj : (L : Int) - (j : Int) = (i : Int) := by omega
          have hLw : IntKind.i64.wrap (L : Int) = (L : Int) := by rw [IntKind.wrap_i64]; omega
          have hiw : IntKind.i64.wrap (i : Int) = (i : Int) := by rw [IntKind.wrap_i64]; omega
          have hil : i < len := by omega
          have hii : (i : Int) < (len : Int) := by omega
          obtain ⟨bb', off', hbb, _, c0⟩ := HS.out.here hjl
          obtain ⟨bb'', off'', hbc, _, r0⟩ := HS.out.here hil
          obtain ⟨rfl, rfl⟩ : bb = bb' ∧ off = off' := by injection hbb with e; injection e with e1 e2; exact ⟨e1, e2⟩
          obtain ⟨rfl, rfl⟩ : bb = bb'' ∧ off = off'' := by injection hbc with e; injection e with e1 e2; exact ⟨e1, e2⟩
          obtain ⟨x, hx⟩ : ∃ x, z[j]? = some x := ⟨z[j]'(by rw [HLL.out]; exact hjl), List.getElem?_eq_getElem _⟩
          obtain ⟨y, hy⟩ : ∃ x, z[i]? = some x := ⟨z[i]'(by rw [HLL.out]; exact hil), List.getElem?_eq_getElem _⟩
          rw [show z.getD j 0 = x by rw [List.getD_eq_getElem?_getD, hx]; rfl] at c0
          rw [show z.getD i 0 = y by rw [List.getD_eq_getElem?_getD, hy]; rfl] at r0
          have hb1 := bthen b0.out hbw.out
          have d1 : wr.cell? ⟨bb, off + j, none⟩ = some (.int .i64 x) := by rw [hb1.cell (p := ⟨bb, off + j, none⟩) hlt]; exact c0
          have HC0 := hide c0
          have HR0 := hide r0
          have HSN := hide (vals_snoc hx)
          have HSR := hide (vals_snoc (vals_rev_at (by rw [HLL.out]; exact hi) hy))
          have HAL := hide (all_snoc (x0 := x0) hx)
          have HVL := hide (vals_take_length (z := z) (j := j) (by rw [HLL.out]; exact hj))
          have HVR := hide (vals_take_length (z := z.reverse) (j := j) (by rw [List.length_reverse, HLL.out]; exact hj))
          have hrow2 : OwnV (wr.alloc (.cells #[.int .i64 1, .int .i64 x, .string ⟨#[]⟩] 42)) w1.heap.size u6 (Z.vals (z.take j)) := World.ownsRow.alloc hrow.out _
          have hrev2 : OwnV (wr.alloc (.cells #[.int .i64 1, .int .i64 x, .string ⟨#[]⟩] 42)) w1.heap.size u7 (Z.vals (z.reverse.take j)) := World.ownsRow.alloc hrev.out _
          have HR2 := hide hrow2
          have HV2 := hide hrev2
          have HB2 := hide (bthen hbw.out (below_one wr (.cells #[.int .i64 1, .int .i64 x, .string ⟨#[]⟩] 42)))
          have hsz2 := HB2.out.size
          obtain ⟨t, ht⟩ : ∃ t, ((z.take j).all fun y => y == x0) = t := ⟨_, rfl⟩
          rw [ht] at HAL ⊢
          clear c0 r0 hx hy hbb hbc hi hrow hrev hrow2 hrev2 hb1 ht
          go_wp2_with (at_builtin; refine wpList_appV rfl _ _ rfl w1.heap.size _ (Z.vals (z.take j)) rfl HR2.out (some ⟨wr.heap.size, 0, none⟩) 1 1 [⟨1, x, ⟨#[]⟩⟩] rfl (slV_one wr 1 x ⟨#[]⟩) (by rw [HVL.out]; omega) hsz2 ?_)
          intro v4 w4 ho4 has _
          have hb4 : Below w1.heap.size w1 w4 := HB2.out.trans (has.below hsz2 (fun g hg => (owns_lt HR2.out hg).1))
          rw [← HSN.out] at ho4
          obtain ⟨hv4, hap4⟩ := own_beside HV2.out hap.out has
          have HO4 := hide ho4
          have HB4 := hide hb4
          have HAP4 := hide hap4
          have e1 : w4.cell? ⟨bb, off + i, none⟩ = some (.int .i64 y) := by rw [(bthen b0.out hb4).cell (p := ⟨bb, off + i, none⟩) hlt]; exact HR0.out
          have hrev5 : OwnV (w4.alloc (.cells #[.int .i64 1, .int .i64 y, .string ⟨#[]⟩] 42)) w1.heap.size u7 (Z.vals (z.reverse.take j)) := World.ownsRow.alloc hv4 _
          have hrow5 : OwnV (w4.alloc (.cells #[.int .i64 1, .int .i64 y, .string ⟨#[]⟩] 42)) w1.heap.size v4 (Z.vals (z.take (j + 1))) := World.ownsRow.alloc ho4 _
          have HV5 := hide hrev5
          have HR5 := hide hrow5
          have HB5 := hide (bthen hb4 (below_one w4 (.cells #[.int .i64 1, .int .i64 y, .string ⟨#[]⟩] 42)))
          have hsz5 := HB5.out.size
          clear ho4 hb4 has hv4 hap4 hrev5 hrow5 d1 HR2 HV2 hsz2 hap
          go_wp2_with (at_builtin; refine wpList_appV rfl _ _ rfl w1.heap.size _ (Z.vals (z.reverse.take j)) rfl HV5.out (some ⟨w4.heap.size, 0, none⟩) 1 1 [⟨1, y, ⟨#[]⟩⟩] rfl (slV_one w4 1 y ⟨#[]⟩) (by rw [HVR.out]; omega) hsz5 ?_)
          intro v6 w6 ho6 has _
          have hb6 : Below w1.heap.size w1 w6 := HB5.out.trans (has.below hsz5 (fun g hg => (owns_lt HV5.out hg).1))
          rw [← HSR.out] at ho6
          obtain ⟨hr6, hap6⟩ := own_beside HR5.out HAP4.out.swap has
          have HO6 := hide ho6
          have HB6 := hide hb6
          have HR6 := hide hr6
          have HAP6 := hide hap6.swap
          have f1 : w6.cell? ⟨bb, off + j, none⟩ = some (.int .i64 x) := by rw [(bthen b0.out hb6).cell (p := ⟨bb, off + j, none⟩) hlt]; exact HC0.out
          have f0 : w6.cell? ⟨bb, off, none⟩ = some (.int .i64 x0) := by show w6.cell? ⟨bb, off + 0, none⟩ = _; rw [(bthen b0.out hb6).cell (p := ⟨bb, off + 0, none⟩) hlt]; exact HK0.out
          have hji : (j : Int) < (len : Int) := by omega
          have hl0 : 0 < len := by omega
          obtain ⟨s, hss⟩ : ∃ s, (x == x0) = s := ⟨_, rfl⟩
          have HSS := hide hss
          clear ho6 hb6 has hr6 hap6 e1 HV5 HR5 hsz5
          cases t with
          | true =>
            have HALT : Hid (((z.take (j + 1)).all fun y => y == x0) = s) := by show _ = _; rw [HAL.out, HSS.out]; rfl
            clear hss
            have hss := HSS.out
            go_wp2_with fail
            go_quiet (fail)
            have HB7 := hide (bthen HB6.out (below_drewN (Below.refl _ _) nq))
            have HR7 := hide (HR6.out.below (below_drewN (Below.refl _ _) nq))
            have HV7 := hide (HO6.out.below (below_drewN (Below.refl _ _) nq))
            clear f1 f0
            go_wp2
            go_roundw
            case rel => exact ⟨j + 1, hjl, by go_num, by rw [HALT.out], HR7, HV7, HAP6, HB7⟩
            case measure => simp [intOf]; omega
          | false =>
            have HALT : Hid (((z.take (j + 1)).all fun y => y == x0) = false) := by show _ = _; rw [HAL.out]; rfl
            clear hss
            go_wp2_with fail
            go_quiet (fail)
            have HB7 := hide (bthen HB6.out (below_drewN (Below.refl _ _) nq))
            have HR7 := hide (HR6.out.below (below_drewN (Below.refl _ _) nq))
            have HV7 := hide (HO6.out.below (below_drewN (Below.refl _ _) nq))
            clear f1 f0
            go_wp2
            go_roundw
            case rel => exact ⟨j + 1, hjl, by go_num, by rw [HALT.out], HR7, HV7, HAP6, HB7⟩
            case measure => simp [intOf]; omega
        · obtain rfl : j = len := by omega
          have hrow1 := hrow.out
          have hrev1 := hrev.out
          rw [show z.take j = z from by rw [← HLL.out, List.take_length]] at hrow1 ⊢
          rw [show z.reverse.take j = z.reverse from by rw [← HLL.out, ← List.length_reverse, List.take_length]] at hrev1
          have hvl : (Z.vals z).length = j := by rw [vals_length]; exact HLL.out
          have hrl : (Z.vals z.reverse).length = j := by rw [vals_length, List.length_reverse]; exact HLL.out
          obtain ⟨va, vc, hv, hsl, _⟩ := SlV.of_own hrow1
          obtain ⟨ua, uc, hu, hsu, _⟩ := SlV.of_own hrev1
          rw [hvl] at hv hsl
          rw [hrl] at hu hsu
          subst hv hu
          replace b0 := hide (bthen b0.out hbw.out)
          obtain ⟨x, t, hzt⟩ : ∃ x t, z = x :: t := by
            cases z with
            | nil => have := HLL.out; simp at this; omega
            | cons x t => exact ⟨x, t, rfl⟩
          have hxx : x = x0 := by have := HX0.out; rw [hzt] at this; simpa using this
          subst hxx
          have hboth := up_both x t
          rw [← hzt] at hboth
          have HVI := hide (vals_i64 HZ.out)
          have hchk : Z.chk (Z.vals z) 1 = 0 := vals_chk (by rw [HLL.out]; omega)
          have hrest := deb_rest ⟨1, x, ⟨#[]⟩⟩ (Z.vals t)
          have hzv : (⟨1, x, ⟨#[]⟩⟩ : Z.V) :: Z.vals t = Z.vals z := by rw [hzt]; rfl
          have htl : (Z.vals t).length + 1 = j := by rw [vals_length, ← HLL.out, hzt]; rfl
          have HXI : Z.I64 x := HZ.out x (by rw [hzt]; simp)
          have hcutp : ∀ k, k < (Z.decb (Z.vals z)).length → Z.feE ((Z.decb (Z.vals z)).take k) (j : Int) ≠ 0 := fun k hk => by
            rw [decb_ok hchk, ← hzv] at hk ⊢
            have := deb_cut (x := ⟨1, x, ⟨#[]⟩⟩) (t := Z.vals t) HXI hk
            rw [htl] at this
            rw [feE_some (by omega) (by omega)]
            omega
          rw [hzv] at hrest
          have hK2 : 2 ≤ (Z.decb (Z.vals z)).length := by rw [decb_ok hchk]; omega
          have hK4 := decb_len HVI.out
          have h256 := decb_lt HVI.out
          have HCP := hide hcutp
          have HSL := hide hsl
          have HSU := hide hsu
          obtain ⟨xs, hxs⟩ : ∃ xs, Z.decb (Z.vals z) = xs := ⟨_, rfl⟩
          rw [hxs] at hK2 hK4 h256 HCP
          obtain ⟨K, hK⟩ : ∃ K, xs.length = K := ⟨_, rfl⟩
          rw [hK] at hK2 hK4 HCP
          have H256 := hide h256
          have D1 : Hid (Calls Try.prog 10 #[.slice va j vc] wr fun e w' => ∃ a c, e = .returned (.tuple #[.slice a K c, .int .i64 0]) ∧ Sl w' .u8 a K c (ints xs) ∧ Below wr.heap.size wr w') := by
            have := debytes_any va j vc _ wr hsl HVI.out
            unfold DeltaBytesAns at this
            rwa [hxs, hK, hchk] at this
          obtain ⟨p, hp⟩ : ∃ p, Z.upB (Z.vals z) = p := ⟨_, rfl⟩
          obtain ⟨q, hq⟩ : ∃ q, Z.upB (Z.vals z.reverse) = q := ⟨_, rfl⟩
          have D3 : Hid (∀ w9 : World, Below wr.heap.size wr w9 → Calls Try.prog 17 #[.slice va j vc] w9 fun e w' => e = .returned (.bool p) ∧ Below w9.heap.size w9 w') := fun w9 h9 => by
            have := sorted_any va j vc _ w9 (hsl.below h9) (by omega)
            rwa [hp] at this
          have D4 : Hid (∀ w9 : World, Below wr.heap.size wr w9 → Calls Try.prog 17 #[.slice ua j uc] w9 fun e w' => e = .returned (.bool q) ∧ Below w9.heap.size w9 w') := fun w9 h9 => by
            have := sorted_any ua j uc _ w9 (hsu.below h9) (by omega)
            rwa [hq] at this
          obtain ⟨tt, htt⟩ : ∃ tt, (z.all fun y => y == x) = tt := ⟨_, rfl⟩
          rw [hp, show Z.vals z.reverse = Z.vals z.reverse from rfl, hq, htt] at hboth
          rw [htt]
          have HBO := hide hboth
          have hKb : ((K : Int) == 0) = false := by simp; omega
          have hKn : (K : Int) ≠ 0 := by omega
          have hm0 := Int.emod_nonneg cut hKn
          have hm1 := Int.emod_lt_of_pos cut (show (0 : Int) < (K : Int) by omega)
          obtain ⟨D, hD⟩ : ∃ D : Nat, cut % (K : Int) = (D : Int) := ⟨(cut % (K : Int)).toNat, by omega⟩
          have hDK : D < K := by omega
          have hcw : IntKind.i64.wrap cut = cut := by rw [IntKind.wrap_i64]; omega
          have HDD := hide hD
          clear hrow1 hrev1 hvl hrl hsl hsu hzt hboth hchk hrest hzv htl hcutp hxs hK h256 hp hq htt hrow hrev hap hD hm0 hm1 HXI
          go_wp2_with fail
          refine D1.out.mono ?_
          rintro e w3 ⟨pa, pc, rfl, hs3, hb⟩
          have HB3 := hide hb
          replace b0 := hide (bthen b0.out hb)
          obtain ⟨qa, hqs, hr1, hr2⟩ := head_of hs3 (Nat.le_of_lt hDK)
          rw [← HDD.out] at hr1 hr2
          have HQ := hide hqs
          have hne0 := HCP.out D hDK
          obtain ⟨F, hF⟩ : ∃ F, Z.feE (xs.take D) (j : Int) = F := ⟨_, rfl⟩
          have D2 : Hid (Calls Try.prog 12 #[.slice qa D pc, .int .i64 (j : Int)] w3 fun e w' => ∃ a c n, e = .returned (.tuple #[.slice a n c, .int .i64 F]) ∧ Below w3.heap.size w3 w') := by
            refine (deof_any qa D pc (xs.take D) (j : Int) w3 hqs (fun y hy => H256.out y (List.mem_of_mem_take hy)) (by omega)).mono ?_
            rintro e w' ⟨a, c, rfl, _, h⟩
            exact ⟨a, c, _, by rw [hF], h⟩
          rw [hF] at hne0
          have hFb : (F != 0) = true := by simpa using hne0
          clear hb hs3 hqs hF D1 hne0
          go_wp2_with fail
          refine D2.out.mono ?_
          rintro e w4 ⟨ka, kc, kn, rfl, hb⟩
          replace HB3 := hide (bthen HB3.out hb)
          replace b0 := hide (bthen b0.out hb)
          clear hb D2 hr1 hr2
          go_wp2_with fail
          refine (D3.out _ HB3.out).mono ?_
          rintro e w5 ⟨rfl, hb⟩
          replace HB3 := hide (bthen HB3.out hb)
          replace b0 := hide (bthen b0.out hb)
          clear hb D3
          cases p with
          | true =>
            have hbo : (q == tt) = true := by have := HBO.out; simp at this; subst this; simp
            go_wp2_with fail
            refine (D4.out _ HB3.out).mono ?_
            rintro e w6 ⟨rfl, hb⟩
            replace b0 := hide (bthen b0.out hb)
            clear hb D4
            go_wp2
            go_ret
            exact ⟨rfl, b0.out⟩
          | false =>
            have hbo : tt = false := by have := HBO.out; simp at this; exact this
            subst hbo
            go_wp2
            go_ret
            exact ⟨rfl, b0.out⟩
theorem deltaCuts_walk (w : World) (a : Option Addr) (len cap : Nat) (z : List Int) (c : Came .i64 w a len cap z) (hr : cap * 8 ≤ 140737488351232) (cut : Int) (wc : (Lit.int .u16 cut).wf = true) :
    Calls Try.prog 7 #[.slice a len cap, .int .u16 cut] w fun e w' => e = .returned (.bool true) ∧ Below w.heap.size w w' :=
  deltaCuts_in w a len cap z c.1 (fun x hx => wf_i64 (c.2 x hx)) cut (wf_u16 wc)
end Go.Proofs.Ytkcpfgjkplailaa

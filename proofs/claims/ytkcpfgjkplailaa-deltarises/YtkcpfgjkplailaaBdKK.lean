/- DeltaRises: numbers one more than the one ahead each need two bits each, and a few bytes, however many; they rise. Conditions: none. -/
import Derived.Test.YtkcpfgjkplailaaBdX
import Derived.Test.YtkcpfgjkplailaaBdKJ
import Derived.Test.YtkcpfgjkplailaaBdTFa
import Derived.Test.YtkcpfgjkplailaaBdY
namespace Go.Proofs.Ytkcpfgjkplailaa
set_option linter.unusedVariables false
set_option maxRecDepth 10000
open Go.RowKit
/-- The head of a row of values, of one. -/
theorem head_one {w : World} {ao : Option Addr} {len cap : Nat} {l : List Z.V} (h : SlV w ao len cap l) (hK : 1 ≤ len) : ∃ qa, SlV w qa 1 cap (l.take 1) ∧
    (∀ w : World, (Instr.slice 22 (.slice ao len cap) none (some (.int .i64 1)) none).run Try.prog w = .ok (.slice qa 1 cap) w) ∧
    (∀ w : World, (Instr.sliceAt 22 (.slice ao len cap) none (some (.int .i64 1)) none).run Try.prog w = .ok (.slice qa 1 cap) w) := head_V (K := 1) h hK
theorem cnt_vals_snoc (p : Int) (j : Nat) : Z.vals (Z.cnt p (j + 1)) = Z.vals (Z.cnt p j) ++ [⟨1, p + j, ⟨#[]⟩⟩] := by
  rw [cnt_snoc]
  unfold Z.vals
  rw [List.map_append]
  rfl
set_option maxHeartbeats 2000000 in
theorem deltaRises_walk (w : World) (p : Int) (wp : (Lit.int .i32 p).wf = true) (many : Int) (wm : (Lit.int .u16 many).wf = true) :
    Calls Try.prog 6 #[.int .i32 p, .int .u16 many] w fun e w' => e = .returned (.bool true) ∧ Below w.heap.size w w' := by
  have hp := bounds_i32 wp
  have hm := wf_u16 wm
  obtain ⟨q, hq⟩ : ∃ q : Nat, many.tmod 4000 = (q : Int) := ⟨(many % 4000).toNat, by rw [Int.tmod_eq_emod_of_nonneg hm.1]; omega⟩
  have hq4 : q < 4000 := by rw [Int.tmod_eq_emod_of_nonneg hm.1] at hq; omega
  obtain ⟨N, hN⟩ : ∃ N : Nat, q + 2 = N := ⟨_, rfl⟩
  have hN2 : (2 : Int) + (q : Int) = (N : Int) := by omega
  have hN4 : N ≤ 4001 := by omega
  have hN1 : 2 ≤ N := by omega
  have hqw : IntKind.i64.wrap (q : Int) = (q : Int) := by rw [IntKind.wrap_i64]; omega
  have hpw : IntKind.i64.wrap p = p := by rw [IntKind.wrap_i64]; omega
  have HQ := hide hN
  clear wp wm hN
  go_enter Try.func6, Try.ntmps6
  go_wp2_with fail
  refine (mshown_any _).mono ?_
  rintro e w1 ⟨rfl, hb⟩
  have b0 := hide hb
  clear hb
  go_wp2_with fail
  clear hq hqw hN2 hm
  go_loopw [7, 8] (fun v i wr => ∃ j : Nat, j ≤ N ∧ i = .int .i64 j ∧ Hid (OwnV wr w1.heap.size v (Z.vals (Z.cnt p j))) ∧ Hid (Below w1.heap.size w1 wr)) (fun _ i _ => N - (intOf i).toNat)
  case atStart => exact ⟨0, Nat.zero_le _, rfl, hide (World.ownsRow_nil _ _ _ _), hide (Below.refl _ _)⟩
  case round =>
    obtain ⟨j, hj, rfl, hrow, hbw⟩ := hrel
    by_cases hjl : j < N
    · obtain ⟨x, hx⟩ : ∃ x, p + (j : Int) = x := ⟨_, rfl⟩
      have hxw : IntKind.i64.wrap x = x := by rw [IntKind.wrap_i64]; omega
      have hsn := cnt_vals_snoc p j
      rw [hx] at hsn
      have HSN := hide hsn
      have HVL : Hid ((Z.vals (Z.cnt p j)).length = j) := by show _ = _; rw [vals_length, cnt_length]
      have HR2 := hide (World.ownsRow.alloc hrow.out (.cells #[.int .i64 1, .int .i64 x, .string ⟨#[]⟩] 42))
      have HB2 := hide (bthen hbw.out (below_one wr (.cells #[.int .i64 1, .int .i64 x, .string ⟨#[]⟩] 42)))
      have hsz2 := HB2.out.size
      clear hrow hsn
      go_wp2_with (at_builtin; refine wpList_appV rfl _ _ rfl w1.heap.size _ (Z.vals (Z.cnt p j)) rfl HR2.out (some ⟨wr.heap.size, 0, none⟩) 1 1 [⟨1, x, ⟨#[]⟩⟩] rfl (slV_one wr 1 x ⟨#[]⟩) (by rw [HVL.out]; omega) hsz2 ?_)
      intro v4 w4 ho4 has _
      have hb4 : Below w1.heap.size w1 w4 := HB2.out.trans (has.below hsz2 (fun g hg => (owns_lt HR2.out hg).1))
      rw [← HSN.out] at ho4
      have HO4 := hide ho4
      have HB4 := hide hb4
      clear ho4 hb4 has
      go_wp2
      go_roundw
      case rel => exact ⟨j + 1, hjl, by go_num, HO4, HB4⟩
      case measure => simp [intOf]; omega
    · obtain rfl : j = N := by omega
      have hrow1 := hrow.out
      have hvl : (Z.vals (Z.cnt p j)).length = j := by rw [vals_length, cnt_length]
      obtain ⟨va, vc, hv, hsl, _⟩ := SlV.of_own hrow1
      rw [hvl] at hv hsl
      subst hv
      have hin : ∀ x ∈ Z.cnt p j, Z.I64 x := fun x hx => by have := cnt_low p j x hx; unfold Z.I64; omega
      have HVI := hide (vals_i64 hin)
      have hchk : Z.chk (Z.vals (Z.cnt p j)) 1 = 0 := vals_chk (by rw [cnt_length]; omega)
      obtain ⟨n, hn⟩ : ∃ n, n + 1 + 1 = j := ⟨j - 2, by omega⟩
      have hcnt := deb_cnt p n
      have hrest := (deb_rest ⟨1, p, ⟨#[]⟩⟩ []).2.2
      rw [hn] at hcnt
      have hone : (Z.vals (Z.cnt p j)).take 1 = [⟨1, p, ⟨#[]⟩⟩] := by rw [← hn]; rfl
      have hchk1 : Z.chk [(⟨1, p, ⟨#[]⟩⟩ : Z.V)] 1 = 0 := vals_chk (l := [p]) (by simp)
      have HOI : Hid (∀ y ∈ [(⟨1, p, ⟨#[]⟩⟩ : Z.V)], Z.I64 y.i) := vals_i64 (z := [p]) fun x hx => by simp at hx; subst hx; unfold Z.I64; omega
      have hup := up_cnt p j
      rw [← decb_ok hchk, show Z.vals [p] = [(⟨1, p, ⟨#[]⟩⟩ : Z.V)] from rfl, ← decb_ok hchk1] at hcnt
      rw [← decb_ok hchk1] at hrest
      obtain ⟨l, hl⟩ : ∃ l, Z.vals (Z.cnt p j) = l := ⟨_, rfl⟩
      rw [hl] at hsl HVI hchk hvl hcnt hone hup
      obtain ⟨K, hK⟩ : ∃ K, (Z.decb l).length = K := ⟨_, rfl⟩
      obtain ⟨J, hJ⟩ : ∃ J, (Z.decb [(⟨1, p, ⟨#[]⟩⟩ : Z.V)]).length = J := ⟨_, rfl⟩
      rw [hK, hJ] at hcnt
      rw [hJ] at hrest
      have hK4 : K ≤ 40000 := by rw [← hK]; exact decb_len HVI.out
      replace b0 := hide (bthen b0.out hbw.out)
      have HSL := hide hsl
      have HONE := hide hone
      have HN := hide hn
      have D1 : Hid (Calls Try.prog 10 #[.slice va j vc] wr fun e w' => ∃ a c, e = .returned (.tuple #[.slice a K c, .int .i64 0]) ∧ Below wr.heap.size wr w') := by
        refine (debytes_any va j vc l wr hsl HVI.out).mono ?_
        rintro e w' ⟨a, c, rfl, _, h⟩
        exact ⟨a, c, by rw [hK, hchk], h⟩
      have D2 : Hid (∀ (w9 : World) (qa : Option Addr), SlV w9 qa 1 vc [⟨1, p, ⟨#[]⟩⟩] → Calls Try.prog 10 #[.slice qa 1 vc] w9 fun e w' => ∃ a c, e = .returned (.tuple #[.slice a J c, .int .i64 0]) ∧ Below w9.heap.size w9 w') := fun w9 qa h9 => by
        refine (debytes_any qa 1 vc _ w9 h9 HOI.out).mono ?_
        rintro e w' ⟨a, c, rfl, _, h⟩
        exact ⟨a, c, by rw [hJ, hchk1], h⟩
      have D3 : Hid (∀ w9 : World, Below wr.heap.size wr w9 → Calls Try.prog 17 #[.slice va j vc] w9 fun e w' => e = .returned (.bool true) ∧ Below w9.heap.size w9 w') := fun w9 h9 => by
        have := sorted_any va j vc l w9 (hsl.below h9) (by omega)
        rwa [hup] at this
      have HCNT := hide hcnt
      clear hrow1 hsl hvl hchk hchk1 hl hK hJ hcnt hone hup hn hin hrow
      go_wp2_with fail
      refine D1.out.mono ?_
      rintro e w3 ⟨xa, xc, rfl, hb⟩
      have HB3 := hide hb
      replace b0 := hide (bthen b0.out hb)
      obtain ⟨qa, hqs, hr1, hr2⟩ := head_one (HSL.out.below hb) (by omega)
      rw [HONE.out] at hqs
      have HQS := hide hqs
      clear hb D1 hqs HONE
      go_wp2_with fail
      refine (D2.out _ _ HQS.out).mono ?_
      rintro e w4 ⟨ya, yc, rfl, hb⟩
      replace HB3 := hide (bthen HB3.out hb)
      replace b0 := hide (bthen b0.out hb)
      obtain ⟨M, hM⟩ : ∃ M : Nat, j = M + 1 := ⟨j - 1, by omega⟩
      obtain ⟨t, ht⟩ : ∃ t, (2 * M + 7) / 8 = t := ⟨_, rfl⟩
      have hM1 : (j : Int) - 1 = (M : Int) := by omega
      have hM4 : M ≤ 4000 := by omega
      have g1 : ((2 : Int) * (M : Int) + 7).tdiv 8 = (t : Int) := by rw [Int.tdiv_eq_ediv_of_nonneg (by omega)]; omega
      have hcn := HCNT.out
      have hKJ : K = J + t := by have := HN.out; rw [hcn, ← ht]; congr 3; omega
      have g2 : ((K : Int) == (J : Int) + (t : Int)) = true := by simp; omega
      have g3 : decide ((2 : Int) ≤ (J : Int)) = true := by simp; omega
      have ht4 : t ≤ 1001 := by omega
      have hJ4 : J ≤ 40000 := by omega
      clear hb D2 HQS hcn ht hM hKJ HCNT HN hr1 hr2
      go_wp2_with fail
      refine (D3.out _ HB3.out).mono ?_
      rintro e w5 ⟨rfl, hb⟩
      replace b0 := hide (bthen b0.out hb)
      clear hb D3
      go_wp2
      go_ret
      exact ⟨rfl, b0.out⟩
end Go.Proofs.Ytkcpfgjkplailaa

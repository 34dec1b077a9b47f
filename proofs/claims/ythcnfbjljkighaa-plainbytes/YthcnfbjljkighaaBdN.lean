/- The contract of the reference's Get. -/
import Derived.Test.YthcnfbjljkighaaBdM
import Derived.Test.YthcnfbjljkighaaBdJ
import Derived.Test.YthcnfbjljkighaaBdL
import Derived.Test.YthcnfbjljkighaaBdA
namespace Go.Proofs.Ythcnfbjljkighaa
set_option linter.unusedVariables false
open Go.RowKit

theorem val_drop (l : List Nat) (i : Nat) (h : i < l.length) : E.val (l.drop i) = l.getD i 0 % 128 + 128 * E.val (l.drop (i + 1)) := by
  rw [List.drop_eq_getElem_cons h]
  simp [E.val, List.getD, h]
theorem val_drop_le (l : List Nat) (i : Nat) : E.val (l.drop i) ≤ E.val l := by
  have h := E.val_append (l.take i) (l.drop i)
  rw [List.take_append_drop] at h
  rw [h]
  have : E.val (l.drop i) ≤ 128 ^ (l.take i).length * E.val (l.drop i) := Nat.le_mul_of_pos_left _ (Nat.pow_pos (by omega))
  omega

set_option maxHeartbeats 400000 in
theorem rget_zero (ao : Option Addr) (cap : Nat) (w : World) :
    Calls Try.prog 53 #[.slice ao 0 cap] w fun e w' => e = .returned (.tuple #[.int .u64 0, .int .i64 0, .int .i64 3]) ∧ w' = w := by
  go_enter Try.func53, Try.ntmps53
  go_wp2_with fail
  go_loop [5] (fun k => k = .int .i64 0) (fun _ => 0)
  case atStart => exact rfl
  case round =>
    subst hrel
    go_wp2
    exact bodyPost_ret (v := .tuple #[.int .u64 0, .int .i64 0, .int .i64 3]) (by simp [results, Try.results53, go_sem]) rfl ⟨rfl, rfl⟩

set_option maxHeartbeats 2000000 in
theorem rget_some (b off len cap : Nat) (l : List Nat) (w : World) (hl : l.length = len) (hm : len ≤ 140737488355328) (hc : ∀ i, i < len → w.cell? ⟨b, off + i, none⟩ = some (.int .u8 ((l.getD i 0 : Nat) : Int))) (h256 : ∀ x ∈ l, x < 256) :
    Calls Try.prog 53 #[.slice (some ⟨b, off, none⟩) len cap] w fun e w' => e = .returned (.tuple #[.int .u64 ((E.gN l : Nat) : Int), .int .i64 ((E.gK l : Nat) : Int), .int .i64 ((E.gE l : Nat) : Int)]) ∧ w' = w := by
  have H2 := hide h256
  have HL := hide hl
  clear h256 hl
  go_enter Try.func53, Try.ntmps53
  go_wp2_with fail
  go_loop [5] (fun k => ∃ j : Nat, j ≤ 9 ∧ j ≤ len ∧ k = .int .i64 j ∧ (∀ t, t < j → 128 ≤ l.getD t 0)) (fun k => len - (intOf k).toNat)
  case atStart => exact ⟨0, by omega, Nat.zero_le _, rfl, fun t ht => by omega⟩
  case round =>
    obtain ⟨j, hj9, hjl, rfl, hlead⟩ := hrel
    have HLe := hide hlead
    clear hlead
    by_cases hlt : j < len
    · have hck := hc j hlt
      have hcl := E.getD_lt H2.out j
      obtain ⟨c, hce⟩ : ∃ c : Int, ((l.getD j 0 : Nat) : Int) = c := ⟨_, rfl⟩
      have hc0 : 0 ≤ c := by omega
      have hc1 : c < 256 := by omega
      rw [hce] at hck
      have HC := hide hce
      have HJL : Hid (j < l.length) := by have := HL.out; show _ < _; omega
      have HCC := hide hc
      have HI : Hid (c < 128 ∨ j = 9 → E.IsLead 9 l j) := fun h => ⟨hj9, Nat.le_of_lt HJL.out, HLe.out, h.elim (fun h => .inr (.inr (by have := HC.out; omega))) .inl⟩
      have hne : ((j : Int) == (len : Int)) = false := by simp; omega
      clear hc hce hcl
      by_cases hgo : j < 9 ∧ 128 ≤ c
      · obtain ⟨g1, g2⟩ := hgo
        have bz : (c == 0) = false := by simp; omega
        go_wp2
        all_goals
          go_round
          case rel =>
            refine ⟨j + 1, by omega, by omega, by go_num, fun t ht => ?_⟩
            rcases Nat.lt_or_ge t j with h | h
            · exact HLe.out t h
            · obtain rfl : t = j := by omega
              have := HC.out; omega
          case measure => simp [intOf]; omega
      · have HF : Hid ((j = 9 ∧ 1 < c) ∨ (0 < j ∧ c = 0) → E.gE l = 4) := fun h => E.gE_form (HI.out (by omega)) HJL.out (by have := HC.out; omega)
        have HO : Hid ((j = 9 → c ≤ 1) → (0 < j → c ≠ 0) → E.gE l = 0 ∧ E.gK l = j + 1 ∧ E.gN l = E.val (l.take (j + 1))) := fun h1 h2 => E.gE_ok (HI.out (by omega)) HJL.out (fun e => by have := HC.out; have := h1 e; omega) (fun e => by have := HC.out; have := h2 e; omega)
        rcases (show (j = 9 ∧ 1 < c) ∨ (j = 9 ∧ c = 0) ∨ (j < 9 ∧ c < 128 ∧ 0 < j ∧ c = 0) ∨ (j = 9 ∧ c = 1) ∨ (j < 9 ∧ c < 128 ∧ j = 0) ∨ (j < 9 ∧ c < 128 ∧ 0 < j ∧ c ≠ 0) by omega) with h | h | h | h | h | h
        · obtain ⟨rfl, h1⟩ := h
          have hg := HF.out (.inl ⟨rfl, h1⟩)
          have HG := hide hg
          clear hg hgo
          go_wp2
          have hz := E.g_zero (l := l) (by rw [HG.out]; decide)
          exact bodyPost_ret (v := .tuple #[.int .u64 0, .int .i64 0, .int .i64 4]) (by simp [results, Try.results53, go_sem]) rfl ⟨by rw [HG.out, hz.1, hz.2]; rfl, rfl⟩
        · obtain ⟨rfl, rfl⟩ := h
          have hg := HF.out (.inr ⟨by omega, rfl⟩)
          have HG := hide hg
          clear hg hgo
          go_wp2
          have hz := E.g_zero (l := l) (by rw [HG.out]; decide)
          exact bodyPost_ret (v := .tuple #[.int .u64 0, .int .i64 0, .int .i64 4]) (by simp [results, Try.results53, go_sem]) rfl ⟨by rw [HG.out, hz.1, hz.2]; rfl, rfl⟩
        · obtain ⟨h1, h2, h3, rfl⟩ := h
          have hg := HF.out (.inr ⟨h3, rfl⟩)
          have HG := hide hg
          have b9 : ((j : Int) == 9) = false := by simp; omega
          clear hg hgo
          go_wp2
          have hz := E.g_zero (l := l) (by rw [HG.out]; decide)
          exact bodyPost_ret (v := .tuple #[.int .u64 0, .int .i64 0, .int .i64 4]) (by simp [results, Try.results53, go_sem]) rfl ⟨by rw [HG.out, hz.1, hz.2]; rfl, rfl⟩
        · have hck9 : w.cell? ⟨b, off + 9, none⟩ = some (.int .u8 c) := by have := hck; rwa [h.1] at this
          have h9l : (9 : Int) < (len : Int) := by omega
          have b9 : ((j : Int) == 9) = true := by simp; omega
          have b1 : decide (1 < c) = false := by simp; omega
          have bj : 0 < j := by omega
          have bz : (c == 0) = false := by simp; omega
          have bjl : decide ((j : Int) < 9) = false := by simp; omega
          have HX := hide (HO.out (by omega) (by omega))
          clear hgo h
          go_wp2_with fail
          go_loop [6, 7] (fun n i => ∃ (x N : Int), i = .int .i64 x ∧ n = .int .u64 N ∧ -1 ≤ x ∧ x ≤ (j : Int) ∧ 0 ≤ N ∧ Hid (N = ((E.val ((l.take (j + 1)).drop (x + 1).toNat) : Nat) : Int))) (fun _ i => (intOf i + 1).toNat)
          case atStart => exact ⟨(j : Int), 0, rfl, rfl, by omega, by omega, by omega, hide (by rw [List.drop_of_length_le (by simp; omega)]; rfl)⟩
          case round =>
            obtain ⟨x, N, rfl, rfl, hx0, hx1, hN0, HN⟩ := hrel
            by_cases hx : 0 ≤ x
            · obtain ⟨t, rfl⟩ := Int.eq_ofNat_of_zero_le hx
              have hc2 := HCC.out t (by omega)
              have hcl2 := E.getD_lt H2.out t
              have hv := val_drop (l.take (j + 1)) t (by have := HJL.out; simp; omega)
              rw [E.getD_take _ _ _ (by omega)] at hv
              have hv2 := val_drop_le (l.take (j + 1)) t
              have hlim := E.gN_lt H2.out
              rw [HX.out.2.2] at hlim
              have hN := HN.out
              rw [show ((t : Int) + 1).toNat = t + 1 by omega] at hN
              obtain ⟨c2, hc2e⟩ : ∃ c : Int, ((l.getD t 0 : Nat) : Int) = c := ⟨_, rfl⟩
              rw [hc2e] at hc2
              have hb1 : N * 128 < 18446744073709551616 := by omega
              have hb2 : N * 128 + c2 % 128 < 18446744073709551616 := by omega
              have HV : Hid (N * 128 + c2 % 128 = ((E.val ((l.take (j + 1)).drop t) : Nat) : Int)) := by show _ = _; omega
              have hc20 : 0 ≤ c2 := by omega
              have hc21 : c2 < 256 := by omega
              clear hv hv2 hlim hN hc2e hcl2
              go_wp2
              go_round
              case rel => exact ⟨(t : Int) - 1, N * 128 + c2 % 128, rfl, rfl, by omega, by omega, by omega, hide (by rw [HV.out, show ((t : Int) - 1 + 1).toNat = t by omega])⟩
              case measure => simp [intOf]
            · have hx' : x = -1 := by omega
              subst hx'
              go_wp2
              obtain ⟨e1, e2, e3⟩ := HX.out
              have e4 : N = ((E.gN l : Nat) : Int) := by rw [HN.out, e3]; rfl
              refine bodyPost_ret (v := .tuple #[.int .u64 N, .int .i64 ((j : Int) + 1), .int .i64 0]) (by simp [results, Try.results53, go_sem]) rfl ⟨by rw [e1, e2, e4]; rfl, rfl⟩
        · have b9 : ((j : Int) == 9) = false := by simp; omega
          have bj : ¬ 0 < j := by omega
          have bg : decide (128 ≤ c) = false := by simp; omega
          have bjl : decide ((j : Int) < 9) = true := by simp; omega
          have HX := hide (HO.out (by omega) (by omega))
          clear hgo h
          go_wp2_with fail
          go_loop [6, 7] (fun n i => ∃ (x N : Int), i = .int .i64 x ∧ n = .int .u64 N ∧ -1 ≤ x ∧ x ≤ (j : Int) ∧ 0 ≤ N ∧ Hid (N = ((E.val ((l.take (j + 1)).drop (x + 1).toNat) : Nat) : Int))) (fun _ i => (intOf i + 1).toNat)
          case atStart => exact ⟨(j : Int), 0, rfl, rfl, by omega, by omega, by omega, hide (by rw [List.drop_of_length_le (by simp; omega)]; rfl)⟩
          case round =>
            obtain ⟨x, N, rfl, rfl, hx0, hx1, hN0, HN⟩ := hrel
            by_cases hx : 0 ≤ x
            · obtain ⟨t, rfl⟩ := Int.eq_ofNat_of_zero_le hx
              have hc2 := HCC.out t (by omega)
              have hcl2 := E.getD_lt H2.out t
              have hv := val_drop (l.take (j + 1)) t (by have := HJL.out; simp; omega)
              rw [E.getD_take _ _ _ (by omega)] at hv
              have hv2 := val_drop_le (l.take (j + 1)) t
              have hlim := E.gN_lt H2.out
              rw [HX.out.2.2] at hlim
              have hN := HN.out
              rw [show ((t : Int) + 1).toNat = t + 1 by omega] at hN
              obtain ⟨c2, hc2e⟩ : ∃ c : Int, ((l.getD t 0 : Nat) : Int) = c := ⟨_, rfl⟩
              rw [hc2e] at hc2
              have hb1 : N * 128 < 18446744073709551616 := by omega
              have hb2 : N * 128 + c2 % 128 < 18446744073709551616 := by omega
              have HV : Hid (N * 128 + c2 % 128 = ((E.val ((l.take (j + 1)).drop t) : Nat) : Int)) := by show _ = _; omega
              have hc20 : 0 ≤ c2 := by omega
              have hc21 : c2 < 256 := by omega
              clear hv hv2 hlim hN hc2e hcl2
              go_wp2
              go_round
              case rel => exact ⟨(t : Int) - 1, N * 128 + c2 % 128, rfl, rfl, by omega, by omega, by omega, hide (by rw [HV.out, show ((t : Int) - 1 + 1).toNat = t by omega])⟩
              case measure => simp [intOf]
            · have hx' : x = -1 := by omega
              subst hx'
              go_wp2
              obtain ⟨e1, e2, e3⟩ := HX.out
              have e4 : N = ((E.gN l : Nat) : Int) := by rw [HN.out, e3]; rfl
              refine bodyPost_ret (v := .tuple #[.int .u64 N, .int .i64 ((j : Int) + 1), .int .i64 0]) (by simp [results, Try.results53, go_sem]) rfl ⟨by rw [e1, e2, e4]; rfl, rfl⟩
        · have b9 : ((j : Int) == 9) = false := by simp; omega
          have bj : 0 < j := by omega
          have bg : decide (128 ≤ c) = false := by simp; omega
          have bz : (c == 0) = false := by simp; omega
          have bjl : decide ((j : Int) < 9) = true := by simp; omega
          have HX := hide (HO.out (by omega) (by omega))
          clear hgo h
          go_wp2_with fail
          go_loop [6, 7] (fun n i => ∃ (x N : Int), i = .int .i64 x ∧ n = .int .u64 N ∧ -1 ≤ x ∧ x ≤ (j : Int) ∧ 0 ≤ N ∧ Hid (N = ((E.val ((l.take (j + 1)).drop (x + 1).toNat) : Nat) : Int))) (fun _ i => (intOf i + 1).toNat)
          case atStart => exact ⟨(j : Int), 0, rfl, rfl, by omega, by omega, by omega, hide (by rw [List.drop_of_length_le (by simp; omega)]; rfl)⟩
          case round =>
            obtain ⟨x, N, rfl, rfl, hx0, hx1, hN0, HN⟩ := hrel
            by_cases hx : 0 ≤ x
            · obtain ⟨t, rfl⟩ := Int.eq_ofNat_of_zero_le hx
              have hc2 := HCC.out t (by omega)
              have hcl2 := E.getD_lt H2.out t
              have hv := val_drop (l.take (j + 1)) t (by have := HJL.out; simp; omega)
              rw [E.getD_take _ _ _ (by omega)] at hv
              have hv2 := val_drop_le (l.take (j + 1)) t
              have hlim := E.gN_lt H2.out
              rw [HX.out.2.2] at hlim
              have hN := HN.out
              rw [show ((t : Int) + 1).toNat = t + 1 by omega] at hN
              obtain ⟨c2, hc2e⟩ : ∃ c : Int, ((l.getD t 0 : Nat) : Int) = c := ⟨_, rfl⟩
              rw [hc2e] at hc2
              have hb1 : N * 128 < 18446744073709551616 := by omega
              have hb2 : N * 128 + c2 % 128 < 18446744073709551616 := by omega
              have HV : Hid (N * 128 + c2 % 128 = ((E.val ((l.take (j + 1)).drop t) : Nat) : Int)) := by show _ = _; omega
              have hc20 : 0 ≤ c2 := by omega
              have hc21 : c2 < 256 := by omega
              clear hv hv2 hlim hN hc2e hcl2
              go_wp2
              go_round
              case rel => exact ⟨(t : Int) - 1, N * 128 + c2 % 128, rfl, rfl, by omega, by omega, by omega, hide (by rw [HV.out, show ((t : Int) - 1 + 1).toNat = t by omega])⟩
              case measure => simp [intOf]
            · have hx' : x = -1 := by omega
              subst hx'
              go_wp2
              obtain ⟨e1, e2, e3⟩ := HX.out
              have e4 : N = ((E.gN l : Nat) : Int) := by rw [HN.out, e3]; rfl
              refine bodyPost_ret (v := .tuple #[.int .u64 N, .int .i64 ((j : Int) + 1), .int .i64 0]) (by simp [results, Try.results53, go_sem]) rfl ⟨by rw [e1, e2, e4]; rfl, rfl⟩
    · have HI : Hid (E.IsLead 9 l j) := ⟨hj9, by have := HL.out; omega, HLe.out, .inr (.inl (by have := HL.out; omega))⟩
      have hje : j = len := by omega
      subst hje
      clear hc
      go_wp2
      have hg := E.gE_short HI.out (by have := HL.out; omega)
      have hz := E.g_zero (l := l) (by rw [hg]; decide)
      exact bodyPost_ret (v := .tuple #[.int .u64 0, .int .i64 0, .int .i64 3]) (by simp [results, Try.results53, go_sem]) rfl ⟨by rw [hg, hz.1, hz.2]; rfl, rfl⟩

/-- The reference's Get. -/
theorem rget_any (ao : Option Addr) (len cap : Nat) (l : List Nat) (w : World) (h : Sl w .u8 ao len cap (ints l)) (h256 : ∀ x ∈ l, x < 256) (hm : len ≤ 140737488355328) :
    Calls Try.prog 53 #[.slice ao len cap] w fun e w' => e = .returned (.tuple #[.int .u64 ((E.gN l : Nat) : Int), .int .i64 ((E.gK l : Nat) : Int), .int .i64 ((E.gE l : Nat) : Int)]) ∧ w' = w := by
  obtain ⟨h1, h2, h3, h4, h5⟩ := h
  rw [ints_length] at h1
  by_cases h0 : len = 0
  · subst h0
    obtain rfl : l = [] := List.eq_nil_of_length_eq_zero h1
    exact rget_zero ao cap w
  · rcases h5 with h5 | ⟨b, off, rfl, hlt, h5⟩
    · omega
    · exact rget_some b off len cap l w h1 hm (fun i hi => by rw [h5 i hi, ints_getD]) h256
end Go.Proofs.Ythcnfbjljkighaa
/- The contracts of the reference's Ints, Text, ToInts. -/
namespace Go.Proofs.Ythcnfbjljkighaa
set_option linter.unusedVariables false
open Go.RowKit

/-- A slice's part. -/
theorem Sl.part {w : World} {k : IntKind} {ao : Option Addr} {len cap : Nat} {l : List Int} (h : Sl w k ao len cap l) (i j : Nat) (hij : i ≤ j) (hj : j ≤ len) : Sl w k (if cap = i then ao else ao.map (·.add (i * 1))) (j - i) (cap - i) ((l.take j).drop i) := by
  obtain ⟨h1, h2, h3, h4, h5⟩ := h
  refine ⟨by rw [List.length_drop, List.length_take, h1, Nat.min_eq_left hj], by omega, by omega, fun e => ?_, ?_⟩
  · by_cases hc : cap = i
    · omega
    · rw [if_neg hc] at e
      cases ao with
      | none => have := h4 rfl; omega
      | some x => simp at e
  · by_cases h0 : j - i = 0
    · exact .inl h0
    · rcases h5 with h5 | ⟨b, off, rfl, hlt, h5⟩
      · omega
      · rw [if_neg (by omega)]
        refine .inr ⟨b, off + i, by simp [Addr.add], hlt, fun t ht => ?_⟩
        rw [Nat.add_assoc, h5 (i + t) (by omega)]
        have : i + t < j := by omega
        simp [List.getD, this]

/-- The reference's Text. -/
theorem rtext_any (s : ByteArray) (w : World) (hs : s.size + 10 ≤ 140737488355328) :
    Calls Try.prog 38 #[.string s] w fun e w' => ∃ v, e = .returned v ∧ w'.ownsRow w.heap.size 5 1 v (E.leb s.size ++ sb s).length (B8 (E.leb s.size ++ sb s)) ∧ Below w.heap.size w w' := by
  obtain ⟨i0, hi, hz0, hz1, hz2⟩ := info_parts Try.infoU8
  have hl := E.leb_ten s.size (by omega)
  go_enter Try.func38, Try.ntmps38
  go_wp2_with fail
  refine (rput_any _ w (by omega) (by omega)).mono ?_
  rintro e w1 ⟨v1, rfl, ho1, hb1⟩
  rw [Int.toNat_natCast] at ho1
  go_wp2_with (at_builtin; refine Lib.wpList_append_own_string w1 rfl _ _ 23 9 rfl w.heap.size 5 i0 Try.underlying23 Try.underlying9 hi hz0 hz1 hz2 _ _ _ rfl ho1 s rfl ?c1 ?c2 ?c3 ?_)
  case c1 => unfold maxLen; omega
  case c2 => omega
  case c3 => exact hb1.size
  intro v2 w2 ho2 hg2 _
  go_wp2
  go_ret
  refine ⟨v2, rfl, ?_, hb1.trans ?_⟩
  · rw [B8_append, List.length_append, sb_length, ← strCells_sb]; exact ho2
  · exact (((Kept.refl (fun k => w.heap.size ≤ k) w1).grown hg2 (fun k hk => .inl (owns_lt ho1 hk).1))).below hb1.size (fun k hk => hk)
end Go.Proofs.Ythcnfbjljkighaa
/- The contract of the reference's Bytes. -/
namespace Go.Proofs.Ythcnfbjljkighaa
set_option linter.unusedVariables false
open Go.RowKit

set_option maxHeartbeats 1000000 in
theorem ubytes_any (k i : Int) (s : ByteArray) (w : World) (hi : Z.I64 i) :
    Calls Try.prog 18 #[.agg #[.int .i64 k, .int .i64 i, .string s]] w (BytesOf ⟨k, i, s⟩ w) := by
  have hA := At.new w k i s
  have b0 := hide (below_one w (.cells #[.int .i64 k, .int .i64 i, .string s] 41))
  cases hm : Z.may ⟨k, i, s⟩ with
  | false =>
    have HM := hide hm
    go_enter Try.func18, Try.ntmps18
    go_wp2_with fail
    refine (umay_any _ _ _ _ hi).mono ?_
    rintro e w1 ⟨rfl, hb⟩
    rw [HM.out]
    replace b0 := hide (bthen b0.out hb)
    clear hb hA hm
    go_wp2
    go_ret2
    exact BytesOf.no HM.out b0.out
  | true =>
    have HM := hide hm
    clear hm
    by_cases k1 : k = 1
    · subst k1
      go_enter Try.func18, Try.ntmps18
      go_wp2_with fail
      refine (umay_any _ _ _ _ hi).mono ?_
      rintro e w1 ⟨rfl, hb⟩
      rw [HM.out]
      replace b0 := hide (bthen b0.out hb)
      replace hA := hA.below hb
      obtain ⟨a1, a2, a3⟩ := hA.cells
      clear hb
      replace hA := hide hA
      go_wp2_with fail
      refine (rzig_any _ _ hi.1 hi.2).mono ?_
      rintro e w2 ⟨rfl, rfl⟩
      go_wp2_with fail
      refine (rput_any _ _ (by omega) (by have := E.zig_lt i hi.1 hi.2; omega)).mono ?_
      rintro e w3 ⟨v3, rfl, ho3, hb⟩
      rw [Int.toNat_natCast] at ho3
      obtain ⟨q1, q2, rfl, hs, _⟩ := Sl.of_bytes ho3
      replace b0 := hide (bthen b0.out hb)
      replace hs := hide hs
      clear hb ho3 a1 a2 a3 hA
      go_wp2
      go_ret2
      exact BytesOf.yes HM.out lb_int rfl hs.out b0.out
    · by_cases k2 : k = 2
      · subst k2
        have HU : Hid (IntKind.u64.wrap i = Z.u i) := u64_wrap i
        have HI := Z.u_in i
        have HK := D.ky_in HI
        go_enter Try.func18, Try.ntmps18
        go_wp2_with fail
        refine (umay_any _ _ _ _ hi).mono ?_
        rintro e w1 ⟨rfl, hb⟩
        rw [HM.out]
        replace b0 := hide (bthen b0.out hb)
        replace hA := hA.below hb
        obtain ⟨a1, a2, a3⟩ := hA.cells
        clear hb
        replace hA := hide hA
        go_wp2_with fail
        rw [HU.out]
        refine (rkey_any _ _ HI.1 HI.2).mono ?_
        rintro e w2 ⟨rfl, rfl⟩
        obtain ⟨n, hn⟩ : ∃ n, D.ky (Z.u i) = n := ⟨_, rfl⟩
        rw [hn] at HK ⊢
        obtain ⟨n0, n1⟩ := HK
        have HN := hide hn
        clear hn HI HU hi
        have hmk := make_eight
        clear a2 a3
        go_wp2_with fail
        go_rounds 9
        go_ret2
        have h := Sl.eight w2 5 (n / 256 / 256 / 256 / 256 / 256 / 256 / 256 % 256) (n / 256 / 256 / 256 / 256 / 256 / 256 % 256) (n / 256 / 256 / 256 / 256 / 256 % 256) (n / 256 / 256 / 256 / 256 % 256) (n / 256 / 256 / 256 % 256) (n / 256 / 256 % 256) (n / 256 % 256) (n % 256)
        have e : ints (Z.k8 n.toNat) = [n / 256 / 256 / 256 / 256 / 256 / 256 / 256 % 256, n / 256 / 256 / 256 / 256 / 256 / 256 % 256, n / 256 / 256 / 256 / 256 / 256 % 256, n / 256 / 256 / 256 / 256 % 256, n / 256 / 256 / 256 % 256, n / 256 / 256 % 256, n / 256 % 256, n % 256] := by
          simp only [ints, Z.k8, List.map_cons, List.map_nil, List.cons.injEq, and_true]
          omega
        exact BytesOf.yes (l := Z.k8 n.toNat) HM.out (by rw [lb_float, HN.out]) rfl (by rw [e]; exact h) (bthen b0.out (below_one w2 _))
      · by_cases k3 : k = 3
        · subst k3
          have hsz := may_size HM.out
          go_enter Try.func18, Try.ntmps18
          go_wp2_with fail
          refine (umay_any _ _ _ _ hi).mono ?_
          rintro e w1 ⟨rfl, hb⟩
          rw [HM.out]
          replace b0 := hide (bthen b0.out hb)
          replace hA := hA.below hb
          obtain ⟨a1, a2, a3⟩ := hA.cells
          clear hb
          replace hA := hide hA
          go_wp2_with fail
          refine (rtext_any _ _ (by omega)).mono ?_
          rintro e w3 ⟨v3, rfl, ho3, hb⟩
          obtain ⟨q1, q2, rfl, hs, _⟩ := Sl.of_bytes ho3
          replace b0 := hide (bthen b0.out hb)
          replace hs := hide hs
          clear hb ho3 a1 a2 a3 hA
          go_wp2
          go_ret2
          exact BytesOf.yes HM.out lb_text List.length_append (by rw [← List.length_append]; exact hs.out) b0.out
        · go_enter Try.func18, Try.ntmps18
          go_wp2_with fail
          refine (umay_any _ _ _ _ hi).mono ?_
          rintro e w1 ⟨rfl, hb⟩
          rw [HM.out]
          replace b0 := hide (bthen b0.out hb)
          replace hA := hA.below hb
          obtain ⟨a1, a2, a3⟩ := hA.cells
          clear hb
          replace hA := hide hA
          go_wp2
          go_ret2
          exact BytesOf.yes HM.out (lb_else k1 k2 k3) rfl (Sl.nil _ _) b0.out
end Go.Proofs.Ythcnfbjljkighaa
/- Bytes appended to bytes of one's own, as a law at the operation. -/
namespace Go.Proofs.Ythcnfbjljkighaa
set_option linter.unusedVariables false
open Go.RowKit

theorem wpList_app {w : World} {ops : Array Oper} {rest : List Oper} {o : Oper} {a : Act} {Q : Exit → Act → World → Prop} (hgd : o.guard = none) (s x : Operand)
    (ho : o.op = .call { callee := .builtin .append, args := #[s, x], argTypes := #[23, 23] })
    (base : Nat) (v : Value) (l : List Nat) (hs : a.eval s = v) (hown : w.ownsRow base 5 1 v l.length (B8 l))
    (ao : Option Addr) (m c : Nat) (news : List Nat) (hx : a.eval x = .slice ao m c) (hsl : Sl w .u8 ao m c (ints news)) (hlim : l.length + m ≤ 140737488355328) (hbase : base ≤ w.heap.size) (r : List Nat) (hr : l ++ news = r)
    (h : ∀ v' w', w'.ownsRow base 5 1 v' r.length (B8 r) → AS w v w' v' → wpList Try.prog ops Q rest (a.put o.dst v') w') : wpList Try.prog ops Q (o :: rest) a w := by
  obtain ⟨i0, hi, hz0, hz1, hz2⟩ := info_parts Try.infoU8
  have hm : news.length = m := by rw [← hsl.1, ints_length]
  refine wpList_append_to hgd s x 23 ho base 5 i0 (.int .u8 0) 1 1 Try.underlying23 hi hz0 hz1 hz2 rfl (by decide) v l.length (B8 l) hs hown ao m c ((ints news).map (Value.int .u8)) hx ?_ (by simp [ints_length, hm]) hsl.news ?_ (by unfold maxLen; omega) (by omega) hbase ?_
  · intro e
    have h4 := hsl.2.2.2.1 e
    have h2 := hsl.2.1
    exact ⟨by omega, h4⟩
  · intro u hu
    obtain ⟨y, _, rfl⟩ := List.mem_map.1 hu
    rfl
  · intro v' w' ho' has'
    refine h v' w' ?_ has'
    rw [← hr, List.length_append, hm, B8_append, B8_ints news]
    exact ho'
/-- No bytes, in new memory. -/
theorem owns_none (w : World) : (w.alloc (.cells #[] 5)).ownsRow w.heap.size 5 1 (.slice (some ⟨w.heap.size, 0, none⟩) 0 0) ([] : List Nat).length (B8 []) :=
  World.ownsRow_lit w #[] 0 (Nat.le_refl _) (by decide) (by simp)
/-- A row of one's own, as bytes that can be read; its length under a name. -/
theorem Sl.of_own {w : World} {B : Nat} {v : Value} {l : List Nat} (h : w.ownsRow B 5 1 v l.length (B8 l)) {k : Nat} (hk : l.length = k) : ∃ a c, v = .slice a k c ∧ Sl w .u8 a k c (ints l) := by
  subst hk
  obtain ⟨a, c, h1, h2, _⟩ := Sl.of_bytes h
  exact ⟨a, c, h1, h2⟩
end Go.Proofs.Ythcnfbjljkighaa

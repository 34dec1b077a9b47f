/- The contract of the reference's Get. -/
import Derived.Test.YtahpbenobhodnaaG1
namespace Go.Proofs.Ytahpbenobhodnaa
set_option linter.unusedVariables false
open Go.RowKit

theorem val_drop (l : List Nat) (i : Nat) (h : i < l.length) : E.val (l.drop i) = l.getD i 0 % 128 + 128 * E.val (l.drop (i + 1)) := by
  rw [List.drop_eq_getElem_cons h]
  simp [E.val, List.getD, h]
theorem val_drop_le (l : List Nat) (i : Nat) : E.val (l.drop i) ≤ E.val l := by
  have h := E.val_append (l.take i) (l.drop i)
  rw [List.take_append_drop] at h
  rw [h]
  have : E.val (l.drop i) ≤ 128 ^ (l.take i).length * E.val (l.drop i) := Nat.le_mul_of_pos_left _ (Nat.pow_pos (by omega))
  omega

set_option maxHeartbeats 400000 in
theorem rget_zero (ao : Option Addr) (cap : Nat) (w : World) :
    Calls Try.prog 33 #[.slice ao 0 cap] w fun e w' => e = .returned (.tuple #[.int .u64 0, .int .i64 0, .int .i64 3]) ∧ w' = w := by
  go_enter Try.func33, Try.ntmps33
  go_wp2_with fail
  go_loop [5] (fun k => k = .int .i64 0) (fun _ => 0)
  case atStart => exact rfl
  case round =>
    subst hrel
    go_wp2
    exact bodyPost_ret (v := .tuple #[.int .u64 0, .int .i64 0, .int .i64 3]) (by simp [results, Try.results33, go_sem]) rfl ⟨rfl, rfl⟩

set_option maxHeartbeats 2000000 in
theorem rget_some (b off len cap : Nat) (l : List Nat) (w : World) (hl : l.length = len) (hm : len ≤ 140737488355328) (hc : ∀ i, i < len → w.cell? ⟨b, off + i, none⟩ = some (.int .u8 ((l.getD i 0 : Nat) : Int))) (h256 : ∀ x ∈ l, x < 256) :
    Calls Try.prog 33 #[.slice (some ⟨b, off, none⟩) len cap] w fun e w' => e = .returned (.tuple #[.int .u64 ((E.gN l : Nat) : Int), .int .i64 ((E.gK l : Nat) : Int), .int .i64 ((E.gE l : Nat) : Int)]) ∧ w' = w := by
  have H2 := hide h256
  have HL := hide hl
  clear h256 hl
  go_enter Try.func33, Try.ntmps33
  go_wp2_with fail
  go_loop [5] (fun k => ∃ j : Nat, j ≤ 9 ∧ j ≤ len ∧ k = .int .i64 j ∧ (∀ t, t < j → 128 ≤ l.getD t 0)) (fun k => len - (intOf k).toNat)
  case atStart => exact ⟨0, by omega, Nat.zero_le _, rfl, fun t ht => by omega⟩
  case round =>
    obtain ⟨j, hj9, hjl, rfl, hlead⟩ := hrel
    have HLe := hide hlead
    clear hlead
    by_cases hlt : j < len
    · have hck := hc j hlt
      have hcl := E.getD_lt H2.out j
      obtain ⟨c, hce⟩ : ∃ c : Int, ((l.getD j 0 : Nat) : Int) = c := ⟨_, rfl⟩
      have hc0 : 0 ≤ c := by omega
      have hc1 : c < 256 := by omega
      rw [hce] at hck
      have HC := hide hce
      have HJL : Hid (j < l.length) := by have := HL.out; show _ < _; omega
      have HCC := hide hc
      have HI : Hid (c < 128 ∨ j = 9 → E.IsLead 9 l j) := fun h => ⟨hj9, Nat.le_of_lt HJL.out, HLe.out, h.elim (fun h => .inr (.inr (by have := HC.out; omega))) .inl⟩
      have hne : ((j : Int) == (len : Int)) = false := by simp; omega
      clear hc hce hcl
      by_cases hgo : j < 9 ∧ 128 ≤ c
      · obtain ⟨g1, g2⟩ := hgo
        have bz : (c == 0) = false := by simp; omega
        go_wp2
        all_goals
          go_round
          case rel =>
            refine ⟨j + 1, by omega, by omega, by go_num, fun t ht => ?_⟩
            rcases Nat.lt_or_ge t j with h | h
            · exact HLe.out t h
            · obtain rfl : t = j := by omega
              have := HC.out; omega
          case measure => simp [intOf]; omega
      · have HF : Hid ((j = 9 ∧ 1 < c) ∨ (0 < j ∧ c = 0) → E.gE l = 4) := fun h => E.gE_form (HI.out (by omega)) HJL.out (by have := HC.out; omega)
        have HO : Hid ((j = 9 → c ≤ 1) → (0 < j → c ≠ 0) → E.gE l = 0 ∧ E.gK l = j + 1 ∧ E.gN l = E.val (l.take (j + 1))) := fun h1 h2 => E.gE_ok (HI.out (by omega)) HJL.out (fun e => by have := HC.out; have := h1 e; omega) (fun e => by have := HC.out; have := h2 e; omega)
        rcases (show (j = 9 ∧ 1 < c) ∨ (j = 9 ∧ c = 0) ∨ (j < 9 ∧ c < 128 ∧ 0 < j ∧ c = 0) ∨ (j = 9 ∧ c = 1) ∨ (j < 9 ∧ c < 128 ∧ j = 0) ∨ (j < 9 ∧ c < 128 ∧ 0 < j ∧ c ≠ 0) by omega) with h | h | h | h | h | h
        · obtain ⟨rfl, h1⟩ := h
          have hg := HF.out (.inl ⟨rfl, h1⟩)
          have HG := hide hg
          clear hg hgo
          go_wp2
          have hz := E.g_zero (l := l) (by rw [HG.out]; decide)
          exact bodyPost_ret (v := .tuple #[.int .u64 0, .int .i64 0, .int .i64 4]) (by simp [results, Try.results33, go_sem]) rfl ⟨by rw [HG.out, hz.1, hz.2]; rfl, rfl⟩
        · obtain ⟨rfl, rfl⟩ := h
          have hg := HF.out (.inr ⟨by omega, rfl⟩)
          have HG := hide hg
          clear hg hgo
          go_wp2
          have hz := E.g_zero (l := l) (by rw [HG.out]; decide)
          exact bodyPost_ret (v := .tuple #[.int .u64 0, .int .i64 0, .int .i64 4]) (by simp [results, Try.results33, go_sem]) rfl ⟨by rw [HG.out, hz.1, hz.2]; rfl, rfl⟩
        · obtain ⟨h1, h2, h3, rfl⟩ := h
          have hg := HF.out (.inr ⟨h3, rfl⟩)
          have HG := hide hg
          have b9 : ((j : Int) == 9) = false := by simp; omega
          clear hg hgo
          go_wp2
          have hz := E.g_zero (l := l) (by rw [HG.out]; decide)
          exact bodyPost_ret (v := .tuple #[.int .u64 0, .int .i64 0, .int .i64 4]) (by simp [results, Try.results33, go_sem]) rfl ⟨by rw [HG.out, hz.1, hz.2]; rfl, rfl⟩
        · have hck9 : w.cell? ⟨b, off + 9, none⟩ = some (.int .u8 c) := by have := hck; rwa [h.1] at this
          have h9l : (9 : Int) < (len : Int) := by omega
          have b9 : ((j : Int) == 9) = true := by simp; omega
          have b1 : decide (1 < c) = false := by simp; omega
          have bj : 0 < j := by omega
          have bz : (c == 0) = false := by simp; omega
          have bjl : decide ((j : Int) < 9) = false := by simp; omega
          have HX := hide (HO.out (by omega) (by omega))
          clear hgo h
          go_wp2_with fail
          go_loop [6, 7] (fun n i => ∃ (x N : Int), i = .int .i64 x ∧ n = .int .u64 N ∧ -1 ≤ x ∧ x ≤ (j : Int) ∧ 0 ≤ N ∧ Hid (N = ((E.val ((l.take (j + 1)).drop (x + 1).toNat) : Nat) : Int))) (fun _ i => (intOf i + 1).toNat)
          case atStart => exact ⟨(j : Int), 0, rfl, rfl, by omega, by omega, by omega, hide (by rw [List.drop_of_length_le (by simp; omega)]; rfl)⟩
          case round =>
            obtain ⟨x, N, rfl, rfl, hx0, hx1, hN0, HN⟩ := hrel
            by_cases hx : 0 ≤ x
            · obtain ⟨t, rfl⟩ := Int.eq_ofNat_of_zero_le hx
              have hc2 := HCC.out t (by omega)
              have hcl2 := E.getD_lt H2.out t
              have hv := val_drop (l.take (j + 1)) t (by have := HJL.out; simp; omega)
              rw [E.getD_take _ _ _ (by omega)] at hv
              have hv2 := val_drop_le (l.take (j + 1)) t
              have hlim := E.gN_lt H2.out
              rw [HX.out.2.2] at hlim
              have hN := HN.out
              rw [show ((t : Int) + 1).toNat = t + 1 by omega] at hN
              obtain ⟨c2, hc2e⟩ : ∃ c : Int, ((l.getD t 0 : Nat) : Int) = c := ⟨_, rfl⟩
              rw [hc2e] at hc2
              have hb1 : N * 128 < 18446744073709551616 := by omega
              have hb2 : N * 128 + c2 % 128 < 18446744073709551616 := by omega
              have HV : Hid (N * 128 + c2 % 128 = ((E.val ((l.take (j + 1)).drop t) : Nat) : Int)) := by show _ = _; omega
              have hc20 : 0 ≤ c2 := by omega
              have hc21 : c2 < 256 := by omega
              clear hv hv2 hlim hN hc2e hcl2
              go_wp2
              go_round
              case rel => exact ⟨(t : Int) - 1, N * 128 + c2 % 128, rfl, rfl, by omega, by omega, by omega, hide (by rw [HV.out, show ((t : Int) - 1 + 1).toNat = t by omega])⟩
              case measure => simp [intOf]
            · have hx' : x = -1 := by omega
              subst hx'
              go_wp2
              obtain ⟨e1, e2, e3⟩ := HX.out
              have e4 : N = ((E.gN l : Nat) : Int) := by rw [HN.out, e3]; rfl
              refine bodyPost_ret (v := .tuple #[.int .u64 N, .int .i64 ((j : Int) + 1), .int .i64 0]) (by simp [results, Try.results33, go_sem]) rfl ⟨by rw [e1, e2, e4]; rfl, rfl⟩
        · have b9 : ((j : Int) == 9) = false := by simp; omega
          have bj : ¬ 0 < j := by omega
          have bg : decide (128 ≤ c) = false := by simp; omega
          have bjl : decide ((j : Int) < 9) = true := by simp; omega
          have HX := hide (HO.out (by omega) (by omega))
          clear hgo h
          go_wp2_with fail
          go_loop [6, 7] (fun n i => ∃ (x N : Int), i = .int .i64 x ∧ n = .int .u64 N ∧ -1 ≤ x ∧ x ≤ (j : Int) ∧ 0 ≤ N ∧ Hid (N = ((E.val ((l.take (j + 1)).drop (x + 1).toNat) : Nat) : Int))) (fun _ i => (intOf i + 1).toNat)
          case atStart => exact ⟨(j : Int), 0, rfl, rfl, by omega, by omega, by omega, hide (by rw [List.drop_of_length_le (by simp; omega)]; rfl)⟩
          case round =>
            obtain ⟨x, N, rfl, rfl, hx0, hx1, hN0, HN⟩ := hrel
            by_cases hx : 0 ≤ x
            · obtain ⟨t, rfl⟩ := Int.eq_ofNat_of_zero_le hx
              have hc2 := HCC.out t (by omega)
              have hcl2 := E.getD_lt H2.out t
              have hv := val_drop (l.take (j + 1)) t (by have := HJL.out; simp; omega)
              rw [E.getD_take _ _ _ (by omega)] at hv
              have hv2 := val_drop_le (l.take (j + 1)) t
              have hlim := E.gN_lt H2.out
              rw [HX.out.2.2] at hlim
              have hN := HN.out
              rw [show ((t : Int) + 1).toNat = t + 1 by omega] at hN
              obtain ⟨c2, hc2e⟩ : ∃ c : Int, ((l.getD t 0 : Nat) : Int) = c := ⟨_, rfl⟩
              rw [hc2e] at hc2
              have hb1 : N * 128 < 18446744073709551616 := by omega
              have hb2 : N * 128 + c2 % 128 < 18446744073709551616 := by omega
              have HV : Hid (N * 128 + c2 % 128 = ((E.val ((l.take (j + 1)).drop t) : Nat) : Int)) := by show _ = _; omega
              have hc20 : 0 ≤ c2 := by omega
              have hc21 : c2 < 256 := by omega
              clear hv hv2 hlim hN hc2e hcl2
              go_wp2
              go_round
              case rel => exact ⟨(t : Int) - 1, N * 128 + c2 % 128, rfl, rfl, by omega, by omega, by omega, hide (by rw [HV.out, show ((t : Int) - 1 + 1).toNat = t by omega])⟩
              case measure => simp [intOf]
            · have hx' : x = -1 := by omega
              subst hx'
              go_wp2
              obtain ⟨e1, e2, e3⟩ := HX.out
              have e4 : N = ((E.gN l : Nat) : Int) := by rw [HN.out, e3]; rfl
              refine bodyPost_ret (v := .tuple #[.int .u64 N, .int .i64 ((j : Int) + 1), .int .i64 0]) (by simp [results, Try.results33, go_sem]) rfl ⟨by rw [e1, e2, e4]; rfl, rfl⟩
        · have b9 : ((j : Int) == 9) = false := by simp; omega
          have bj : 0 < j := by omega
          have bg : decide (128 ≤ c) = false := by simp; omega
          have bz : (c == 0) = false := by simp; omega
          have bjl : decide ((j : Int) < 9) = true := by simp; omega
          have HX := hide (HO.out (by omega) (by omega))
          clear hgo h
          go_wp2_with fail
          go_loop [6, 7] (fun n i => ∃ (x N : Int), i = .int .i64 x ∧ n = .int .u64 N ∧ -1 ≤ x ∧ x ≤ (j : Int) ∧ 0 ≤ N ∧ Hid (N = ((E.val ((l.take (j + 1)).drop (x + 1).toNat) : Nat) : Int))) (fun _ i => (intOf i + 1).toNat)
          case atStart => exact ⟨(j : Int), 0, rfl, rfl, by omega, by omega, by omega, hide (by rw [List.drop_of_length_le (by simp; omega)]; rfl)⟩
          case round =>
            obtain ⟨x, N, rfl, rfl, hx0, hx1, hN0, HN⟩ := hrel
            by_cases hx : 0 ≤ x
            · obtain ⟨t, rfl⟩ := Int.eq_ofNat_of_zero_le hx
              have hc2 := HCC.out t (by omega)
              have hcl2 := E.getD_lt H2.out t
              have hv := val_drop (l.take (j + 1)) t (by have := HJL.out; simp; omega)
              rw [E.getD_take _ _ _ (by omega)] at hv
              have hv2 := val_drop_le (l.take (j + 1)) t
              have hlim := E.gN_lt H2.out
              rw [HX.out.2.2] at hlim
              have hN := HN.out
              rw [show ((t : Int) + 1).toNat = t + 1 by omega] at hN
              obtain ⟨c2, hc2e⟩ : ∃ c : Int, ((l.getD t 0 : Nat) : Int) = c := ⟨_, rfl⟩
              rw [hc2e] at hc2
              have hb1 : N * 128 < 18446744073709551616 := by omega
              have hb2 : N * 128 + c2 % 128 < 18446744073709551616 := by omega
              have HV : Hid (N * 128 + c2 % 128 = ((E.val ((l.take (j + 1)).drop t) : Nat) : Int)) := by show _ = _; omega
              have hc20 : 0 ≤ c2 := by omega
              have hc21 : c2 < 256 := by omega
              clear hv hv2 hlim hN hc2e hcl2
              go_wp2
              go_round
              case rel => exact ⟨(t : Int) - 1, N * 128 + c2 % 128, rfl, rfl, by omega, by omega, by omega, hide (by rw [HV.out, show ((t : Int) - 1 + 1).toNat = t by omega])⟩
              case measure => simp [intOf]
            · have hx' : x = -1 := by omega
              subst hx'
              go_wp2
              obtain ⟨e1, e2, e3⟩ := HX.out
              have e4 : N = ((E.gN l : Nat) : Int) := by rw [HN.out, e3]; rfl
              refine bodyPost_ret (v := .tuple #[.int .u64 N, .int .i64 ((j : Int) + 1), .int .i64 0]) (by simp [results, Try.results33, go_sem]) rfl ⟨by rw [e1, e2, e4]; rfl, rfl⟩
    · have HI : Hid (E.IsLead 9 l j) := ⟨hj9, by have := HL.out; omega, HLe.out, .inr (.inl (by have := HL.out; omega))⟩
      have hje : j = len := by omega
      subst hje
      clear hc
      go_wp2
      have hg := E.gE_short HI.out (by have := HL.out; omega)
      have hz := E.g_zero (l := l) (by rw [hg]; decide)
      exact bodyPost_ret (v := .tuple #[.int .u64 0, .int .i64 0, .int .i64 3]) (by simp [results, Try.results33, go_sem]) rfl ⟨by rw [hg, hz.1, hz.2]; rfl, rfl⟩

/-- The reference's Get. -/
theorem rget_any (ao : Option Addr) (len cap : Nat) (l : List Nat) (w : World) (h : Sl w .u8 ao len cap (ints l)) (h256 : ∀ x ∈ l, x < 256) (hm : len ≤ 140737488355328) :
    Calls Try.prog 33 #[.slice ao len cap] w fun e w' => e = .returned (.tuple #[.int .u64 ((E.gN l : Nat) : Int), .int .i64 ((E.gK l : Nat) : Int), .int .i64 ((E.gE l : Nat) : Int)]) ∧ w' = w := by
  obtain ⟨h1, h2, h3, h4, h5⟩ := h
  rw [ints_length] at h1
  by_cases h0 : len = 0
  · subst h0
    obtain rfl : l = [] := List.eq_nil_of_length_eq_zero h1
    exact rget_zero ao cap w
  · rcases h5 with h5 | ⟨b, off, rfl, hlt, h5⟩
    · omega
    · exact rget_some b off len cap l w h1 hm (fun i hi => by rw [h5 i hi, ints_getD]) h256
end Go.Proofs.Ytahpbenobhodnaa

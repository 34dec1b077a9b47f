/- What stands at the head of delta's laws: few, shown. Conditions: none. -/
import Derived.Test.YtkcpfgjkplailaaBdU
import Derived.Test.YtkcpfgjkplailaaBdW
import Derived.Test.YtkcpfgjkplailaaBdR
import Derived.Test.YtkcpfgjkplailaaBdG
import Derived.Test.YtkcpfgjkplailaaBdI
import Derived.Test.YtkcpfgjkplailaaBdJ
namespace Go.Proofs.Ytkcpfgjkplailaa
set_option linter.unusedVariables false
set_option maxRecDepth 10000
open Go.RowKit
def MFewAns (len : Nat) (w : World) (e : Ending) (w' : World) : Prop := ∃ q, e = .returned (.bool q) ∧ (q = true → len ≤ 1000) ∧ w' = w
theorem MFewAns.mk {len : Nat} {w : World} {v : Value} (q : Bool) (h0 : v = .bool q) (h : q = true → len ≤ 1000) : MFewAns len w (.returned v) w := ⟨q, by rw [h0], h, rfl⟩
theorem mfew_some (b off len cap : Nat) (l : List Z.V) (w : World) (hl : l.length = len) (hm : len ≤ 140737488355328) (hlt : b < w.heap.size)
    (hc : ∀ j x, l[j]? = some x → w.cell? ⟨b, off + j * 3, none⟩ = some (.int .i64 x.k) ∧ w.cell? ⟨b, off + j * 3 + 1, none⟩ = some (.int .i64 x.i) ∧ w.cell? ⟨b, off + j * 3 + 2, none⟩ = some (.string x.s)) :
    Calls Try.prog 9 #[.slice (some ⟨b, off, none⟩) len cap] w (MFewAns len w) := by
  have HC := hide hc
  have HL := hide hl
  clear hc hl
  go_enter Try.func9, Try.ntmps9
  go_wp2_with fail
  go_loopw [3, 4] (fun n i wr => ∃ (j : Nat) (x : Int), j ≤ len ∧ i = .int .i64 j ∧ n = .int .i64 x ∧ wr = w) (fun _ i _ => len - (intOf i).toNat)
  case atStart => exact ⟨0, 0, Nat.zero_le _, rfl, rfl, rfl⟩
  case round =>
    obtain ⟨j, x, hj, rfl, rfl, rfl⟩ := hrel
    by_cases hx : x ≤ 100000
    · have hxd : decide (x ≤ 100000) = true := by simpa using hx
      by_cases hjl : j < len
      · obtain ⟨⟨xk, xi, xs⟩, hx⟩ : ∃ x, l[j]? = some x := ⟨l[j]'(by rw [HL.out]; exact hjl), List.getElem?_eq_getElem _⟩
        obtain ⟨c1, c2, c3⟩ := HC.out j _ hx
        clear hx
        go_wp2
        go_roundw
        case rel => exact ⟨j + 1, _, hjl, by go_num, rfl, trivial⟩
        case measure => simp [intOf]; omega
      · obtain rfl : j = len := by omega
        by_cases h1 : j ≤ 1000
        · go_wp2
          go_ret
          exact MFewAns.mk _ rfl fun _ => h1
        · go_wp2
          go_ret
          exact MFewAns.mk _ rfl fun h => by simp at h
    · have hxd : decide (x ≤ 100000) = false := by simpa using hx
      by_cases h1 : len ≤ 1000
      · by_cases hjl : j < len
        · go_wp2
          go_ret
          exact MFewAns.mk _ rfl fun _ => h1
        · go_wp2
          go_ret
          exact MFewAns.mk _ rfl fun _ => h1
      · by_cases hjl : j < len
        · go_wp2
          go_ret
          exact MFewAns.mk _ rfl fun h => by simp at h
        · go_wp2
          go_ret
          exact MFewAns.mk _ rfl fun h => by simp at h
theorem mfew_none (ao : Option Addr) (cap : Nat) (w : World) :
    Calls Try.prog 9 #[.slice ao 0 cap] w (MFewAns 0 w) := by
  go_enter Try.func9, Try.ntmps9
  go_wp2_with fail
  go_rounds 1
  go_ret
  exact MFewAns.mk _ rfl fun _ => by omega
theorem mfew_any (ao : Option Addr) (len cap : Nat) (l : List Z.V) (w : World) (h : SlV w ao len cap l) (hm : len ≤ 140737488355328) :
    Calls Try.prog 9 #[.slice ao len cap] w (MFewAns len w) := by
  rcases h.2.2.2.2 with h5 | ⟨b, off, rfl, hlt, h5⟩
  · subst h5
    exact mfew_none ao cap w
  · exact mfew_some b off len cap l w h.1 hm hlt h5

theorem slV_three10 (w : World) (x y z : Z.V) : SlV (w.alloc (.cells #[.int .i64 x.k, .int .i64 x.i, .string x.s, .int .i64 y.k, .int .i64 y.i, .string y.s, .int .i64 z.k, .int .i64 z.i, .string z.s] 42)) (some ⟨w.heap.size, 0, none⟩) 3 3 [x, y, z] := by
  refine ⟨rfl, Nat.le_refl _, by decide, by simp, .inr ⟨w.heap.size, 0, rfl, by simp, fun j u hu => ?_⟩⟩
  match j, hu with
  | 0, hu => simp at hu; subst hu; simp
  | 1, hu => simp at hu; subst hu; simp
  | 2, hu => simp at hu; subst hu; simp
theorem sl_41 (w : World) : Sl (w.alloc (.cells #[.int .u64 4, .int .u64 1] 48)) .u64 (some ⟨w.heap.size, 0, none⟩) 2 2 [4, 1] := by
  refine ⟨rfl, Nat.le_refl _, by decide, by simp, .inr ⟨w.heap.size, 0, rfl, by simp, fun i hi => ?_⟩⟩
  match i, hi with
  | 0, _ => simp
  | 1, _ => simp
def exD : List Z.V := [⟨1, 3, ⟨#[]⟩⟩, ⟨1, 5, ⟨#[]⟩⟩, ⟨1, 4, ⟨#[]⟩⟩]
theorem exD_chk : Z.chk exD 1 = 0 := by decide
theorem exD_dst : Z.dst exD = [4, 1] := by
  show [E.zig (wrap64 (5 - 3)), E.zig (wrap64 (4 - 5))] = [4, 1]
  rw [wrap64_id ⟨by decide, by decide⟩, wrap64_id ⟨by decide, by decide⟩]
  decide
theorem exD_deb : Z.decb exD = [6, 3, 12] := by
  rw [decb_ok exD_chk]
  show E.leb (E.zig 3) ++ (E.leb (wid (ints (Z.dst exD))) ++ A.bytesOf (bitsAll (ints (Z.dst exD)) (wid (ints (Z.dst exD))))) = [6, 3, 12]
  rw [exD_dst]
  decide
theorem exD_up : Z.upB exD = false := by decide
theorem exD_i64 : ∀ x ∈ exD, Z.I64 x.i := by simp [exD, Z.I64]
set_option maxHeartbeats 2000000 in
theorem mshown_any (w : World) : Calls Try.prog 8 #[] w fun e w' => e = .returned (.bool true) ∧ Below w.heap.size w w' := by
  obtain ⟨w2, hw2⟩ : ∃ w2, w.alloc (.cells #[.int .i64 1, .int .i64 3, .string ⟨#[]⟩, .int .i64 1, .int .i64 5, .string ⟨#[]⟩, .int .i64 1, .int .i64 4, .string ⟨#[]⟩] 42) = w2 := ⟨_, rfl⟩
  have hsl : SlV w2 (some ⟨w.heap.size, 0, none⟩) 3 3 exD := by rw [← hw2]; exact slV_three10 w ⟨1, 3, ⟨#[]⟩⟩ ⟨1, 5, ⟨#[]⟩⟩ ⟨1, 4, ⟨#[]⟩⟩
  have hb2 : Below w.heap.size w w2 := by rw [← hw2]; exact below_one w _
  have HSL := hide hsl
  have HB2 := hide hb2
  have HW := hide hw2
  clear hsl hb2 hw2
  go_enter Try.func8, Try.ntmps8
  go_wp2_with fail
  rw [HW.out]
  refine (debytes_any _ 3 3 exD w2 HSL.out exD_i64).mono ?_
  rintro e w3 ⟨a, c, rfl, hs, hb⟩
  rw [exD_chk, exD_deb]
  rw [exD_deb] at hs
  have HB3 := hide (bthen HB2.out hb)
  have HSL3 := hide (HSL.out.below hb)
  have HS3 := hide hs
  clear hb hs HB2 HSL HW
  go_wp2_with fail
  refine (steps_any _ 3 3 exD w3 HSL3.out exD_i64 (by omega)).mono ?_
  rintro e w4 ⟨sa, sc, rfl, hs4, hb⟩
  rw [exD_dst] at hs4 ⊢
  have HB4 := hide (bthen HB3.out hb)
  have HSL4 := hide (HSL3.out.below hb)
  have HS4 := hide (HS3.out.below hb)
  have b5 := below_one w4 (.cells #[.int .u64 4, .int .u64 1] 48)
  have HSM := hide (u64same_yes sa (some ⟨w4.heap.size, 0, none⟩) 2 sc 2 [4, 1] _ (hs4.below b5) (sl_41 w4) (by omega))
  have HB5 := hide b5
  clear hb hs4 b5 HB3 HSL3 HS3
  go_wp2_with fail
  refine Calls.mono HSM.out ?_
  rintro e w6 ⟨rfl, hk⟩
  have hb46 : Below w4.heap.size w4 w6 := HB5.out.trans (hk.below HB5.out.size (by simp))
  have HB6 := hide (bthen HB4.out hb46)
  have HSL6 := hide (HSL4.out.below hb46)
  have HS6 := hide (HS4.out.below hb46)
  have hst : ∀ n, n = 3 → (convert 23 9 (.slice a n c)).run Try.prog w6 = .ok (.string ⟨#[6, 3, 12]⟩) w6 := by
    rintro n rfl
    have h := str_of HS6.out
    rw [show strOfNums (ints [6, 3, 12]) = ⟨#[6, 3, 12]⟩ from by decide] at h
    exact h
  have hst2 := hst 3 rfl
  have HSO := hide (sorted_any _ 3 3 exD w6 HSL6.out (by omega))
  rw [exD_up] at HSO
  clear hk hb46 hst HB5 HB4 HSL4 HS4 HSM
  go_wp2_with fail
  refine HSO.out.mono ?_
  rintro e w7 ⟨rfl, hb⟩
  have HB7 := hide (bthen HB6.out hb)
  clear hb hst2
  go_wp2
  go_ret
  exact ⟨rfl, HB7.out⟩
end Go.Proofs.Ytkcpfgjkplailaa
/- The contract of the reference's Get. -/
namespace Go.Proofs.Ytkcpfgjkplailaa
set_option linter.unusedVariables false
open Go.RowKit

theorem val_drop (l : List Nat) (i : Nat) (h : i < l.length) : E.val (l.drop i) = l.getD i 0 % 128 + 128 * E.val (l.drop (i + 1)) := by
  rw [List.drop_eq_getElem_cons h]
  simp [E.val, List.getD, h]
theorem val_drop_le (l : List Nat) (i : Nat) : E.val (l.drop i) ≤ E.val l := by
  have h := E.val_append (l.take i) (l.drop i)
  rw [List.take_append_drop] at h
  rw [h]
  have : E.val (l.drop i) ≤ 128 ^ (l.take i).length * E.val (l.drop i) := Nat.le_mul_of_pos_left _ (Nat.pow_pos (by omega))
  omega

set_option maxHeartbeats 400000 in
theorem rget_zero (ao : Option Addr) (cap : Nat) (w : World) :
    Calls Try.prog 36 #[.slice ao 0 cap] w fun e w' => e = .returned (.tuple #[.int .u64 0, .int .i64 0, .int .i64 3]) ∧ w' = w := by
  go_enter Try.func36, Try.ntmps36
  go_wp2_with fail
  go_loop [5] (fun k => k = .int .i64 0) (fun _ => 0)
  case atStart => exact rfl
  case round =>
    subst hrel
    go_wp2
    exact bodyPost_ret (v := .tuple #[.int .u64 0, .int .i64 0, .int .i64 3]) (by simp [results, Try.results36, go_sem]) rfl ⟨rfl, rfl⟩

set_option maxHeartbeats 2000000 in
theorem rget_some (b off len cap : Nat) (l : List Nat) (w : World) (hl : l.length = len) (hm : len ≤ 140737488355328) (hc : ∀ i, i < len → w.cell? ⟨b, off + i, none⟩ = some (.int .u8 ((l.getD i 0 : Nat) : Int))) (h256 : ∀ x ∈ l, x < 256) :
    Calls Try.prog 36 #[.slice (some ⟨b, off, none⟩) len cap] w fun e w' => e = .returned (.tuple #[.int .u64 ((E.gN l : Nat) : Int), .int .i64 ((E.gK l : Nat) : Int), .int .i64 ((E.gE l : Nat) : Int)]) ∧ w' = w := by
  have H2 := hide h256
  have HL := hide hl
  clear h256 hl
  go_enter Try.func36, Try.ntmps36
  go_wp2_with fail
  go_loop [5] (fun k => ∃ j : Nat, j ≤ 9 ∧ j ≤ len ∧ k = .int .i64 j ∧ (∀ t, t < j → 128 ≤ l.getD t 0)) (fun k => len - (intOf k).toNat)
  case atStart => exact ⟨0, by omega, Nat.zero_le _, rfl, fun t ht => by omega⟩
  case round =>
    obtain ⟨j, hj9, hjl, rfl, hlead⟩ := hrel
    have HLe := hide hlead
    clear hlead
    by_cases hlt : j < len
    · have hck := hc j hlt
      have hcl := E.getD_lt H2.out j
      obtain ⟨c, hce⟩ : ∃ c : Int, ((l.getD j 0 : Nat) : Int) = c := ⟨_, rfl⟩
      have hc0 : 0 ≤ c := by omega
      have hc1 : c < 256 := by omega
      rw [hce] at hck
      have HC := hide hce
      have HJL : Hid (j < l.length) := by have := HL.out; show _ < _; omega
      have HCC := hide hc
      have HI : Hid (c < 128 ∨ j = 9 → E.IsLead 9 l j) := fun h => ⟨hj9, Nat.le_of_lt HJL.out, HLe.out, h.elim (fun h => .inr (.inr (by have := HC.out; omega))) .inl⟩
      have hne : ((j : Int) == (len : Int)) = false := by simp; omega
      clear hc hce hcl
      by_cases hgo : j < 9 ∧ 128 ≤ c
      · obtain ⟨g1, g2⟩ := hgo
        have bz : (c == 0) = false := by simp; omega
        go_wp2
        all_goals
          go_round
          case rel =>
            refine ⟨j + 1, by omega, by omega, by go_num, fun t ht => ?_⟩
            rcases Nat.lt_or_ge t j with h | h
            · exact HLe.out t h
            · obtain rfl : t = j := by omega
              have := HC.out; omega
          case measure => simp [intOf]; omega
      · have HF : Hid ((j = 9 ∧ 1 < c) ∨ (0 < j ∧ c = 0) → E.gE l = 4) := fun h => E.gE_form (HI.out (by omega)) HJL.out (by have := HC.out; omega)
        have HO : Hid ((j = 9 → c ≤ 1) → (0 < j → c ≠ 0) → E.gE l = 0 ∧ E.gK l = j + 1 ∧ E.gN l = E.val (l.take (j + 1))) := fun h1 h2 => E.gE_ok (HI.out (by omega)) HJL.out (fun e => by have := HC.out; have := h1 e; omega) (fun e => by have := HC.out; have := h2 e; omega)
        rcases (show (j = 9 ∧ 1 < c) ∨ (j = 9 ∧ c = 0) ∨ (j < 9 ∧ c < 128 ∧ 0 < j ∧ c = 0) ∨ (j = 9 ∧ c = 1) ∨ (j < 9 ∧ c < 128 ∧ j = 0) ∨ (j < 9 ∧ c < 128 ∧ 0 < j ∧ c ≠ 0) by omega) with h | h | h | h | h | h
        · obtain ⟨rfl, h1⟩ := h
          have hg := HF.out (.inl ⟨rfl, h1⟩)
          have HG := hide hg
          clear hg hgo
          go_wp2
          have hz := E.g_zero (l := l) (by rw [HG.out]; decide)
          exact bodyPost_ret (v := .tuple #[.int .u64 0, .int .i64 0, .int .i64 4]) (by simp [results, Try.results36, go_sem]) rfl ⟨by rw [HG.out, hz.1, hz.2]; rfl, rfl⟩
        · obtain ⟨rfl, rfl⟩ := h
          have hg := HF.out (.inr ⟨by omega, rfl⟩)
          have HG := hide hg
          clear hg hgo
          go_wp2
          have hz := E.g_zero (l := l) (by rw [HG.out]; decide)
          exact bodyPost_ret (v := .tuple #[.int .u64 0, .int .i64 0, .int .i64 4]) (by simp [results, Try.results36, go_sem]) rfl ⟨by rw [HG.out, hz.1, hz.2]; rfl, rfl⟩
        · obtain ⟨h1, h2, h3, rfl⟩ := h
          have hg := HF.out (.inr ⟨h3, rfl⟩)
          have HG := hide hg
          have b9 : ((j : Int) == 9) = false := by simp; omega
          clear hg hgo
          go_wp2
          have hz := E.g_zero (l := l) (by rw [HG.out]; decide)
          exact bodyPost_ret (v := .tuple #[.int .u64 0, .int .i64 0, .int .i64 4]) (by simp [results, Try.results36, go_sem]) rfl ⟨by rw [HG.out, hz.1, hz.2]; rfl, rfl⟩
        · have hck9 : w.cell? ⟨b, off + 9, none⟩ = some (.int .u8 c) := by have := hck; rwa [h.1] at this
          have h9l : (9 : Int) < (len : Int) := by omega
          have b9 : ((j : Int) == 9) = true := by simp; omega
          have b1 : decide (1 < c) = false := by simp; omega
          have bj : 0 < j := by omega
          have bz : (c == 0) = false := by simp; omega
          have bjl : decide ((j : Int) < 9) = false := by simp; omega
          have HX := hide (HO.out (by omega) (by omega))
          clear hgo h
          go_wp2_with fail
          go_loop [6, 7] (fun n i => ∃ (x N : Int), i = .int .i64 x ∧ n = .int .u64 N ∧ -1 ≤ x ∧ x ≤ (j : Int) ∧ 0 ≤ N ∧ Hid (N = ((E.val ((l.take (j + 1)).drop (x + 1).toNat) : Nat) : Int))) (fun _ i => (intOf i + 1).toNat)
          case atStart => exact ⟨(j : Int), 0, rfl, rfl, by omega, by omega, by omega, hide (by rw [List.drop_of_length_le (by simp; omega)]; rfl)⟩
          case round =>
            obtain ⟨x, N, rfl, rfl, hx0, hx1, hN0, HN⟩ := hrel
            by_cases hx : 0 ≤ x
            · obtain ⟨t, rfl⟩ := Int.eq_ofNat_of_zero_le hx
              have hc2 := HCC.out t (by omega)
              have hcl2 := E.getD_lt H2.out t
              have hv := val_drop (l.take (j + 1)) t (by have := HJL.out; simp; omega)
              rw [E.getD_take _ _ _ (by omega)] at hv
              have hv2 := val_drop_le (l.take (j + 1)) t
              have hlim := E.gN_lt H2.out
              rw [HX.out.2.2] at hlim
              have hN := HN.out
              rw [show ((t : Int) + 1).toNat = t + 1 by omega] at hN
              obtain ⟨c2, hc2e⟩ : ∃ c : Int, ((l.getD t 0 : Nat) : Int) = c := ⟨_, rfl⟩
              rw [hc2e] at hc2
              have hb1 : N * 128 < 18446744073709551616 := by omega
              have hb2 : N * 128 + c2 % 128 < 18446744073709551616 := by omega
              have HV : Hid (N * 128 + c2 % 128 = ((E.val ((l.take (j + 1)).drop t) : Nat) : Int)) := by show _ = _; omega
              have hc20 : 0 ≤ c2 := by omega
              have hc21 : c2 < 256 := by omega
              clear hv hv2 hlim hN hc2e hcl2
              go_wp2
              go_round
              case rel => exact ⟨(t : Int) - 1, N * 128 + c2 % 128, rfl, rfl, by omega, by omega, by omega, hide (by rw [HV.out, show ((t : Int) - 1 + 1).toNat = t by omega])⟩
              case measure => simp [intOf]
            · have hx' : x = -1 := by omega
              subst hx'
              go_wp2
              obtain ⟨e1, e2, e3⟩ := HX.out
              have e4 : N = ((E.gN l : Nat) : Int) := by rw [HN.out, e3]; rfl
              refine bodyPost_ret (v := .tuple #[.int .u64 N, .int .i64 ((j : Int) + 1), .int .i64 0]) (by simp [results, Try.results36, go_sem]) rfl ⟨by rw [e1, e2, e4]; rfl, rfl⟩
        · have b9 : ((j : Int) == 9) = false := by simp; omega
          have bj : ¬ 0 < j := by omega
          have bg : decide (128 ≤ c) = false := by simp; omega
          have bjl : decide ((j : Int) < 9) = true := by simp; omega
          have HX := hide (HO.out (by omega) (by omega))
          clear hgo h
          go_wp2_with fail
          go_loop [6, 7] (fun n i => ∃ (x N : Int), i = .int .i64 x ∧ n = .int .u64 N ∧ -1 ≤ x ∧ x ≤ (j : Int) ∧ 0 ≤ N ∧ Hid (N = ((E.val ((l.take (j + 1)).drop (x + 1).toNat) : Nat) : Int))) (fun _ i => (intOf i + 1).toNat)
          case atStart => exact ⟨(j : Int), 0, rfl, rfl, by omega, by omega, by omega, hide (by rw [List.drop_of_length_le (by simp; omega)]; rfl)⟩
          case round =>
            obtain ⟨x, N, rfl, rfl, hx0, hx1, hN0, HN⟩ := hrel
            by_cases hx : 0 ≤ x
            · obtain ⟨t, rfl⟩ := Int.eq_ofNat_of_zero_le hx
              have hc2 := HCC.out t (by omega)
              have hcl2 := E.getD_lt H2.out t
              have hv := val_drop (l.take (j + 1)) t (by have := HJL.out; simp; omega)
              rw [E.getD_take _ _ _ (by omega)] at hv
              have hv2 := val_drop_le (l.take (j + 1)) t
              have hlim := E.gN_lt H2.out
              rw [HX.out.2.2] at hlim
              have hN := HN.out
              rw [show ((t : Int) + 1).toNat = t + 1 by omega] at hN
              obtain ⟨c2, hc2e⟩ : ∃ c : Int, ((l.getD t 0 : Nat) : Int) = c := ⟨_, rfl⟩
              rw [hc2e] at hc2
              have hb1 : N * 128 < 18446744073709551616 := by omega
              have hb2 : N * 128 + c2 % 128 < 18446744073709551616 := by omega
              have HV : Hid (N * 128 + c2 % 128 = ((E.val ((l.take (j + 1)).drop t) : Nat) : Int)) := by show _ = _; omega
              have hc20 : 0 ≤ c2 := by omega
              have hc21 : c2 < 256 := by omega
              clear hv hv2 hlim hN hc2e hcl2
              go_wp2
              go_round
              case rel => exact ⟨(t : Int) - 1, N * 128 + c2 % 128, rfl, rfl, by omega, by omega, by omega, hide (by rw [HV.out, show ((t : Int) - 1 + 1).toNat = t by omega])⟩
              case measure => simp [intOf]
            · have hx' : x = -1 := by omega
              subst hx'
              go_wp2
              obtain ⟨e1, e2, e3⟩ := HX.out
              have e4 : N = ((E.gN l : Nat) : Int) := by rw [HN.out, e3]; rfl
              refine bodyPost_ret (v := .tuple #[.int .u64 N, .int .i64 ((j : Int) + 1), .int .i64 0]) (by simp [results, Try.results36, go_sem]) rfl ⟨by rw [e1, e2, e4]; rfl, rfl⟩
        · have b9 : ((j : Int) == 9) = false := by simp; omega
          have bj : 0 < j := by omega
          have bg : decide (128 ≤ c) = false := by simp; omega
          have bz : (c == 0) = false := by simp; omega
          have bjl : decide ((j : Int) < 9) = true := by simp; omega
          have HX := hide (HO.out (by omega) (by omega))
          clear hgo h
          go_wp2_with fail
          go_loop [6, 7] (fun n i => ∃ (x N : Int), i = .int .i64 x ∧ n = .int .u64 N ∧ -1 ≤ x ∧ x ≤ (j : Int) ∧ 0 ≤ N ∧ Hid (N = ((E.val ((l.take (j + 1)).drop (x + 1).toNat) : Nat) : Int))) (fun _ i => (intOf i + 1).toNat)
          case atStart => exact ⟨(j : Int), 0, rfl, rfl, by omega, by omega, by omega, hide (by rw [List.drop_of_length_le (by simp; omega)]; rfl)⟩
          case round =>
            obtain ⟨x, N, rfl, rfl, hx0, hx1, hN0, HN⟩ := hrel
            by_cases hx : 0 ≤ x
            · obtain ⟨t, rfl⟩ := Int.eq_ofNat_of_zero_le hx
              have hc2 := HCC.out t (by omega)
              have hcl2 := E.getD_lt H2.out t
              have hv := val_drop (l.take (j + 1)) t (by have := HJL.out; simp; omega)
              rw [E.getD_take _ _ _ (by omega)] at hv
              have hv2 := val_drop_le (l.take (j + 1)) t
              have hlim := E.gN_lt H2.out
              rw [HX.out.2.2] at hlim
              have hN := HN.out
              rw [show ((t : Int) + 1).toNat = t + 1 by omega] at hN
              obtain ⟨c2, hc2e⟩ : ∃ c : Int, ((l.getD t 0 : Nat) : Int) = c := ⟨_, rfl⟩
              rw [hc2e] at hc2
              have hb1 : N * 128 < 18446744073709551616 := by omega
              have hb2 : N * 128 + c2 % 128 < 18446744073709551616 := by omega
              have HV : Hid (N * 128 + c2 % 128 = ((E.val ((l.take (j + 1)).drop t) : Nat) : Int)) := by show _ = _; omega
              have hc20 : 0 ≤ c2 := by omega
              have hc21 : c2 < 256 := by omega
              clear hv hv2 hlim hN hc2e hcl2
              go_wp2
              go_round
              case rel => exact ⟨(t : Int) - 1, N * 128 + c2 % 128, rfl, rfl, by omega, by omega, by omega, hide (by rw [HV.out, show ((t : Int) - 1 + 1).toNat = t by omega])⟩
              case measure => simp [intOf]
            · have hx' : x = -1 := by omega
              subst hx'
              go_wp2
              obtain ⟨e1, e2, e3⟩ := HX.out
              have e4 : N = ((E.gN l : Nat) : Int) := by rw [HN.out, e3]; rfl
              refine bodyPost_ret (v := .tuple #[.int .u64 N, .int .i64 ((j : Int) + 1), .int .i64 0]) (by simp [results, Try.results36, go_sem]) rfl ⟨by rw [e1, e2, e4]; rfl, rfl⟩
    · have HI : Hid (E.IsLead 9 l j) := ⟨hj9, by have := HL.out; omega, HLe.out, .inr (.inl (by have := HL.out; omega))⟩
      have hje : j = len := by omega
      subst hje
      clear hc
      go_wp2
      have hg := E.gE_short HI.out (by have := HL.out; omega)
      have hz := E.g_zero (l := l) (by rw [hg]; decide)
      exact bodyPost_ret (v := .tuple #[.int .u64 0, .int .i64 0, .int .i64 3]) (by simp [results, Try.results36, go_sem]) rfl ⟨by rw [hg, hz.1, hz.2]; rfl, rfl⟩

/-- The reference's Get. -/
theorem rget_any (ao : Option Addr) (len cap : Nat) (l : List Nat) (w : World) (h : Sl w .u8 ao len cap (ints l)) (h256 : ∀ x ∈ l, x < 256) (hm : len ≤ 140737488355328) :
    Calls Try.prog 36 #[.slice ao len cap] w fun e w' => e = .returned (.tuple #[.int .u64 ((E.gN l : Nat) : Int), .int .i64 ((E.gK l : Nat) : Int), .int .i64 ((E.gE l : Nat) : Int)]) ∧ w' = w := by
  obtain ⟨h1, h2, h3, h4, h5⟩ := h
  rw [ints_length] at h1
  by_cases h0 : len = 0
  · subst h0
    obtain rfl : l = [] := List.eq_nil_of_length_eq_zero h1
    exact rget_zero ao cap w
  · rcases h5 with h5 | ⟨b, off, rfl, hlt, h5⟩
    · omega
    · exact rget_some b off len cap l w h1 hm (fun i hi => by rw [h5 i hi, ints_getD]) h256
end Go.Proofs.Ytkcpfgjkplailaa
/- The contracts of the reference's Ints, Text, ToInts. -/
namespace Go.Proofs.Ytkcpfgjkplailaa
set_option linter.unusedVariables false
open Go.RowKit

/-- A slice's part. -/
theorem Sl.part {w : World} {k : IntKind} {ao : Option Addr} {len cap : Nat} {l : List Int} (h : Sl w k ao len cap l) (i j : Nat) (hij : i ≤ j) (hj : j ≤ len) : Sl w k (if cap = i then ao else ao.map (·.add (i * 1))) (j - i) (cap - i) ((l.take j).drop i) := by
  obtain ⟨h1, h2, h3, h4, h5⟩ := h
  refine ⟨by rw [List.length_drop, List.length_take, h1, Nat.min_eq_left hj], by omega, by omega, fun e => ?_, ?_⟩
  · by_cases hc : cap = i
    · omega
    · rw [if_neg hc] at e
      cases ao with
      | none => have := h4 rfl; omega
      | some x => simp at e
  · by_cases h0 : j - i = 0
    · exact .inl h0
    · rcases h5 with h5 | ⟨b, off, rfl, hlt, h5⟩
      · omega
      · rw [if_neg (by omega)]
        refine .inr ⟨b, off + i, by simp [Addr.add], hlt, fun t ht => ?_⟩
        rw [Nat.add_assoc, h5 (i + t) (by omega)]
        have : i + t < j := by omega
        simp [List.getD, this]

end Go.Proofs.Ytkcpfgjkplailaa
/- Parts of slices in a region that draws its order. -/
namespace Go.Proofs.Ytkcpfgjkplailaa.V
set_option linter.unusedVariables false
open Go.RowKit
variable {ops : Array Oper} {Q : Exit → Act → World → Prop} {tbl : List (Nat × Ent)} {w0 : World} {o : Oper}

theorem size_u8 (w : World) : (sizeOf 5).run Try.prog w = .ok 1 w := by
  obtain ⟨i0, hi, hz0, hz1, hz2⟩ := info_parts Try.infoU8
  simp [sizeOf, typeInfo, hi, hz1]
theorem elem_bytes : Try.prog.elem 23 = 5 := by kernel_rfl
theorem under_bytes : Try.prog.underlying 23 = some (.slice (Try.prog.elem 23)) := by rw [elem_bytes]; exact Try.underlying23

theorem Step.part {s p q i j len cap : Nat} {a0 : Option Addr} {l : List Nat} (hw : Wants tbl ops o) (ho : o.op = .slice 23 (.tmp s) (some (.tmp p)) (some (.tmp q)) none) (hs : get tbl s = Ent.is (.slice a0 len cap)) (hp : get tbl p = Ent.is (.int .i64 (i : Int))) (hq : get tbl q = Ent.is (.int .i64 (j : Int)))
    (hsl : Sl w0 .u8 a0 len cap (ints l)) (hij : i ≤ j) (hj : j ≤ len) (hd : ∀ d, o.dst = some d → get tbl d = Ent.sl (j - i) ((l.take j).drop i)) : Step Try.prog ops Q tbl w0 o := by
  refine Step.value hw fun a w hb hk => ⟨.slice (if cap = i then a0 else a0.map (·.add (i * 1))) (j - i) (cap - i), ?_, fun d h => ?_⟩
  · have h1 : a.eval (.tmp s) = .slice a0 len cap := by
      have := hk s (looks_op (by rw [ho]; simp [Op.operands]))
      rwa [hs] at this
    have h2 : a.eval (.tmp p) = .int .i64 (i : Int) := by
      have := hk p (looks_op (by rw [ho]; simp [Op.operands]))
      rwa [hp] at this
    have h3 : a.eval (.tmp q) = .int .i64 (j : Int) := by
      have := hk q (looks_op (by rw [ho]; simp [Op.operands]))
      rwa [hq] at this
    have hc := hsl.2.1
    have hr := run_slice_lh (P := Try.prog) w 23 a0 len cap under_bytes .i64 .i64 (i : Int) (j : Int) (by omega) (by omega) (by omega)
    rw [elem_bytes, size_u8] at hr
    simp only [Result.andThen_ok, Int.toNat_natCast, sliced] at hr
    simp only [execOp, ho, h1, h2, h3, Option.map_some, Option.map_none]
    have hr2 := run_sliceAt_slice (P := Try.prog) w 23 (.slice a0 len cap) (some (.int .i64 (i : Int))) (some (.int .i64 (j : Int))) none under_bytes
    simp [hr2, hr]
  · rw [hd d h]
    have := (hsl.below hb).part i j hij hj
    rw [← ints_take, ← ints_drop] at this
    exact ⟨_, _, rfl, this⟩
theorem Step.rest {s p i len cap : Nat} {a0 : Option Addr} {l : List Nat} (hw : Wants tbl ops o) (ho : o.op = .slice 23 (.tmp s) (some (.tmp p)) none none) (hs : get tbl s = Ent.is (.slice a0 len cap)) (hp : get tbl p = Ent.is (.int .i64 (i : Int)))
    (hsl : Sl w0 .u8 a0 len cap (ints l)) (hi : i ≤ len) (hd : ∀ d, o.dst = some d → get tbl d = Ent.sl (len - i) (l.drop i)) : Step Try.prog ops Q tbl w0 o := by
  refine Step.value hw fun a w hb hk => ⟨.slice (if cap = i then a0 else a0.map (·.add (i * 1))) (len - i) (cap - i), ?_, fun d h => ?_⟩
  · have h1 : a.eval (.tmp s) = .slice a0 len cap := by
      have := hk s (looks_op (by rw [ho]; simp [Op.operands]))
      rwa [hs] at this
    have h2 : a.eval (.tmp p) = .int .i64 (i : Int) := by
      have := hk p (looks_op (by rw [ho]; simp [Op.operands]))
      rwa [hp] at this
    have hr := run_slice_l (P := Try.prog) w 23 a0 len cap under_bytes .i64 (i : Int) (by omega) (by omega)
    rw [elem_bytes, size_u8] at hr
    simp only [Result.andThen_ok, Int.toNat_natCast, sliced] at hr
    simp only [execOp, ho, h1, h2, Option.map_some, Option.map_none]
    have hr2 := run_sliceAt_slice (P := Try.prog) w 23 (.slice a0 len cap) (some (.int .i64 (i : Int))) none none under_bytes
    simp [hr2, hr]
  · rw [hd d h]
    have := (hsl.below hb).part i len hi (Nat.le_refl _)
    rw [List.take_of_length_le (by rw [hsl.1]; exact Nat.le_refl _), ← ints_drop] at this
    exact ⟨_, _, rfl, this⟩
end Go.Proofs.Ytkcpfgjkplailaa.V
/- The rest of a slice of bytes, as facts ahead of a walk. -/
namespace Go.Proofs.Ytkcpfgjkplailaa
set_option linter.unusedVariables false
open Go.RowKit
/-- The rest of bytes that can be read. -/
theorem rest_of {w : World} {ao : Option Addr} {len cap : Nat} {l : List Nat} (h : Sl w .u8 ao len cap (ints l)) {K : Nat} (hK : K ≤ len) : ∃ qa, Sl w .u8 qa (len - K) (cap - K) (ints (l.drop K)) ∧
    (∀ w : World, (Instr.slice 23 (.slice ao len cap) (some (.int .i64 (K : Int))) none none).run Try.prog w = .ok (.slice qa (len - K) (cap - K)) w) ∧
    (∀ w : World, (Instr.sliceAt 23 (.slice ao len cap) (some (.int .i64 (K : Int))) none none).run Try.prog w = .ok (.slice qa (len - K) (cap - K)) w) := by
  have hcap := h.2.1
  have hr : ∀ w : World, (Instr.slice 23 (.slice ao len cap) (some (.int .i64 (K : Int))) none none).run Try.prog w = .ok (.slice (if cap = K then ao else ao.map (·.add (K * 1))) (len - K) (cap - K)) w := fun w => by
    have hr := run_slice_l (P := Try.prog) w 23 ao len cap V.under_bytes .i64 (K : Int) (by omega) (by omega)
    rw [V.elem_bytes, V.size_u8] at hr
    simp only [Result.andThen_ok, Int.toNat_natCast, sliced] at hr
    exact hr
  refine ⟨_, ?_, hr, fun w => ?_⟩
  · have := h.part K len hK (Nat.le_refl _)
    rw [List.take_of_length_le (by rw [h.1]; exact Nat.le_refl _), ← ints_drop] at this
    exact this
  · rw [run_sliceAt_slice (P := Try.prog) w 23 (.slice ao len cap) (some (.int .i64 (K : Int))) none none V.under_bytes]; exact hr w
/-- The head of bytes that can be read. -/
theorem head_of {w : World} {ao : Option Addr} {len cap : Nat} {l : List Nat} (h : Sl w .u8 ao len cap (ints l)) {K : Nat} (hK : K ≤ len) : ∃ qa, Sl w .u8 qa K cap (ints (l.take K)) ∧
    (∀ w : World, (Instr.slice 23 (.slice ao len cap) none (some (.int .i64 (K : Int))) none).run Try.prog w = .ok (.slice qa K cap) w) ∧
    (∀ w : World, (Instr.sliceAt 23 (.slice ao len cap) none (some (.int .i64 (K : Int))) none).run Try.prog w = .ok (.slice qa K cap) w) := by
  have hcap := h.2.1
  have hr : ∀ w : World, (Instr.slice 23 (.slice ao len cap) none (some (.int .i64 (K : Int))) none).run Try.prog w = .ok (.slice (if cap = 0 then ao else ao.map (·.add (0 * 1))) K cap) w := fun w => by
    have hr := run_slice_h (P := Try.prog) w 23 ao len cap V.under_bytes .i64 (K : Int) (by omega) (by omega)
    rw [V.elem_bytes, V.size_u8] at hr
    simp only [Result.andThen_ok, Int.toNat_natCast, sliced, Nat.sub_zero] at hr
    exact hr
  refine ⟨_, ?_, hr, fun w => ?_⟩
  · have := h.part 0 K (Nat.zero_le _) hK
    rw [List.drop_zero, ← ints_take] at this
    exact this
  · rw [run_sliceAt_slice (P := Try.prog) w 23 (.slice ao len cap) none (some (.int .i64 (K : Int))) none V.under_bytes]; exact hr w
end Go.Proofs.Ytkcpfgjkplailaa

/- Whether a number is in spans or in words of bits, and how many are below it. -/
import Derived.Test.YtlbchdlokimpfaaBD
namespace Go.Proofs.Ytlbchdlokimpfaa
set_option linter.unusedVariables false
set_option maxRecDepth 10000
open Go.RowKit

theorem fnds_is {bs : List Bool} {at' i : Nat} {f : Bool} (h : FndS (Z.rg (Z.ls bs)) at' i f) (ha : at' < bs.length) : f = bs.getD at' false := by
  obtain ⟨hsp, hun, -, -⟩ := spans_rg _ (Z.ls bs) rfl (ps_rise bs bs.length)
  have hm := ps_mem bs bs.length at'
  have hu := un_mem (Z.rg (Z.ls bs)) at'
  rw [hun] at hu
  rw [h.is]
  cases hb : bs.getD at' false with
  | true =>
    obtain ⟨s, hs, h1, h2⟩ := hu.1 (hm.2 ⟨ha, hb⟩)
    obtain ⟨t, ht, rfl⟩ := List.getElem_of_mem hs
    have gt : (Z.rg (Z.ls bs)).getD t (0, 0) = (Z.rg (Z.ls bs))[t] := by rw [List.getD_eq_getElem?_getD, List.getElem?_eq_getElem ht]; rfl
    have hge : i ≤ t := Nat.le_of_not_lt fun hlt => by
      have := h.lo t hlt
      rw [gt] at this; omega
    have hle : t ≤ i := Nat.le_of_not_lt fun hlt => by
      have h3 := h.hi i (Nat.le_refl _) (by omega)
      have h4 := (List.pairwise_iff_getElem.1 hsp.2) i t (by omega) ht hlt
      have gi : (Z.rg (Z.ls bs)).getD i (0, 0) = (Z.rg (Z.ls bs))[i]'(by omega) := by rw [List.getD_eq_getElem?_getD, List.getElem?_eq_getElem (by omega)]; rfl
      rw [gi] at h3; omega
    obtain rfl : t = i := by omega
    rw [gt]
    simp [ht, h1]
  | false =>
    cases hi : decide (i < (Z.rg (Z.ls bs)).length) with
    | false => rfl
    | true =>
      have hi2 := of_decide_eq_true hi
      cases hq : decide (((Z.rg (Z.ls bs)).getD i (0, 0)).1 ≤ at') with
      | false => rfl
      | true =>
        have h2 := of_decide_eq_true hq
        have h3 := h.hi i (Nat.le_refl _) hi2
        have gi : (Z.rg (Z.ls bs)).getD i (0, 0) = (Z.rg (Z.ls bs))[i] := by rw [List.getD_eq_getElem?_getD, List.getElem?_eq_getElem hi2]; rfl
        rw [gi] at h2 h3
        have := (hm.1 (hu.2 ⟨_, List.getElem_mem hi2, h2, h3⟩)).2
        rw [hb] at this
        cases this
theorem rahas_any (ao : Option Addr) (len cap : Nat) (bs : List Bool) (at' : Nat) (w : World) (h : SlP w ao len cap (Z.rg (Z.ls bs))) (hn : bs.length ≤ 4096) (ha : at' < bs.length) :
    Calls Try.prog 70 #[.slice ao len cap, .int .i64 (at' : Int)] w fun e w' => e = .returned (.bool (bs.getD at' false)) ∧ Below w.heap.size w w' := by
  have hl : (Z.rg (Z.ls bs)).length = len := h.1
  have hl2 := ls_len bs
  have hl3 := rg_len (Z.ls bs)
  have H := hide (binf_any ao len cap (Z.rg (Z.ls bs)) at' w h (spans_rg _ (Z.ls bs) rfl (ps_rise bs bs.length)).1 (by omega))
  have HA := hide ha
  clear h hl hl2 hl3 ha hn
  go_enter Try.func70, Try.ntmps70
  go_wp2_with fail
  refine H.out.mono ?_
  rintro e w1 ⟨i, f, rfl, hf, hb⟩
  have HF := hide (fnds_is hf HA.out)
  have HB := hide hb
  clear hf hb
  go_wp2
  go_ret
  exact ⟨by rw [HF.out]; rfl, HB.out⟩
theorem rbl_take {r : List (Nat × Nat)} {k at' : Nat} {s : Nat × Nat} (h : r[k]? = some s) : Z.rbl at' (r.take (k + 1)) = Z.rbl at' (r.take k) + Z.rb1 at' s := by
  rw [List.take_add_one, h]
  exact rbl_snoc _ _ _
theorem rb1_le (at' : Nat) (s : Nat × Nat) : Z.rb1 at' s ≤ at' := by unfold Z.rb1; omega
theorem rbl_le (at' : Nat) : ∀ r : List (Nat × Nat), Z.rbl at' r ≤ r.length * at'
  | [] => by simp [Z.rbl]
  | s :: r => by
    have := rbl_le at' r
    have h2 := rb1_le at' s
    simp only [Z.rbl, List.map_cons, List.sum_cons, List.length_cons, Nat.succ_mul] at this ⊢
    omega
set_option maxHeartbeats 1000000 in
theorem rabelow_any (ao : Option Addr) (len cap : Nat) (bs : List Bool) (at' : Nat) (w : World) (h : SlP w ao len cap (Z.rg (Z.ls bs))) (hn : bs.length ≤ 4096) (ha : at' ≤ bs.length) :
    Calls Try.prog 69 #[.slice ao len cap, .int .i64 (at' : Int)] w fun e w' => e = .returned (.int .i64 ((Z.ps bs at').length : Int)) ∧ Below w.heap.size w w' := by
  obtain ⟨hsp, hun, -, -⟩ := spans_rg _ (Z.ls bs) rfl (ps_rise bs bs.length)
  have hres : Z.rbl at' (Z.rg (Z.ls bs)) = (Z.ps bs at').length := by
    rw [rbl_un at' _ hsp.1, hun]
    exact congrArg List.length (ps_below bs bs.length at' ha)
  have hsl := spans_le hn
  have hl2 := ls_len bs
  have hl3 := rg_len (Z.ls bs)
  obtain ⟨r, hr⟩ : ∃ r, Z.rg (Z.ls bs) = r := ⟨_, rfl⟩
  rw [hr] at h hres hsl hl3
  have hl : r.length = len := h.1
  have GET : Hid (∀ wr, Below w.heap.size w wr → ∀ t, t < len → ∃ b off, ao = some ⟨b, off, none⟩ ∧ wr.cell? ⟨b, off + t * 2, none⟩ = some (.int .i64 ((r.getD t (0, 0)).1 : Int)) ∧ wr.cell? ⟨b, off + t * 2 + 1, none⟩ = some (.int .i64 ((r.getD t (0, 0)).2 : Int))) := fun wr hb t ht => h.get hb ht
  have HRES := hide hres
  have HSL := hide hsl
  have HL := hide hl
  have hlen : len ≤ 4096 := by omega
  have hat : at' ≤ 4096 := by omega
  clear hsp hun h hres hsl hl hl2 hl3 hr ha hn
  go_enter Try.func69, Try.ntmps69
  go_wp2_with fail
  go_loopw [5, 10] (fun n i wr => ∃ k : Nat, k ≤ len ∧ i = .int .i64 k ∧ n = .int .i64 (Z.rbl at' (r.take k) : Int) ∧ Hid (Below w.heap.size w wr)) (fun n i _ => len - (intOf i).toNat)
  case atStart => exact ⟨0, Nat.zero_le _, rfl, rfl, hide (Below.refl _ _)⟩
  case round =>
    obtain ⟨k, hk, rfl, rfl, HB⟩ := hrel
    by_cases hlt : k < len
    · obtain ⟨b, off, rfl, hc1, hc2⟩ := GET.out wr HB.out k hlt
      have hs : r[k]? = some (r.getD k (0, 0)) := by rw [List.getD_eq_getElem?_getD, List.getElem?_eq_getElem (by rw [HL.out]; exact hlt)]; rfl
      have hse := HSL.out _ (List.mem_of_getElem? hs)
      have HT := hide (rbl_take (at' := at') hs)
      have hle := rbl_le at' (r.take k)
      have hmul : (r.take k).length * at' ≤ 4096 * 4096 := Nat.mul_le_mul (by rw [List.length_take]; omega) hat
      obtain ⟨⟨x, y⟩, hxy⟩ : ∃ s, r.getD k (0, 0) = s := ⟨_, rfl⟩
      rw [hxy] at hc1 hc2 hse HT
      simp only at hc1 hc2 hse
      obtain ⟨n, hnn⟩ : ∃ n, Z.rbl at' (r.take k) = n := ⟨_, rfl⟩
      rw [hnn] at HT hle ⊢
      have hn5 : n ≤ 16777216 := by omega
      have HB2 := hide (HB.out.alloc HB.out.size (.cells #[.int .i64 (x : Int), .int .i64 (y : Int)] 86))
      clear hs hxy hnn hle hmul HB
      go_wp2_with fail
      refine ⟨⟨k + 1, by omega, by simp, ?_, HB2⟩, by simp [intOf]; omega⟩
      rw [HT.out]
      unfold Z.rb1
      congr 1
      simp only
      split <;> (try split at *) <;> (try split) <;> omega
    · obtain rfl : k = len := by omega
      go_wp2
      go_ret
      exact ⟨by rw [← HRES.out, List.take_of_length_le (by rw [HL.out]; exact Nat.le_refl _)]; rfl, HB.out⟩
/-- How many bits are 1, as it is reckoned. -/
def Z.o1 (x : Int) : Int := IntKind.u64.wrap (bits BinOp.and IntKind.u64 (x / 2) 6148914691236517205 + bits BinOp.and IntKind.u64 x 6148914691236517205)
def Z.o2 (x : Int) : Int := IntKind.u64.wrap (bits BinOp.and IntKind.u64 (x / 4) 3689348814741910323 + bits BinOp.and IntKind.u64 x 3689348814741910323)
def Z.o3 (x : Int) : Int := bits BinOp.and IntKind.u64 (IntKind.u64.wrap (x / 16 + x)) 1085102592571150095
def Z.o4 (x : Int) : Int := IntKind.u64.wrap (x + x / 256)
def Z.o5 (x : Int) : Int := IntKind.u64.wrap (x + x / 65536)
def Z.o6 (x : Int) : Int := IntKind.u64.wrap (x + x / 4294967296)
def Z.oc (x : Int) : Int := bits BinOp.and IntKind.i64 (wrap64 (Z.o6 (Z.o5 (Z.o4 (Z.o3 (Z.o2 (Z.o1 x))))))) 127
theorem ones_any (x : Int) (h0 : 0 ≤ x) (h1 : x < 18446744073709551616) (w : World) : Calls Try.prog 80 #[.int .u64 x] w fun e w' => e = .returned (.int .i64 (Z.oc x)) ∧ w' = w := by
  go_enter Try.func80, Try.ntmps80
  go_wp2_with fail
  go_ret
  exact ⟨rfl, rfl⟩
theorem oc_top : ∀ r : Fin 65, Z.oc ((18446744073709551616 : Int) - ((2 ^ (64 - r.val) : Nat) : Int)) = (r.val : Int) := by decide +kernel
end Go.Proofs.Ytlbchdlokimpfaa

/- The walk of the statement: runs spread are the values; no two behind one another have one value. -/
import Derived.Test.YtfggfmcbinhigaaBdV
import Derived.Test.YtfggfmcbinhigaaBdRX
namespace Go.Proofs.Ytfggfmcbinhigaa
set_option linter.unusedVariables false
open Go.RowKit

theorem neat_next : ∀ {rs : List Z.R} {p : Option Z.V} (j : Nat) {a b : Z.R}, Z.Neat p rs → rs[j]? = some a → rs[j + 1]? = some b → a.v ≠ b.v
  | [], _, j, _, _, _, h, _ => by simp at h
  | [_], _, j, _, _, _, _, h => by simp at h
  | s :: r :: rs, _, 0, a, b, ⟨_, _, h3⟩, h1, h2 => by
    simp at h1 h2
    subst h1; subst h2
    exact fun e => h3.2.1 (by rw [e])
  | s :: r :: rs, _, j + 1, a, b, ⟨_, _, h3⟩, h1, h2 => neat_next j h3 (by simpa using h1) (by simpa using h2)
theorem sp_take_succ {rs : List Z.R} {j : Nat} {r : Z.R} (h : rs[j]? = some r) : (Z.sp (rs.take (j + 1))).length = (Z.sp (rs.take j)).length + r.n.toNat := by
  rw [take_snocR h, sp_append, List.length_append]
  congr 1
  rw [sp_length_cons]
  simp [Z.sp]
theorem sp_take_le (rs : List Z.R) (j : Nat) : (Z.sp (rs.take j)).length ≤ (Z.sp rs).length := by
  have h : Z.sp rs = Z.sp (rs.take j) ++ Z.sp (rs.drop j) := by rw [← sp_append, List.take_append_drop]
  rw [h, List.length_append]
  omega

set_option maxHeartbeats 2000000 in
theorem rleRuns_walk (w : World) (a : Option Addr) (len cap : Nat) (l : List Z.V) (hs : SlV w a len cap l) (hwf : ∀ x ∈ l, Z.Wf x) (hr : cap * 32 ≤ 140737488351232) :
    Calls Try.prog 5 #[.slice a len cap] w fun e w' => e = .returned (.bool true) ∧ Below w.heap.size w w' := by
  have hlen : len ≤ 140737488351232 := by have := hs.2.1; omega
  have HS := hide hs
  have HLL := hide hs.1
  clear hs hwf
  go_enter Try.func5, Try.ntmps5
  go_wp2_with fail
  refine (rshown_any w).mono ?_
  rintro e w1 ⟨rfl, hb⟩
  have b0 := hide hb
  clear hb
  go_wp2_with fail
  refine (rfew_any a len cap l _ (HS.out.below b0.out) (by omega)).mono ?_
  rintro e w2 ⟨q, rfl, hq, rfl⟩
  cases q with
  | false =>
    go_wp2
    go_ret
    exact ⟨rfl, b0.out⟩
  | true =>
    have hl1 := hq rfl
    clear hq
    go_wp2_with fail
    refine (runs_any a len cap l _ (HS.out.below b0.out) (by omega)).mono ?_
    rintro e w3 ⟨v, rfl, ho, hb⟩
    obtain ⟨ra, rc, rfl, hsl, _⟩ := SlR.of_own ho
    obtain ⟨rs, hrs⟩ : ∃ rs, Z.runs l = rs := ⟨_, rfl⟩
    have HN : Hid (Z.Neat none rs) := by rw [← hrs]; exact neat_runs l
    have HSP : Hid (Z.sp rs = l) := by rw [← hrs]; exact sp_runs l
    have hrl : rs.length ≤ 1000 := by rw [← hrs]; have := runs_few l; have := HLL.out; omega
    rw [hrs] at hsl ⊢
    obtain ⟨m, hmm⟩ : ∃ m, rs.length = m := ⟨_, rfl⟩
    rw [hmm] at hsl hrl ⊢
    replace b0 := hide (bthen b0.out hb)
    have HSL := hide hsl
    have HMM := hide hmm
    have HSS := hide (spread_any ra m rc rs w3 hsl (by omega))
    clear hrs ho hb hsl hmm
    go_wp2_with fail
    go_loopw [5, 6] (fun n i wr => ∃ j z : Nat, j ≤ m ∧ i = .int .i64 j ∧ n = .int .i64 z ∧ Hid ((Z.sp (rs.take j)).length = z) ∧ Hid (Below w3.heap.size w3 wr)) (fun _ i _ => m - (intOf i).toNat)
    case atStart => exact ⟨0, 0, Nat.zero_le _, rfl, rfl, hide rfl, hide (Below.refl _ _)⟩
    case round =>
      obtain ⟨j, z, hj, rfl, rfl, hz, hbw⟩ := hrel
      have hzl : z ≤ 1000 := by
        have h1 := sp_take_le rs j
        rw [HSP.out, hz.out, HLL.out] at h1
        omega
      by_cases hjl : j < m
      · obtain ⟨⟨n, ⟨xk, xi, xs⟩⟩, hx⟩ : ∃ x, rs[j]? = some x := ⟨rs[j]'(by rw [HMM.out]; exact hjl), List.getElem?_eq_getElem _⟩
        rcases (HSL.out.below hbw.out).2.2.2.2 with h5 | ⟨b, off, rfl, hlt, h5⟩
        · omega
        · obtain ⟨d1, d2, d3, d4⟩ := h5 j _ hx
          have hn1 : 1 ≤ n := neat_pos HN.out _ (List.mem_of_getElem? hx)
          have hs1 : (Z.sp (rs.take (j + 1))).length = z + n.toNat := by rw [sp_take_succ hx, hz.out]
          have hnl : (z : Int) + n ≤ 1000 := by
            have h1 := sp_take_le rs (j + 1)
            rw [HSP.out, hs1, HLL.out] at h1
            omega
          have hd : decide (n < 1) = false := by simp; omega
          have hji : (j : Int) < (m : Int) := by omega
          have HS1 : Hid ((Z.sp (rs.take (j + 1))).length = z + n.toNat) := hs1
          obtain ⟨z2, hz2⟩ : ∃ z2 : Nat, z + n.toNat = z2 := ⟨_, rfl⟩
          have hzz : (z : Int) + n = (z2 : Int) := by omega
          have hz2b : z2 ≤ 1000 := by omega
          rw [hz2] at HS1
          by_cases hj0 : 0 < j
          · obtain ⟨p, hp⟩ : ∃ p, j = p + 1 := ⟨j - 1, by omega⟩
            obtain ⟨⟨n', ⟨yk, yi, ys⟩⟩, hy⟩ : ∃ x, rs[p]? = some x := ⟨rs[p]'(by rw [HMM.out]; omega), List.getElem?_eq_getElem _⟩
            obtain ⟨e1, e2, e3, e4⟩ := h5 p _ hy
            have hne : Z.same ⟨xk, xi, xs⟩ ⟨yk, yi, ys⟩ = false := same_ne fun e => neat_next p HN.out hy (by rw [← hp]; exact hx) (show (⟨yk, yi, ys⟩ : Z.V) = ⟨xk, xi, xs⟩ from e.symm)
            have hv := fun w => veq_run xk xi xs yk yi ys w
            rw [hne] at hv
            have hji1 : (j : Int) - 1 = (p : Int) := by omega
            have hpm : (p : Int) < (m : Int) := by omega
            clear h5 hx hy hne hs1 hz2 hp e1
            go_wp2_with fail
            go_quiet (fail)
            have HB2 := hide (below_drewN hbw.out nq)
            go_wp2
            go_roundw
            case rel => exact ⟨j + 1, z2, hjl, by go_num, rfl, HS1, HB2⟩
            case measure => simp [intOf]; omega
          · have hd2 : decide (0 < j) = false := by simpa using hj0
            clear h5 hx hs1 hz2
            go_wp2_with fail
            go_quiet (fail)
            have HB2 := hide (below_drewN hbw.out nq)
            go_wp2
            go_roundw
            case rel => exact ⟨j + 1, z2, hjl, by go_num, rfl, HS1, HB2⟩
            case measure => simp [intOf]; omega
      · obtain rfl : j = m := by omega
        have hzl2 : z = len := by rw [← hz.out, ← HMM.out, List.take_length, HSP.out, HLL.out]
        subst hzl2
        have HSQ := hide (spread_any ra j rc rs wr (HSL.out.below hbw.out) (by omega))
        have HBW := hide (bthen b0.out hbw.out)
        have HFW : Hid (Z.spr rs = l) := by show _ = _; rw [spr_few (by rw [HSP.out, HLL.out]; omega)]; exact HSP.out
        go_wp2_with fail
        refine HSQ.out.mono ?_
        rintro e w5 ⟨v5, rfl, ho5, hb5⟩
        rw [HFW.out] at ho5
        obtain ⟨sa, sc, rfl, hsv, _⟩ := SlV.of_own ho5
        rw [HLL.out] at hsv ⊢
        have HB5 := hide (bthen HBW.out hb5)
        have HV := hide (vsame_yes sa a z sc cap l w5 hsv (HS.out.below HB5.out) (by omega))
        clear ho5 hb5 hsv HSQ
        go_wp2_with fail
        refine HV.out.mono ?_
        rintro e w6 ⟨rfl, hb6⟩
        have HB6 := hide (bthen HB5.out hb6)
        clear hb6 HV
        go_wp2
        go_ret
        exact ⟨rfl, HB6.out⟩
end Go.Proofs.Ytfggfmcbinhigaa

/- The contract of the reference's Whole. -/
import Derived.Test.YthaeipephelmcaaRows
import Derived.WalkKit
import Derived.WalkSpells
import Derived.WalkLawsBesides
import Derived.Test.YthaeipephelmcaaN2
namespace Go.Proofs.Ythaeipephelmcaa
set_option linter.unusedVariables false
open Go.RowKit

theorem rwhole_any (b : Int) (w : World) (h0 : 0 ≤ b) (h1 : b < 18446744073709551616) :
    Calls Try.prog 22 #[.int .u64 b] w fun e w' => e = .returned (.tuple #[.int .i64 (D.wh b), .bool (D.whole b)]) ∧ w' = w := by
  obtain ⟨E, hE⟩ : ∃ E, b / 4503599627370496 % 2048 = E := ⟨_, rfl⟩
  obtain ⟨F, hF⟩ : ∃ F, b % 4503599627370496 = F := ⟨_, rfl⟩
  obtain ⟨s, hs⟩ : ∃ s, decide (9223372036854775808 ≤ b) = s := ⟨_, rfl⟩
  have hp := rparts_any b w h0 h1
  rw [hE, hF, hs] at hp
  have hE0 : 0 ≤ E := by omega
  have hE1 : E < 2048 := by omega
  have hF0 : 0 ≤ F := by omega
  have hF1 : F < 4503599627370496 := by omega
  have HZ : Hid (E = 0 → F = 0 → D.whole b = true ∧ D.wh b = 0) := D.whole_zero hE hF
  have HO : Hid (¬ (E = 0 ∧ F = 0) → (E < 1023 ∨ 1076 < E) → D.whole b = false ∧ D.wh b = 0) := D.whole_out hE hF
  have HN : Hid (1023 ≤ E → E ≤ 1075 → D.wl (1075 - E).toNat (4503599627370496 + F) = none → D.whole b = false ∧ D.wh b = 0) := D.whole_none hE hF
  have HV : Hid (E = 1076 → F ≠ 0 → D.whole b = false ∧ D.wh b = 0) := D.whole_over hE hF
  have HS : Hid (∀ m, 1023 ≤ E → E ≤ 1075 → D.wl (1075 - E).toNat (4503599627370496 + F) = some m → D.whole b = true ∧ D.wh b = if s = true then -m else m) := by
    intro m a1 a2 a3
    have := D.whole_some hE hF a1 a2 a3
    rw [← hs]; simpa using this
  have HT : Hid (E = 1076 → F = 0 → D.whole b = true ∧ D.wh b = if s = true then -9007199254740992 else 9007199254740992) := by
    intro a1 a2
    have := D.whole_top hE hF a1 a2
    rw [← hs]; simpa using this
  generalize D.whole b = W at HZ HO HN HV HS HT ⊢
  generalize D.wh b = V at HZ HO HN HV HS HT ⊢
  clear hE hF hs
  go_enter Try.func22, Try.ntmps22
  go_wp2_with fail
  refine hp.mono ?_
  rintro e w1 ⟨rfl, rfl⟩
  clear hp
  by_cases z : E = 0 ∧ F = 0
  · obtain ⟨rfl, rfl⟩ := z
    have := HZ.out rfl rfl
    obtain ⟨rfl, rfl⟩ := this
    clear HZ HO HN HV HS HT
    go_wp2
    go_ret2
    exact ⟨rfl, rfl⟩
  · by_cases o : E < 1023 ∨ 1076 < E
    · obtain ⟨rfl, rfl⟩ := HO.out z o
      clear HZ HO HN HV HS HT
      by_cases y : E = 0
      · subst y
        have f1 : F ≠ 0 := fun h => z ⟨rfl, h⟩
        clear z o
        go_wp2
        go_ret2
        exact ⟨rfl, rfl⟩
      · by_cases y2 : E < 1023
        · clear z o
          go_wp2
          go_ret2
          exact ⟨rfl, rfl⟩
        · have y3 : 1076 < E := by omega
          clear z o
          go_wp2
          go_ret2
          exact ⟨rfl, rfl⟩
    · have e1 : 1023 ≤ E := by omega
      have e2 : E ≤ 1076 := by omega
      clear HZ HO z o
      have HD : Hid (∀ k n, D.wl (k + 1) n = if n % 2 = 0 then D.wl k (n / 2) else none) := fun k n => rfl
      go_wp2_with fail
      go_loop [5, 7] (fun u v => ∃ d m : Int, u = .int .u64 d ∧ v = .int .u64 m ∧ E ≤ d ∧ d ≤ 1076 ∧ 0 ≤ m ∧ m < 9007199254740992 ∧ Hid (d = 1076 → E = 1076 ∧ m = 4503599627370496 + F) ∧ Hid (D.wl (1075 - d).toNat m = D.wl (1075 - E).toNat (4503599627370496 + F))) (fun u _ => (1076 - intOf u).toNat)
      case atStart => exact ⟨E, 4503599627370496 + F, rfl, rfl, by omega, by omega, by omega, by omega, fun h => ⟨h, rfl⟩, rfl⟩
      case round =>
        obtain ⟨d, m, rfl, rfl, d0, d1, m0, m1, HM, HW⟩ := hrel
        by_cases c : d < 1075
        · have HR : Hid (D.wl (1075 - E).toNat (4503599627370496 + F) = if m % 2 = 0 then D.wl (1075 - (d + 1)).toNat (m / 2) else none) := by
            show _ = _
            rw [← HW.out, ← HD.out, show (1075 - d).toNat = (1075 - (d + 1)).toNat + 1 by omega]
          have e3 : E ≤ 1075 := by omega
          by_cases p : m % 2 = 0
          · have HR2 : Hid (D.wl (1075 - (d + 1)).toNat (m / 2) = D.wl (1075 - E).toNat (4503599627370496 + F)) := by
              show _ = _; rw [HR.out, if_pos p]
            clear HR HW HM
            go_wp2_with fail
            go_round
            case rel => exact ⟨d + 1, m / 2, rfl, rfl, by omega, by omega, by omega, by omega, (by show _ → _; intro h; omega), HR2⟩
            case measure => simp [intOf]; omega
          · obtain ⟨rfl, rfl⟩ := HN.out e1 e3 (by rw [HR.out, if_neg p])
            clear HR HW HM HN HV HS HT
            go_wp2_with fail
            go_ret2
            exact ⟨rfl, rfl⟩
        · by_cases c2 : d = 1076
          · subst c2
            obtain ⟨rfl, rfl⟩ := HM.out rfl
            clear HM HW HN HS
            by_cases f : F = 0
            · subst f
              obtain ⟨rfl, rfl⟩ := HT.out rfl rfl
              clear HV HT
              cases s with
              | true =>
                go_wp2_with fail
                go_ret2
                exact ⟨rfl, rfl⟩
              | false =>
                go_wp2_with fail
                go_ret2
                exact ⟨rfl, rfl⟩
            · obtain ⟨rfl, rfl⟩ := HV.out rfl f
              clear HV HT
              have f1 : 0 < F := by omega
              go_wp2_with fail
              go_ret2
              exact ⟨rfl, rfl⟩
          · obtain rfl : d = 1075 := by omega
            have e3 : E ≤ 1075 := by omega
            obtain ⟨rfl, hV⟩ := HS.out m e1 e3 (by rw [← HW.out]; rfl)
            have HQ : Hid (V = if s = true then -m else m) := hV
            clear hV HM HW HN HS HV HT
            cases s with
            | true =>
              go_wp2_with fail
              go_ret2
              exact ⟨by rw [HQ.out]; rfl, rfl⟩
            | false =>
              go_wp2_with fail
              go_ret2
              exact ⟨by rw [HQ.out]; rfl, rfl⟩
end Go.Proofs.Ythaeipephelmcaa

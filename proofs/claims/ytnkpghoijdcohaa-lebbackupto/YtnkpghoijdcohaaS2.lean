/- The walk of the statement: numbers one behind the other are read one behind the other. -/
import Derived.Test.YtnkpghoijdcohaaE10
import Derived.Test.YtnkpghoijdcohaaRU
namespace Go.Proofs.Ytnkpghoijdcohaa
set_option linter.unusedVariables false
open Go.RowKit

theorem i_put (l : List Int) (h : E.In l) (more : List Nat) (n : Int) (hn : n = (l.length : Int)) : E.iE n (E.lebs l ++ more) = 0 ∧ E.iL n (E.lebs l ++ more) = l ∧ E.iR n (E.lebs l ++ more) = more := by
  subst hn
  obtain ⟨h1, h2, h3⟩ := E.t_put l h more
  have e : E.iE (l.length : Int) (E.lebs l ++ more) = 0 := by rw [E.iE_pos (by omega), Int.toNat_natCast]; exact h1
  unfold E.iL E.iR
  rw [if_pos e, if_pos e, Int.toNat_natCast]
  exact ⟨e, h2, h3⟩
theorem i_more (l : List Int) (h : E.In l) (n : Int) (hn : n = (l.length : Int) + 1) : E.iE n (E.lebs l) = 3 := by
  subst hn
  rw [E.iE_pos (by omega), show ((l.length : Int) + 1).toNat = l.length + 1 by omega]
  exact E.t_more l h

set_option maxHeartbeats 400000 in
theorem lebMany_big (w : World) (a : Option Addr) (len cap : Nat) (h : 500 < len) (hc : len ≤ cap) (hr : cap * 8 ≤ 140737488351232) :
    Calls Try.prog 8 #[.slice a len cap] w fun e w' => e = .returned (.bool true) ∧ Below w.heap.size w w' := by
  go_enter Try.func8, Try.ntmps8
  go_wp2_with fail
  refine (shown_any w).mono ?_
  rintro e w2 ⟨rfl, hb⟩
  go_wp2
  go_ret
  exact ⟨rfl, hb⟩

set_option maxHeartbeats 1000000 in
theorem lebMany_small (w : World) (a : Option Addr) (len cap : Nat) (l : List Int) (hsl : Sl w .i64 a len cap l) (hin : E.In l) (h : len ≤ 500) :
    Calls Try.prog 8 #[.slice a len cap] w fun e w' => e = .returned (.bool true) ∧ Below w.heap.size w w' := by
  have hll := E.lebs_le l hin
  rw [hsl.1] at hll
  have HLL := hide hsl.1
  have HSL := hide hsl
  have HIN := hide hin
  have HP := hide (i_put l hin [] (len : Int) (by rw [hsl.1]))
  have HM := hide (i_more l hin ((len : Int) + 1) (by rw [hsl.1]))
  have hd : decide ((500 : Int) < (len : Int)) = false := by simp; omega
  clear hsl hin
  go_enter Try.func8, Try.ntmps8
  go_wp2_with fail
  refine (shown_any w).mono ?_
  rintro e w2 ⟨rfl, hb⟩
  go_wp2_with fail
  refine (ints_any _ _ _ l _ (HSL.out.below hb) (by omega) HIN.out).mono ?_
  rintro e w3 ⟨v3, rfl, ho3, hb3⟩
  have hb4 := hb.trans (hb3.mono hb.size)
  obtain ⟨a3, c3, hv3, hs3, _⟩ := Sl.of_bytes ho3
  have HS3 := hide hs3
  clear hb hb3 ho3 hs3
  subst hv3
  go_wp2_with fail
  refine (toints_any _ _ _ (E.lebs l) _ _ HS3.out (E.lebs_lt l) (by omega) (by omega) (by omega)).mono ?_
  rintro e w5 ⟨v5, v6, rfl, ⟨⟨a5, c5, hv5, hs5, _⟩, a6, c6, hv6, _⟩, hb5⟩
  have hp := HP.out
  rw [List.append_nil] at hp
  rw [hp.1]
  rw [hp.2.1] at hv5 hs5
  rw [hp.2.2] at hv6
  rw [HLL.out] at hv5 hs5
  have hb7 := hb4.trans (hb5.mono hb4.size)
  have HS4 := hide (HS3.out.below hb5)
  have HS5 := hide hs5
  clear hb4 hb5 HS3 hp hs5
  subst hv5 hv6
  go_wp2_with fail
  refine (toints_any _ _ _ (E.lebs l) _ _ HS4.out (E.lebs_lt l) (by omega) (by omega) (by omega)).mono ?_
  rintro e w8 ⟨v8, v9, rfl, ⟨⟨a8, c8, hv8, _, _⟩, a9, c9, hv9, _⟩, hb8⟩
  rw [HM.out]
  have hb9 := hb7.trans (hb8.mono hb7.size)
  have HS6 := hide (HS5.out.below hb8)
  clear hb7 hb8 HS5 HS4
  subst hv8 hv9
  go_wp2_with fail
  refine (same_yes _ _ _ _ _ l _ (HSL.out.below hb9) HS6.out (by omega)).mono ?_
  rintro e w10 ⟨rfl, hk10⟩
  have hb10 := hb9.trans (hk10.below hb9.size (by simp))
  go_wp2
  go_ret
  exact ⟨rfl, hb10⟩

theorem lebMany_walk (w : World) (a : Option Addr) (len cap : Nat) (l : List Int) (c : Came .i64 w a len cap l) (hr : cap * 8 ≤ 140737488351232) :
    Calls Try.prog 8 #[.slice a len cap] w fun e w' => e = .returned (.bool true) ∧ Below w.heap.size w w' := by
  by_cases h : len ≤ 500
  · exact lebMany_small w a len cap l c.1 (fun x hx => wf_i64 (c.2 x hx)) h
  · exact lebMany_big w a len cap (by omega) c.1.2.1 hr
end Go.Proofs.Ytnkpghoijdcohaa

/- Whether a set has a number, by the interface; what a method value, and questions of two sets, answer. -/
import Derived.Test.YtlbchdlokimpfaaBG
namespace Go.Proofs.Ytlbchdlokimpfaa
set_option linter.unusedVariables false
set_option maxRecDepth 10000
open Go.RowKit

/-- Whether a number is one of a set's. -/
def Z.hs (bs : List Bool) (x : Int) : Bool := decide (0 ≤ x) && decide (x < (bs.length : Int)) && bs.getD x.toNat false
theorem hs_in {bs : List Bool} {k : Nat} (h : k < bs.length) : Z.hs bs (k : Int) = bs.getD k false := by
  unfold Z.hs
  rw [decide_eq_true (by omega), decide_eq_true (by omega)]
  simp
set_option maxHeartbeats 1000000 in
theorem hasin_any (v : Value) (rep : Nat) (bs : List Bool) (k : Nat) (hk : k < bs.length) (w : World) (h : SetAt w v rep bs) :
    Calls Try.prog 28 #[v, .int .i64 (k : Int)] w fun e w' => e = .returned (.bool (bs.getD k false)) ∧ Below w.heap.size w w' := by
  obtain ⟨hn, kept, rfl, hr⟩ := h
  have h0 : (0 : Int) ≤ (k : Int) := by omega
  have hkn : (k : Int) < (bs.length : Int) := by omega
  have HK := hide hk
  have HN := hide hn
  clear hk hn
  obtain ⟨n, hnn⟩ : ∃ n, bs.length = n := ⟨_, rfl⟩
  rw [hnn] at hkn ⊢
  clear hnn
  rcases hr with ⟨rfl, ao, len, cap, rfl, hs⟩ | ⟨rfl, ao, len, cap, rfl, hs⟩ | ⟨rfl, ao, len, cap, rfl, hs⟩
  · replace hs := hide hs
    have hm : ∀ w : World, (method 26 76 (.slice ao len cap) "astragal/pos.has").run Try.prog w = .ok (70, .slice ao len cap) w := fun _ => by kernel_rfl
    go_enter Try.func28, Try.ntmps28
    go_wp2_with fail
    refine (way_any _ _ _ _).mono ?_
    rintro e wq ⟨rfl, hwq⟩
    have HB : Hid (Below w.heap.size w wq) := by rw [hwq]; exact bthen (below_one w _) (below_one _ _)
    clear hwq
    go_wp2_with fail
    refine (rahas_any _ _ _ bs k _ (hs.out.below HB.out) HN.out HK.out).mono ?_
    rintro e w2 ⟨rfl, hb⟩
    have HB2 := hide (HB.out.trans (hb.mono HB.out.size))
    clear HB
    go_wp2
    go_ret
    exact ⟨rfl, HB2.out⟩
  · replace hs := hide hs
    have hm : ∀ w : World, (method 26 79 (.slice ao len cap) "astragal/pos.has").run Try.prog w = .ok (77, .slice ao len cap) w := fun _ => by kernel_rfl
    go_enter Try.func28, Try.ntmps28
    go_wp2_with fail
    refine (way_any _ _ _ _).mono ?_
    rintro e wq ⟨rfl, hwq⟩
    have HB : Hid (Below w.heap.size w wq) := by rw [hwq]; exact bthen (below_one w _) (below_one _ _)
    clear hwq
    go_wp2_with fail
    refine (bihas_any _ _ _ bs k _ (hs.out.below HB.out) HN.out HK.out).mono ?_
    rintro e w2 ⟨rfl, rfl⟩
    have HB2 := HB
    clear HB
    go_wp2
    go_ret
    exact ⟨rfl, HB2.out⟩
  · replace hs := hide hs
    have hm : ∀ w : World, (method 26 81 (.slice ao len cap) "astragal/pos.has").run Try.prog w = .ok (84, .slice ao len cap) w := fun _ => by kernel_rfl
    go_enter Try.func28, Try.ntmps28
    go_wp2_with fail
    refine (way_any _ _ _ _).mono ?_
    rintro e wq ⟨rfl, hwq⟩
    have HB : Hid (Below w.heap.size w wq) := by rw [hwq]; exact bthen (below_one w _) (below_one _ _)
    clear hwq
    go_wp2_with fail
    refine (lihas_any _ _ _ bs k _ (hs.out.below HB.out) HN.out HK.out).mono ?_
    rintro e w2 ⟨rfl, rfl⟩
    have HB2 := HB
    clear HB
    go_wp2
    go_ret
    exact ⟨rfl, HB2.out⟩
theorem hasout_any (v : Value) (rep : Nat) (bs : List Bool) (x : Int) (hx : x < 0 ∨ (bs.length : Int) ≤ x) (w : World) (h : SetAt w v rep bs) :
    Calls Try.prog 28 #[v, .int .i64 x] w fun e w' => e = .returned (.bool false) ∧ Below w.heap.size w w' := by
  obtain ⟨hn, kept, rfl, hr⟩ := h
  obtain ⟨T, ao, len, cap, rfl⟩ := hr.iface
  have hb := below_one w (.cells #[.int .i64 (bs.length : Int), .iface T (.slice ao len cap)] 28)
  obtain ⟨n, hnn⟩ : ∃ n, bs.length = n := ⟨_, rfl⟩
  rw [hnn] at hx hb ⊢
  clear hnn hn hr
  by_cases h0 : 0 ≤ x
  · have h1 : ¬ (x < (n : Int)) := by omega
    go_enter Try.func28, Try.ntmps28
    go_wp2
    go_ret
    exact ⟨rfl, hb⟩
  · go_enter Try.func28, Try.ntmps28
    go_wp2
    go_ret
    exact ⟨rfl, hb⟩
theorem has_any (v : Value) (rep : Nat) (bs : List Bool) (x : Int) (w : World) (h : SetAt w v rep bs) :
    Calls Try.prog 28 #[v, .int .i64 x] w fun e w' => e = .returned (.bool (Z.hs bs x)) ∧ Below w.heap.size w w' := by
  by_cases hx : x < 0 ∨ (bs.length : Int) ≤ x
  · have e : Z.hs bs x = false := by
      unfold Z.hs
      rcases hx with hx | hx
      · rw [decide_eq_false (by omega : ¬ 0 ≤ x)]; rfl
      · rw [decide_eq_false (by omega : ¬ x < (bs.length : Int)), Bool.and_false]; rfl
    rw [e]
    exact hasout_any v rep bs x hx w h
  · obtain ⟨k, rfl⟩ : ∃ k : Nat, x = (k : Int) := ⟨x.toNat, by omega⟩
    rw [hs_in (by omega)]
    exact hasin_any v rep bs k (by omega) w h
/-- A set's Has, as a method value, answers of each number below n. -/
theorem asks_has {v : Value} {rep : Nat} {bs : List Bool} {w : World} (h : SetAt w v rep bs) : Asks (.func (.func 28) #[v] #[]) w (fun k => bs.getD k false) bs.length :=
  ⟨_, _, _, rfl, enters_of Try.func28 (by kernel_rfl) rfl, fun W hW k hk => hasin_any v rep bs k hk W (h.below hW)⟩
end Go.Proofs.Ytlbchdlokimpfaa

/- What a set tells: its way, its numbers, by the interface that its numbers are kept behind. -/
import Derived.Test.YtlbchdlokimpfaaB9
namespace Go.Proofs.Ytlbchdlokimpfaa
set_option linter.unusedVariables false
set_option maxRecDepth 10000
open Go.RowKit

theorem way_any (n : Int) (T : TypeId) (x : Value) (w : World) :
    Calls Try.prog 41 #[.agg #[.int .i64 n, .iface T x]] w fun e w' => e = .returned (.iface T x) ∧ w' = w.alloc (.cells #[.int .i64 n, .iface T x] 28) := by
  go_enter Try.func41, Try.ntmps41
  go_wp2
  go_ret
  exact ⟨rfl, rfl⟩
theorem rarep_any (v : Value) (w : World) (ao : Option Addr) (len cap : Nat) : Calls Try.prog 72 #[.slice ao len cap] w fun e w' => e = .returned (.int .i64 1) ∧ w' = w := by
  go_enter Try.func72, Try.ntmps72
  go_wp2
  go_ret
  exact ⟨rfl, rfl⟩
theorem birep_any (v : Value) (w : World) (ao : Option Addr) (len cap : Nat) : Calls Try.prog 79 #[.slice ao len cap] w fun e w' => e = .returned (.int .i64 2) ∧ w' = w := by
  go_enter Try.func79, Try.ntmps79
  go_wp2
  go_ret
  exact ⟨rfl, rfl⟩
theorem lirep_any (v : Value) (w : World) (ao : Option Addr) (len cap : Nat) : Calls Try.prog 86 #[.slice ao len cap] w fun e w' => e = .returned (.int .i64 3) ∧ w' = w := by
  go_enter Try.func86, Try.ntmps86
  go_wp2
  go_ret
  exact ⟨rfl, rfl⟩
set_option maxHeartbeats 1000000 in
theorem rep_any (v : Value) (rep : Nat) (bs : List Bool) (w : World) (h : SetAt w v rep bs) :
    Calls Try.prog 27 #[v] w fun e w' => e = .returned (.int .i64 (rep : Int)) ∧ Below w.heap.size w w' := by
  obtain ⟨-, kept, rfl, hk⟩ := h
  rcases hk with ⟨rfl, ao, len, cap, rfl, -⟩ | ⟨rfl, ao, len, cap, rfl, -⟩ | ⟨rfl, ao, len, cap, rfl, -⟩
  · have hm : ∀ w : World, (method 26 76 (.slice ao len cap) "astragal/pos.rep").run Try.prog w = .ok (72, .slice ao len cap) w := fun _ => by kernel_rfl
    go_enter Try.func27, Try.ntmps27
    go_wp2_with fail
    refine (way_any _ _ _ _).mono ?_
    rintro e w1 ⟨rfl, rfl⟩
    go_wp2_with fail
    refine (rarep_any .nilIface _ _ _ _).mono ?_
    rintro e w1 ⟨rfl, rfl⟩
    go_wp2
    go_ret
    exact ⟨rfl, bthen (below_one w _) (below_one _ _)⟩
  · have hm : ∀ w : World, (method 26 79 (.slice ao len cap) "astragal/pos.rep").run Try.prog w = .ok (79, .slice ao len cap) w := fun _ => by kernel_rfl
    go_enter Try.func27, Try.ntmps27
    go_wp2_with fail
    refine (way_any _ _ _ _).mono ?_
    rintro e w1 ⟨rfl, rfl⟩
    go_wp2_with fail
    refine (birep_any .nilIface _ _ _ _).mono ?_
    rintro e w1 ⟨rfl, rfl⟩
    go_wp2
    go_ret
    exact ⟨rfl, bthen (below_one w _) (below_one _ _)⟩
  · have hm : ∀ w : World, (method 26 81 (.slice ao len cap) "astragal/pos.rep").run Try.prog w = .ok (86, .slice ao len cap) w := fun _ => by kernel_rfl
    go_enter Try.func27, Try.ntmps27
    go_wp2_with fail
    refine (way_any _ _ _ _).mono ?_
    rintro e w1 ⟨rfl, rfl⟩
    go_wp2_with fail
    refine (lirep_any .nilIface _ _ _ _).mono ?_
    rintro e w1 ⟨rfl, rfl⟩
    go_wp2
    go_ret
    exact ⟨rfl, bthen (below_one w _) (below_one _ _)⟩
theorem spans_le {bs : List Bool} (h : bs.length ≤ 4096) : ∀ s ∈ Z.rg (Z.ls bs), s.1 ≤ s.2 ∧ s.2 ≤ 1099511627776 := by
  intro s hs
  have h1 := (spans_rg _ (Z.ls bs) rfl (ps_rise bs bs.length)).1.1 s hs
  have h2 := rg_lt (l := Z.ls bs) (M := 4096) (fun n hn => by have := ls_lt n hn; omega) s hs
  omega
theorem nums_two (T : Nat → Int) (bs : List Bool) : Z.nums T 2 bs = Z.bl T (Z.bw bs) ((bs.length + 63) / 64) := rfl
theorem nums_is (T : Nat → Int) (bs : List Bool) {rep : Nat} (h : rep ≠ 2) : Z.nums T rep bs = Z.is (Z.ls bs) := by unfold Z.nums; rw [if_neg h]; rfl
theorem ps_le2 (bs : List Bool) : ∀ k, (Z.ps bs k).length ≤ bs.length := by
  intro k
  by_cases h : bs.length ≤ k
  · rw [ps_out h]; exact ls_len bs
  · have := ps_len bs k; omega
/-- What List answers. -/
def ListAns (tb : Nat → Int) (rep : Nat) (bs : List Bool) (w : World) (e : Ending) (w' : World) : Prop :=
  ∃ ao cap, e = .returned (.slice ao (Z.ls bs).length cap) ∧ Sl w' .i64 ao (Z.ls bs).length cap (Z.nums (Z.tz tb) rep bs) ∧ Below w.heap.size w w'
theorem ListAns.of {tb : Nat → Int} {rep : Nat} {bs : List Bool} {w w0 : World} {ps : List Int} (h : ps = Z.nums (Z.tz tb) rep bs) (hb : Below w.heap.size w w0) {e : Ending} {w' : World} (ha : ∃ ao cap, e = .returned (.slice ao ps.length cap) ∧ Sl w' .i64 ao ps.length cap ps ∧ NewAt w0 w' ao ∧ Below w0.heap.size w0 w') : ListAns tb rep bs w e w' := by
  obtain ⟨ao, cap, h1, h2, -, h3⟩ := ha
  subst h
  rw [nums_length] at h1 h2
  exact ⟨ao, cap, h1, h2, hb.trans (h3.mono hb.size)⟩
set_option maxHeartbeats 1000000 in
theorem list_any (tb : Nat → Int) (v : Value) (rep : Nat) (bs : List Bool) (w : World) (h : SetAt w v rep bs) (ht : TabAt w tb) :
    Calls Try.prog 26 #[v] w fun e w' => ListAns tb rep bs w e w' := by
  obtain ⟨hn, kept, rfl, hk⟩ := h
  have hl := ls_len bs
  have HT := hide ht
  have HS := hide (spans_le hn)
  have HR := hide (rg_len (Z.ls bs))
  clear ht
  obtain ⟨n, hnn⟩ : ∃ n, bs.length = n := ⟨_, rfl⟩
  rw [hnn] at hn hl ⊢
  have HN := hide hnn
  clear hnn
  rcases hk with ⟨rfl, ao, len, cap, rfl, hs⟩ | ⟨rfl, ao, len, cap, rfl, hs⟩ | ⟨rfl, ao, len, cap, rfl, hs⟩
  · replace hs := hide hs
    have hm : ∀ w : World, (method 26 76 (.slice ao len cap) "astragal/pos.numbers").run Try.prog w = .ok (71, .slice ao len cap) w := fun _ => by kernel_rfl
    go_enter Try.func26, Try.ntmps26
    go_wp2_with fail
    refine (way_any _ _ _ _).mono ?_
    rintro e wq ⟨rfl, hwq⟩
    have HB : Hid (Below w.heap.size w wq) := by rw [hwq]; exact bthen (below_one w _) (below_one _ _)
    clear hwq
    go_wp2_with fail
    refine (ranums_any _ _ _ _).mono ?_
    rintro e w1 ⟨rfl, rfl⟩
    go_wp2_with fail
    refine (collect_any _ _ _ (by rw [(spans_rg _ (Z.ls bs) rfl (ps_rise bs bs.length)).2.1]; simp [Z.is]; omega) (ranumsC_gives _ _ _ _ (by have := hs.out.1; have := HR.out; omega) HS.out _ (hs.out.below HB.out))).mono ?_
    rintro e w1 ha
    have HA : Hid (ListAns tb 1 bs w e w1) := ListAns.of (by rw [nums_is _ _ (by decide), (spans_rg _ (Z.ls bs) rfl (ps_rise bs bs.length)).2.1]) (HB.out.alloc HB.out.size _) ha
    clear ha
    obtain ⟨ao2, cap2, rfl, -⟩ := HA.out
    go_wp2
    go_ret
    exact HA.out
  · replace hs := hide hs
    have hm : ∀ w : World, (method 26 79 (.slice ao len cap) "astragal/pos.numbers").run Try.prog w = .ok (78, .slice ao len cap) w := fun _ => by kernel_rfl
    go_enter Try.func26, Try.ntmps26
    go_wp2_with fail
    refine (way_any _ _ _ _).mono ?_
    rintro e wq ⟨rfl, hwq⟩
    have HB : Hid (Below w.heap.size w wq) := by rw [hwq]; exact bthen (below_one w _) (below_one _ _)
    clear hwq
    go_wp2_with fail
    refine (binums_any _ _ _ _).mono ?_
    rintro e w1 ⟨rfl, rfl⟩
    go_wp2_with fail
    refine (collect_any _ _ _ (by have h1 := bl_length (Z.tz tb) bs len (by have := hs.out.1; simp [Z.is, bw_length] at this; omega); have h2 := ps_le2 bs (64 * len); rw [h1]; have := HN.out; omega) (binumsC_gives tb _ len _ _ (by have := hs.out.1; simp [Z.is, bw_length, HN.out] at this; omega) (bw_lt bs) _ (HT.out.below HB.out) (hs.out.below HB.out)).spans).mono ?_
    rintro e w1 ha
    have HA : Hid (ListAns tb 2 bs w e w1) := ListAns.of (by rw [nums_two]; congr 1; have := hs.out.1; simp [Z.is, bw_length] at this; omega) (HB.out.alloc HB.out.size _) ha
    clear ha
    obtain ⟨ao2, cap2, rfl, -⟩ := HA.out
    go_wp2
    go_ret
    exact HA.out
  · replace hs := hide hs
    have hm : ∀ w : World, (method 26 81 (.slice ao len cap) "astragal/pos.numbers").run Try.prog w = .ok (85, .slice ao len cap) w := fun _ => by kernel_rfl
    go_enter Try.func26, Try.ntmps26
    go_wp2_with fail
    refine (way_any _ _ _ _).mono ?_
    rintro e wq ⟨rfl, hwq⟩
    have HB : Hid (Below w.heap.size w wq) := by rw [hwq]; exact bthen (below_one w _) (below_one _ _)
    clear hwq
    go_wp2_with fail
    refine (linums_any _ _ _ _).mono ?_
    rintro e w1 ⟨rfl, rfl⟩
    go_wp2_with fail
    refine (collect_any _ _ _ (by simp [Z.is]; omega) (valuesC_gives _ _ _ _ (by have := hs.out.1; simp [Z.is] at this; omega) _ (hs.out.below HB.out)).spans).mono ?_
    rintro e w1 ha
    have HA : Hid (ListAns tb 3 bs w e w1) := ListAns.of (by rw [nums_is _ _ (by decide)]) (HB.out.alloc HB.out.size _) ha
    clear ha
    obtain ⟨ao2, cap2, rfl, -⟩ := HA.out
    go_wp2
    go_ret
    exact HA.out
end Go.Proofs.Ytlbchdlokimpfaa

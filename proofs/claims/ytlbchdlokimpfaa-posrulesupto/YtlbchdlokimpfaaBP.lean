/- The walk of the statement: all numbers are all. -/
import Derived.Test.YtlbchdlokimpfaaBO
namespace Go.Proofs.Ytlbchdlokimpfaa
set_option linter.unusedVariables false
set_option maxRecDepth 10000
open Go.RowKit

theorem all_ls (k : Nat) : (Z.ls (List.replicate k true)).length = k := by
  unfold Z.ls
  rw [List.length_replicate, ls_all k k (Nat.le_refl _), List.length_range]
theorem nt_all (k : Nat) : Z.nt (List.replicate k true) = List.replicate k false := by simp [Z.nt]
theorem none_ls (k : Nat) : (Z.ls (List.replicate k false)).length = 0 := by
  unfold Z.ls
  rw [ls_none]; rfl
theorem all_ps {k c : Nat} (h : c ≤ k) : (Z.ps (List.replicate k true) c).length = c := by rw [ls_all k c h, List.length_range]
theorem hs_all (k : Nat) (x : Int) : Z.hs (List.replicate k true) x = (decide (0 ≤ x) && decide (x < (k : Int))) := by
  unfold Z.hs
  rw [List.length_replicate]
  by_cases h0 : 0 ≤ x
  · by_cases h1 : x < (k : Int)
    · have : (List.replicate k true).getD x.toNat false = true := rep_at (by omega)
      rw [this]; simp
    · simp [h1]
  · simp [h0]
set_option maxHeartbeats 8000000 in
theorem posAlls_in (tb : Nat → Int) (w : World) (ht : TabAt w tb) (n : Int) (hn : 0 ≤ n ∧ n < 65536) (r : Int) (hr : 0 ≤ r ∧ r < 256) (x : Int) :
    Calls Try.prog 9 #[.int .u16 n, .int .u8 r, .int .i64 x] w fun e w' => e = .returned (.bool true) ∧ Below w.heap.size w w' := by
  obtain ⟨k, hk⟩ : ∃ k : Nat, n % 700 = (k : Int) := ⟨(n % 700).toNat, by omega⟩
  obtain ⟨q, hq⟩ : ∃ q : Nat, r % 3 = (q : Int) := ⟨(r % 3).toNat, by omega⟩
  have hk7 : (k : Int) < 700 := by omega
  have hq3 : (q : Int) < 3 := by omega
  have H0 := hide ht
  have HK := hide hk
  have HQ := hide hq
  have hn0 := hn.1
  have hn1 := hn.2
  have hr0 := hr.1
  have hr1 := hr.2
  clear ht hn hr hk hq
  go_enter Try.func9, Try.ntmps9
  go_wp2_with fail
  refine (shown_any tb _ H0.out).mono ?_
  rintro e w1 ⟨rfl, hb⟩
  have B1 := hide hb
  clear hb
  go_wp2_with fail
  have hq1 : 1 + r % 3 = ((q + 1 : Nat) : Int) := by have := HQ.out; omega
  rw [HK.out, hq1]
  clear hq1
  refine (all_any k (q + 1) (by omega) (by omega) (by omega) _).mono ?_
  rintro e w2 ⟨s, rfl, hs, hn2, hb⟩
  obtain ⟨T, ao, len, cap, rfl⟩ := SetAt.shape hs
  have B2 := hide (bthen B1.out hb)
  have HS2 := hide hs
  clear hs hn2 hb B1 HK HQ
  generalize hrep : q + 1 = rep at HS2 ⊢
  have hrl : 1 ≤ rep ∧ rep ≤ 3 := by omega
  clear hrep hq3
  go_wp2_with fail
  obtain ⟨bs, hbs⟩ : ∃ bs, List.replicate k true = bs := ⟨_, rfl⟩
  rw [hbs] at HS2
  have HBL := hide (show bs.length = k by rw [← hbs]; exact List.length_replicate)
  have HB1 := hide (show (Z.ls bs).length = k by rw [← hbs]; exact all_ls k)
  have HB2 := hide (show (Z.ls (Z.nt bs)).length = 0 by rw [← hbs, nt_all]; exact none_ls k)
  have HB3 := hide (show (Z.ps bs (Z.cl bs.length x)).length = Z.cl k x by rw [← hbs, List.length_replicate]; exact all_ps (cl_le k x))
  have HB4 := hide (show Z.hs bs x = (decide (0 ≤ x) && decide (x < (k : Int))) by rw [← hbs]; exact hs_all k x)
  have HB5 := hide (show ∃ m, bs = List.replicate m true from ⟨k, hbs.symm⟩)
  clear hbs
  rw [HBL.out] at HS2
  have hA := AtS.new w2 (.int .i64 (k : Int)) (.iface T (.slice ao len cap))
  have hbA := below_one w2 (.cells #[.int .i64 (k : Int), .iface T (.slice ao len cap)] 28)
  obtain ⟨w3, hw3⟩ : ∃ w3, w2.alloc (.cells #[.int .i64 (k : Int), .iface T (.slice ao len cap)] 28) = w3 := ⟨_, rfl⟩
  rw [hw3] at hA hbA ⊢
  have HA := hide hA
  have B3 := hide (bthen B2.out hbA)
  have HS3 := hide (HS2.out.below hbA)
  clear hw3 hA hbA HS2 B2
  refine (list_any tb _ rep bs _ HS3.out (H0.out.below B3.out)).mono ?_
  rintro e w4 ⟨a1, c1, rfl, -, hb⟩
  rw [HB1.out]
  have B4 := hide (bthen B3.out hb)
  have hA4 := HA.out.below hb
  obtain ⟨d0, d1⟩ := hA4.cells
  have HA4 := hide hA4
  have HS4 := hide (HS3.out.below hb)
  clear hb HA HS3 B3 hA4
  go_wp2_with fail
  refine (notset_any _ rep bs _ HS4.out hrl.1 hrl.2).mono ?_
  rintro e w5 ⟨s2, rfl, hs2, hn2, hb⟩
  obtain ⟨T2, ao2, len2, cap2, rfl⟩ := SetAt.shape hs2
  have B5 := hide (bthen B4.out hb)
  have HS5 := hide (HS4.out.below hb)
  have HA5 := hide (HA4.out.below hb)
  have HN5 := hide hs2
  clear hs2 hn2 hb B4 HS4 HA4 d0 d1
  go_wp2_with fail
  refine (list_any tb _ rep (Z.nt bs) _ HN5.out (H0.out.below B5.out)).mono ?_
  rintro e w6 ⟨a2, c2, rfl, -, hb⟩
  rw [HB2.out]
  have B6 := hide (bthen B5.out hb)
  have hA6 := HA5.out.below hb
  obtain ⟨d0, d1⟩ := hA6.cells
  have HA6 := hide hA6
  have HS6 := hide (HS5.out.below hb)
  clear hb HA5 HS5 B5 HN5 hA6
  have hcl := cl_is k x
  have hk0 : ¬ ((k : Int) < 0) := by omega
  by_cases hx : x < 0
  · have hx0 : ¬ (0 ≤ x) := by omega
    have hrk : Hid (((Z.ps bs (Z.cl bs.length x)).length : Int) = 0) := by
      show _ = _
      rw [HB3.out, hcl]
      split <;> (try split at *) <;> omega
    have hhs : Hid (Z.hs bs x = false) := by
      show _ = _
      rw [HB4.out, decide_eq_false hx0]; rfl
    clear hcl
    go_wp2_with fail
    refine (rank_any _ rep bs x _ HS6.out (fun _ => HB5.out)).mono ?_
    rintro e w7 ⟨rfl, hb⟩
    rw [hrk.out]
    have B7 := hide (bthen B6.out hb)
    have hA7 := HA6.out.below hb
    obtain ⟨d0, d1⟩ := hA7.cells
    have HA7 := hide hA7
    have HS7 := hide (HS6.out.below hb)
    clear hb HA6 HS6 B6 hA7
    go_wp2_with fail
    refine (has_any _ rep bs x _ HS7.out).mono ?_
    rintro e w8 ⟨rfl, hb⟩
    rw [hhs.out]
    have B8 := hide (bthen B7.out hb)
    have hA8 := HA7.out.below hb
    obtain ⟨d0, d1⟩ := hA8.cells
    have HA8 := hide hA8
    have HS8 := hide (HS7.out.below hb)
    clear hb HA7 HS7 B7 hA8
    go_wp2_with fail
    refine (len_any _ rep bs _ HS8.out).mono ?_
    rintro e w9 ⟨rfl, hb⟩
    rw [HBL.out]
    have B9 := hide (bthen B8.out hb)
    clear hb HA8 HS8 B8
    go_wp2
    go_ret
    exact ⟨rfl, B9.out⟩
  · have hx0 : 0 ≤ x := by omega
    by_cases hxk : x < (k : Int)
    · have hkx : ¬ ((k : Int) < x) := by omega
      have hrk : Hid (((Z.ps bs (Z.cl bs.length x)).length : Int) = x) := by
        show _ = _
        rw [HB3.out, hcl]
        split <;> (try split at *) <;> omega
      have hhs : Hid (Z.hs bs x = true) := by
        show _ = _
        rw [HB4.out, decide_eq_true hx0, decide_eq_true hxk]; rfl
      clear hcl
      go_wp2_with fail
      refine (rank_any _ rep bs x _ HS6.out (fun _ => HB5.out)).mono ?_
      rintro e w7 ⟨rfl, hb⟩
      rw [hrk.out]
      have B7 := hide (bthen B6.out hb)
      have hA7 := HA6.out.below hb
      obtain ⟨d0, d1⟩ := hA7.cells
      have HA7 := hide hA7
      have HS7 := hide (HS6.out.below hb)
      clear hb HA6 HS6 B6 hA7
      go_wp2_with fail
      refine (has_any _ rep bs x _ HS7.out).mono ?_
      rintro e w8 ⟨rfl, hb⟩
      rw [hhs.out]
      have B8 := hide (bthen B7.out hb)
      have hA8 := HA7.out.below hb
      obtain ⟨d0, d1⟩ := hA8.cells
      have HA8 := hide hA8
      have HS8 := hide (HS7.out.below hb)
      clear hb HA7 HS7 B7 hA8
      go_wp2_with fail
      refine (len_any _ rep bs _ HS8.out).mono ?_
      rintro e w9 ⟨rfl, hb⟩
      rw [HBL.out]
      have B9 := hide (bthen B8.out hb)
      clear hb HA8 HS8 B8
      go_wp2
      go_ret
      exact ⟨rfl, B9.out⟩
    · by_cases hkx : (k : Int) < x
      · have hrk : Hid (((Z.ps bs (Z.cl bs.length x)).length : Int) = (k : Int)) := by
          show _ = _
          rw [HB3.out, hcl]
          split <;> (try split at *) <;> omega
        have hhs : Hid (Z.hs bs x = false) := by
          show _ = _
          rw [HB4.out, decide_eq_false hxk, Bool.and_false]
        have hdx : decide (x < (k : Int)) = false := decide_eq_false hxk
        clear hcl
        go_wp2_with fail
        refine (rank_any _ rep bs x _ HS6.out (fun _ => HB5.out)).mono ?_
        rintro e w7 ⟨rfl, hb⟩
        rw [hrk.out]
        have B7 := hide (bthen B6.out hb)
        have hA7 := HA6.out.below hb
        obtain ⟨d0, d1⟩ := hA7.cells
        have HA7 := hide hA7
        have HS7 := hide (HS6.out.below hb)
        clear hb HA6 HS6 B6 hA7
        go_wp2_with fail
        refine (has_any _ rep bs x _ HS7.out).mono ?_
        rintro e w8 ⟨rfl, hb⟩
        rw [hhs.out]
        have B8 := hide (bthen B7.out hb)
        have hA8 := HA7.out.below hb
        obtain ⟨d0, d1⟩ := hA8.cells
        have HA8 := hide hA8
        have HS8 := hide (HS7.out.below hb)
        clear hb HA7 HS7 B7 hA8
        go_wp2_with fail
        refine (len_any _ rep bs _ HS8.out).mono ?_
        rintro e w9 ⟨rfl, hb⟩
        rw [HBL.out]
        have B9 := hide (bthen B8.out hb)
        clear hb HA8 HS8 B8
        go_wp2
        go_ret
        exact ⟨rfl, B9.out⟩
      · have hrk : Hid (((Z.ps bs (Z.cl bs.length x)).length : Int) = x) := by
          show _ = _
          rw [HB3.out, hcl]
          split <;> (try split at *) <;> omega
        have hhs : Hid (Z.hs bs x = false) := by
          show _ = _
          rw [HB4.out, decide_eq_false hxk, Bool.and_false]
        have hdx : decide (x < (k : Int)) = false := decide_eq_false hxk
        clear hcl
        go_wp2_with fail
        refine (rank_any _ rep bs x _ HS6.out (fun _ => HB5.out)).mono ?_
        rintro e w7 ⟨rfl, hb⟩
        rw [hrk.out]
        have B7 := hide (bthen B6.out hb)
        have hA7 := HA6.out.below hb
        obtain ⟨d0, d1⟩ := hA7.cells
        have HA7 := hide hA7
        have HS7 := hide (HS6.out.below hb)
        clear hb HA6 HS6 B6 hA7
        go_wp2_with fail
        refine (has_any _ rep bs x _ HS7.out).mono ?_
        rintro e w8 ⟨rfl, hb⟩
        rw [hhs.out]
        have B8 := hide (bthen B7.out hb)
        have hA8 := HA7.out.below hb
        obtain ⟨d0, d1⟩ := hA8.cells
        have HA8 := hide hA8
        have HS8 := hide (HS7.out.below hb)
        clear hb HA7 HS7 B7 hA8
        go_wp2_with fail
        refine (len_any _ rep bs _ HS8.out).mono ?_
        rintro e w9 ⟨rfl, hb⟩
        rw [HBL.out]
        have B9 := hide (bthen B8.out hb)
        clear hb HA8 HS8 B8
        go_wp2
        go_ret
        exact ⟨rfl, B9.out⟩
end Go.Proofs.Ytlbchdlokimpfaa

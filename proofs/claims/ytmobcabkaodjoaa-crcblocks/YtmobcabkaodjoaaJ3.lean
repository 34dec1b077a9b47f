/- The contract of the reference's Block. -/
import Derived.Test.YtmobcabkaodjoaaJ1
import Derived.Test.YtmobcabkaodjoaaH8
import Derived.Test.YtmobcabkaodjoaaG1
namespace Go.Proofs.Ytmobcabkaodjoaa
set_option linter.unusedVariables false
open Go.RowKit

theorem build_four (w : World) (a b c d : Int) : (Instr.buildSlice 22 4 #[(0, .int .u8 a), (1, .int .u8 b), (2, .int .u8 c), (3, .int .u8 d)]).run Try.prog w = .ok (.slice (some ⟨w.heap.size, 0, none⟩) 4 4) (w.alloc (.cells (four a b c d) 5)) := by
  simp [go_sem, four]

set_option maxHeartbeats 800000 in
/-- The reference's Block. -/
theorem rblock_any (ao : Option Addr) (len cap : Nat) (l : List Nat) (w : World) (h : Sl w .u8 ao len cap (ints l)) (hm : len ≤ 140737488351232) (h256 : ∀ x ∈ l, x < 256) :
    Calls Try.prog 19 #[.slice ao len cap] w fun e w' => ∃ v, e = .returned v ∧ w'.ownsRow w.heap.size 5 1 v (K.block l).length (B8 (K.block l)) ∧ Below w.heap.size w w' := by
  have H := hide h
  have H2 := hide h256
  have hll : l.length = len := by rw [← h.1, ints_length]
  have HLL := hide hll
  have h10 := E.leb_ten len (by omega)
  have hcl := K.crc_lt l
  have HC4 := hide (le4_cells (K.crc l) hcl)
  clear h h256 hll
  go_enter Try.func19, Try.ntmps19
  go_wp2_with fail
  refine (rsum_any ao len cap l w H.out (by omega) H2.out).mono ?_
  rintro e w1 ⟨rfl, rfl⟩
  obtain ⟨S, hS⟩ : ∃ S : Int, ((K.crc l : Nat) : Int) = S := ⟨_, rfl⟩
  rw [hS] at HC4 ⊢
  have hS0 : 0 ≤ S := by omega
  have hS1 : S < 4294967296 := by omega
  clear hS hcl
  go_wp2_with fail
  refine (rput_any (len : Int) _ (by omega) (by omega)).mono ?_
  rintro e w2 ⟨v2, rfl, ho2, hb2⟩
  rw [Int.toNat_natCast] at ho2
  obtain ⟨lb, hlb⟩ : ∃ lb, E.leb len = lb := ⟨_, rfl⟩
  rw [hlb] at ho2 h10
  have HLB := hide hlb
  have HO2 := hide ho2
  have HB2 := hide hb2
  have HS2 := hide (H.out.below hb2)
  obtain ⟨r3, hr3⟩ : ∃ r3, lb ++ l = r3 := ⟨_, rfl⟩
  have HR3 := hide hr3
  have HRl : Hid (r3.length = lb.length + len) := hide (by rw [← hr3, List.length_append, HLL.out])
  clear ho2 hb2 hlb hr3
  go_wp2_with (at_builtin; refine wpList_app rfl (.tmp 10) (.tmp 11) rfl w1.heap.size v2 lb rfl HO2.out ao len cap l rfl HS2.out (by omega) HB2.out.size r3 HR3.out ?_)
  intro v3 w3 ho3 has3
  have HO3 := hide ho3
  have HB3 := hide (HB2.out.trans (has3.below HB2.out.size (fun k hk => (owns_lt HO2.out hk).1)))
  clear ho3 has3
  have HS4 : Hid (Sl (w3.alloc (.cells (four (S % 256) (S / 256 % 256) (S / 65536 % 256) (S / 16777216)) 5)) .u8 (some ⟨w3.heap.size, 0, none⟩) 4 4 (ints (K.le4 (K.crc l)))) := hide (by
    have := Sl.of_row (l := K.le4 (K.crc l)) (t := 5) (fr := (0, 0)) (g := w3.heap.size) (w := w3.alloc (.cells (four (S % 256) (S / 256 % 256) (S / 65536 % 256) (S / 16777216)) 5)) (by rw [HC4.out]; exact heap_alloc_new _ _) (by rw [K.le4_length]; decide)
    rwa [K.le4_length] at this)
  have HO4 := hide (HO3.out.alloc (.cells (four (S % 256) (S / 256 % 256) (S / 65536 % 256) (S / 16777216)) 5))
  obtain ⟨r4, hr4⟩ : ∃ r4, r3 ++ K.le4 (K.crc l) = r4 := ⟨_, rfl⟩
  have HR4 := hide hr4
  have HBk : Hid (r4 = K.block l) := hide (by rw [← hr4, ← HR3.out, ← HLB.out, ← HLL.out, List.append_assoc]; rfl)
  have hr3l : r3.length + 4 ≤ 140737488355328 := by rw [HRl.out]; omega
  clear hr4
  go_wp2_with (at_builtin; refine wpList_app rfl (.tmp 13) (.tmp 28) rfl w1.heap.size v3 r3 rfl HO4.out (some ⟨w3.heap.size, 0, none⟩) 4 4 (K.le4 (K.crc l)) rfl HS4.out hr3l (by simp; have := HB3.out.size; omega) r4 HR4.out ?_)
  intro v5 w5 ho5 has5
  have HO5 := hide ho5
  have HB5 := hide ((HB3.out.alloc HB3.out.size _).trans (has5.below (by simp; have := HB3.out.size; omega) (fun k hk => (owns_lt HO4.out hk).1)))
  clear ho5 has5
  go_wp2
  go_ret
  exact ⟨v5, rfl, by rw [← HBk.out]; exact HO5.out, HB5.out⟩
end Go.Proofs.Ytmobcabkaodjoaa

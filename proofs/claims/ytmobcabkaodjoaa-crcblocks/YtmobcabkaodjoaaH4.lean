/- The contract of crc's laidDown. -/
import Derived.Test.YtmobcabkaodjoaaH3
namespace Go.Proofs.Ytmobcabkaodjoaa
set_option linter.unusedVariables false
open Go.RowKit

/-- The four bytes of a sum, as an array's cells. -/
def four (a b c d : Int) : Array Value := #[.int .u8 a, .int .u8 b, .int .u8 c, .int .u8 d]
theorem Try.infoFour : (Try.prog.info? 50).map (fun i => (i.zero, i.size)) = some (some (.agg (four 0 0 0 0)), 4) := by kernel_rfl
theorem le4_cells (n : Nat) (hn : n < 4294967296) : (B8 (K.le4 n)).toArray = four ((n : Int) % 256) ((n : Int) / 256 % 256) ((n : Int) / 65536 % 256) ((n : Int) / 16777216) := by
  simp [B8, K.le4, four]; omega
theorem four_one (a b c d : Int) : (four a b c d).all (·.oneCell') = true := by
  simp [four]; exact ⟨rfl, rfl, rfl, rfl⟩
theorem four_size (a b c d : Int) : (four a b c d).size = 4 := rfl
theorem cell_of_four {w : World} {p : Nat} {C : Array Value} {t : TypeId} (h : w.heap[p]? = some (.cells C t (0, 0))) (i : Nat) (v : Value) (hv : C[i]? = some v) : w.cell? ⟨p, i, none⟩ = some v ∧ w.frozen? ⟨p, i, none⟩ = false := by
  constructor
  · rw [cell_of_row w p i C t (0, 0) h]; exact hv
  · simp [World.frozen?, h]

set_option maxHeartbeats 400000 in
theorem laid_any (n : Nat) (w : World) (hn : n < 4294967296) :
    Calls Try.prog 23 #[.int .u32 (n : Int)] w fun e w' => e = .returned (.agg (B8 (K.le4 n)).toArray) ∧ Below w.heap.size w w' := by
  rw [le4_cells n hn]
  obtain ⟨s, hs⟩ : ∃ s : Int, (n : Int) = s := ⟨_, rfl⟩
  rw [hs]
  have hs0 : 0 ≤ s := by omega
  have hs1 : s < 4294967296 := by omega
  clear hs hn
  obtain ⟨hz, hi⟩ := zero_of_info Try.infoFour
  obtain ⟨Z, hZ⟩ : ∃ Z, four 0 0 0 0 = Z := ⟨_, rfl⟩
  have HZ := hide hZ
  rw [hZ] at hz
  clear hZ
  have HI := hide hi
  clear hi
  go_enter Try.func23, Try.ntmps23
  go_wp2_with fail
  have b0 := heap_alloc_new w (.cells Z 50)
  have b1 := heap_alloc_new (w.alloc (.cells Z 50)) (.cells Z 50)
  go_loopw [5] (fun i wr => ∃ (x a b c d : Int), 0 ≤ x ∧ x ≤ 4 ∧ i = .int .i64 x ∧ Hid ((0 < x → a = s % 256) ∧ (1 < x → b = s / 256 % 256) ∧ (2 < x → c = s / 65536 % 256) ∧ (3 < x → d = s / 16777216) ∧ wr.heap[w.heap.size]? = some (.cells Z 50 (0, 0)) ∧ wr.heap[w.heap.size + 1]? = some (.cells (four a b c d) 50 (0, 0)) ∧ Below w.heap.size w wr)) (fun i _ => 4 - (intOf i).toNat)
  case atStart =>
    exact ⟨0, 0, 0, 0, 0, by omega, by omega, rfl, hide ⟨by omega, by omega, by omega, by omega, heap_alloc_keep _ b0, by rw [HZ.out]; simpa using b1, ((Below.refl _ _).alloc (Nat.le_refl _) _).alloc (by simp) _⟩⟩
  case round =>
    obtain ⟨x, a, b, c, d, hx0, hx1, rfl, HR⟩ := hrel
    clear b0 b1
    by_cases hlt : x < 4
    · obtain rfl | rfl | rfl | rfl : x = 0 ∨ x = 1 ∨ x = 2 ∨ x = 3 := by omega
      · obtain ⟨c1, f1⟩ := cell_of_four HR.out.2.2.2.2.2.1 0 _ rfl
        go_wp2
        go_roundw
        case rel =>
          obtain ⟨r1, r2, r3, r4, r5, r6, r7⟩ := HR.out
          refine ⟨1, s % 256, b, c, d, by omega, by omega, rfl, hide ⟨?_, ?_, ?_, ?_, ?_, heap_setCell_row r6 _ _, r7.setCell (by simp) _⟩⟩
          · intro h; first | rfl | exact r1 (by omega) | omega
          · intro h; first | rfl | exact r2 (by omega) | omega
          · intro h; first | rfl | exact r3 (by omega) | omega
          · intro h; first | rfl | exact r4 (by omega) | omega
          · rw [Below.heap_setCell _ _ _ _ (by show w.heap.size ≠ w.heap.size + 1; omega)]; exact r5
        case measure => simp [intOf]
      · obtain ⟨c1, f1⟩ := cell_of_four HR.out.2.2.2.2.2.1 1 _ rfl
        go_wp2
        go_roundw
        case rel =>
          obtain ⟨r1, r2, r3, r4, r5, r6, r7⟩ := HR.out
          refine ⟨2, a, s / 256 % 256, c, d, by omega, by omega, rfl, hide ⟨?_, ?_, ?_, ?_, ?_, heap_setCell_row r6 _ _, r7.setCell (by simp) _⟩⟩
          · intro h; first | rfl | exact r1 (by omega) | omega
          · intro h; first | rfl | exact r2 (by omega) | omega
          · intro h; first | rfl | exact r3 (by omega) | omega
          · intro h; first | rfl | exact r4 (by omega) | omega
          · rw [Below.heap_setCell _ _ _ _ (by show w.heap.size ≠ w.heap.size + 1; omega)]; exact r5
        case measure => simp [intOf]
      · obtain ⟨c1, f1⟩ := cell_of_four HR.out.2.2.2.2.2.1 2 _ rfl
        go_wp2
        go_roundw
        case rel =>
          obtain ⟨r1, r2, r3, r4, r5, r6, r7⟩ := HR.out
          refine ⟨3, a, b, s / 65536 % 256, d, by omega, by omega, rfl, hide ⟨?_, ?_, ?_, ?_, ?_, heap_setCell_row r6 _ _, r7.setCell (by simp) _⟩⟩
          · intro h; first | rfl | exact r1 (by omega) | omega
          · intro h; first | rfl | exact r2 (by omega) | omega
          · intro h; first | rfl | exact r3 (by omega) | omega
          · intro h; first | rfl | exact r4 (by omega) | omega
          · rw [Below.heap_setCell _ _ _ _ (by show w.heap.size ≠ w.heap.size + 1; omega)]; exact r5
        case measure => simp [intOf]
      · obtain ⟨c1, f1⟩ := cell_of_four HR.out.2.2.2.2.2.1 3 _ rfl
        go_wp2
        go_roundw
        case rel =>
          obtain ⟨r1, r2, r3, r4, r5, r6, r7⟩ := HR.out
          refine ⟨4, a, b, c, s / 16777216, by omega, by omega, rfl, hide ⟨?_, ?_, ?_, ?_, ?_, heap_setCell_row r6 _ _, r7.setCell (by simp) _⟩⟩
          · intro h; first | rfl | exact r1 (by omega) | omega
          · intro h; first | rfl | exact r2 (by omega) | omega
          · intro h; first | rfl | exact r3 (by omega) | omega
          · intro h; first | rfl | exact r4 (by omega) | omega
          · rw [Below.heap_setCell _ _ _ _ (by show w.heap.size ≠ w.heap.size + 1; omega)]; exact r5
        case measure => simp [intOf]
    · obtain rfl : x = 4 := by omega
      obtain ⟨r1, r2, r3, r4, r5, r6, r7⟩ := HR.out
      obtain rfl := r1 (by omega)
      obtain rfl := r2 (by omega)
      obtain rfl := r3 (by omega)
      obtain rfl := r4 (by omega)
      obtain ⟨C, hC⟩ : ∃ C, four (s % 256) (s / 256 % 256) (s / 65536 % 256) (s / 16777216) = C := ⟨_, rfl⟩
      have h4 : C.size = 4 := by rw [← hC]; rfl
      have h1 : C.all (·.oneCell') = true := by rw [← hC]; exact four_one _ _ _ _
      have hZ4 : Z.size = 4 := by rw [← HZ.out]; rfl
      rw [hC] at r6
      have HCq := hide hC
      have HS := hide h4
      have H1 := hide h1
      have H5 := hide r5
      have H6 := hide r6
      have H7 := hide r7
      have HZ4 := hide hZ4
      clear h4 h1 r5 r6 r7 r1 r2 r3 r4 hZ4 hC HR
      go_wp2_with (first | refine wpList_load_row rfl 50 (.tmp 3) rfl (w.heap.size + 1) rfl 50 C (0, 0) (.array 4 5) H6.out Try.underlying50 rfl (by rw [HS.out]; exact HI.out) ?_ | refine wpList_store_row rfl 50 (.tmp 2) (.tmp 16) rfl w.heap.size C rfl rfl 50 Z H5.out (by rw [HS.out]; exact HI.out) (by rw [HS.out]; exact HZ4.out) H1.out ?_)
      refine bodyPost_ret (v := .agg C) ?h1 rfl ⟨by rw [HCq.out], ?h2⟩
      case h1 => exact results_cell_row Try.results23 _ _ w.heap.size 50 C (0, 0) (.array 4 5) rfl (setRow_heap _ _ _ _ _ _ H5.out) Try.underlying50 rfl (by rw [HS.out]; exact HI.out)
      case h2 => exact H7.out.trans ⟨rfl, rfl, rfl, by simp [World.setRow], fun k hk => setRow_other _ _ _ _ (by omega)⟩
end Go.Proofs.Ytmobcabkaodjoaa

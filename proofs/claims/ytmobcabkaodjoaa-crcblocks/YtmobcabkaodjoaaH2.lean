/- The contract of crc's Table. -/
import Derived.Test.YtmobcabkaodjoaaH1
import Derived.Deep.WholeRow
namespace Go.Proofs.Ytmobcabkaodjoaa
set_option linter.unusedVariables false
open Go.RowKit

/-- A row of 256 numbers. -/
def Tab (f : Nat → Nat) (C : Array Value) : Prop := C.size = 256 ∧ ∀ i, i < 256 → C[i]? = some (.int .u32 ((f i : Nat) : Int))
theorem Tab.one {f : Nat → Nat} {C : Array Value} (h : Tab f C) : C.all (·.oneCell') = true := by
  rw [Array.all_eq_true]
  intro i hi
  have h1 := h.2 i (by rw [← h.1]; exact hi)
  rw [Array.getElem?_eq_getElem hi] at h1
  rw [Option.some.inj h1]; rfl
theorem Tab.set {f : Nat → Nat} {C : Array Value} {k n : Nat} (h : Tab f C) (hk : k < 256) : Tab (fun i => if i = k then n else f i) (C.setIfInBounds k (.int .u32 ((n : Nat) : Int))) := by
  refine ⟨by simp [h.1], fun i hi => ?_⟩
  by_cases he : i = k
  · subst he; simp [h.1, hi]
  · rw [Array.getElem?_setIfInBounds_ne (fun e => he e.symm), h.2 i hi]; simp [he]
theorem Tab.congr {f g : Nat → Nat} {C : Array Value} (h : Tab f C) (hfg : ∀ i, i < 256 → f i = g i) : Tab g C :=
  ⟨h.1, fun i hi => by rw [h.2 i hi, hfg i hi]⟩
theorem Tab.zero : Tab (fun _ => 0) (Array.replicate 256 (.int .u32 0)) :=
  ⟨by simp, fun i hi => by simp [hi]⟩
/-- Two rows of the same numbers are one. -/
theorem Tab.uniq {f : Nat → Nat} {C D : Array Value} (h : Tab f C) (k : Tab f D) : C = D := by
  apply Array.ext_getElem?
  intro i
  by_cases hi : i < 256
  · rw [h.2 i hi, k.2 i hi]
  · have := h.1; have := k.1
    rw [Array.getElem?_eq_none (by omega), Array.getElem?_eq_none (by omega)]

theorem heap_setCell_row {w : World} {p : Nat} {C : Array Value} {t : TypeId} (h : w.heap[p]? = some (.cells C t (0, 0))) (i : Nat) (u : Value) :
    (w.setCell ⟨p, i, none⟩ u).heap[p]? = some (.cells (C.setIfInBounds i u) t (0, 0)) := by
  simp only [World.setCell, Array.getElem?_modify, h]; simp
theorem cell_of_tab {w : World} {p : Nat} {C : Array Value} {t : TypeId} {f : Nat → Nat} (h : w.heap[p]? = some (.cells C t (0, 0))) (hC : Tab f C) {i : Nat} (hi : i < 256) : w.cell? ⟨p, i, none⟩ = some (.int .u32 ((f i : Nat) : Int)) ∧ w.frozen? ⟨p, i, none⟩ = false := by
  constructor
  · rw [cell_of_row w p i C t (0, 0) h]; exact hC.2 i hi
  · simp [World.frozen?, h]
theorem Try.infoTab : (Try.prog.info? 24).map (fun i => (i.zero, i.size)) = some (some (.agg (Array.replicate 256 (.int .u32 0))), 256) := by kernel_rfl

set_option maxHeartbeats 400000 in
theorem table_any (w : World) :
    Calls Try.prog 11 #[] w fun e w' => ∃ C, e = .returned (.agg C) ∧ Tab K.row C ∧ Below w.heap.size w w' := by
  obtain ⟨hz, hi⟩ := zero_of_info Try.infoTab
  obtain ⟨Z, hZ⟩ : ∃ Z, Array.replicate 256 (Value.int .u32 0) = Z := ⟨_, rfl⟩
  have HT : Hid (Tab (fun _ => 0) Z) := hide (hZ ▸ Tab.zero)
  rw [hZ] at hz
  clear hZ
  have HI := hide hi
  clear hi
  go_enter Try.func11, Try.ntmps11
  go_wp2_with fail
  have b0 := heap_alloc_new w (.cells Z 24)
  have b1 := heap_alloc_new (w.alloc (.cells Z 24)) (.cells Z 24)
  go_loopw [3] (fun i wr => ∃ (x : Int) (C : Array Value), 0 ≤ x ∧ x ≤ 256 ∧ i = .int .i64 x ∧ Hid (Tab (fun i => if i < x.toNat then K.row i else 0) C ∧ wr.heap[w.heap.size]? = some (.cells Z 24 (0, 0)) ∧ wr.heap[w.heap.size + 1]? = some (.cells C 24 (0, 0)) ∧ Below w.heap.size w wr)) (fun i _ => 256 - (intOf i).toNat)
  case atStart =>
    refine ⟨0, Z, by omega, by omega, rfl, hide ⟨by simpa using HT.out, heap_alloc_keep _ b0, by simpa using b1, ((Below.refl _ _).alloc (Nat.le_refl _) _).alloc (by simp) _⟩⟩
  case round =>
    obtain ⟨x, C, hx0, hx1, rfl, HR⟩ := hrel
    clear b0 b1
    by_cases hlt : x < 256
    · obtain ⟨hc, hf⟩ := cell_of_tab HR.out.2.2.1 HR.out.1 (i := x.toNat) (by omega)
      obtain ⟨y, hy⟩ : ∃ y : Int, (((if x.toNat < x.toNat then K.row x.toNat else 0 : Nat) : Nat) : Int) = y := ⟨_, rfl⟩
      rw [hy] at hc
      clear hy
      have hth := fun w => through_any x.toNat w (by omega)
      rw [show ((x.toNat : Nat) : Int) = x by omega] at hth
      have HTh := hide hth
      clear hth
      go_wp2_with (go_at_call 20; refine (HTh.out _).mono ?_; rintro e w' ⟨rfl, rfl⟩)
      go_roundw
      case rel =>
        obtain ⟨r1, r2, r3, r4⟩ := HR.out
        refine ⟨x + 1, _, by omega, by omega, rfl, hide ⟨(r1.set (k := x.toNat) (n := K.row x.toNat) (by omega)).congr fun i hi => ?_, ?_, heap_setCell_row r3 _ _, r4.setCell (by simp) _⟩⟩
        · by_cases h1 : i = x.toNat
          · subst h1; simp; omega
          · simp only [h1, if_false]
            by_cases h2 : i < x.toNat
            · rw [if_pos h2, if_pos (by omega)]
            · rw [if_neg h2, if_neg (by omega)]
        · rw [Below.heap_setCell _ _ _ _ (by show w.heap.size ≠ w.heap.size + 1; omega)]; exact r2
      case measure => simp [intOf]; omega
    · obtain rfl : x = 256 := by omega
      have HC : Hid (Tab K.row C) := hide (HR.out.1.congr fun i hi => by simp [hi])
      have hsz := HC.out.1
      have HZs := hide HT.out.1
      have HS := hide hsz
      clear hsz
      go_wp2_with (first | refine wpList_load_row rfl 24 (.tmp 1) rfl (w.heap.size + 1) rfl 24 C (0, 0) (.array 256 23) HR.out.2.2.1 Try.underlying24 rfl (by rw [HS.out]; exact HI.out) ?_ | refine wpList_store_row rfl 24 (.tmp 0) (.tmp 12) rfl w.heap.size C rfl rfl 24 Z HR.out.2.1 (by rw [HS.out]; exact HI.out) (by rw [HS.out]; exact HZs.out) HC.out.one ?_)
      refine bodyPost_ret (v := .agg C) ?h1 rfl ⟨C, rfl, HC.out, ?h2⟩
      case h1 => exact results_cell_row Try.results11 _ _ w.heap.size 24 C (0, 0) (.array 256 23) rfl (setRow_heap _ _ _ _ _ _ HR.out.2.1) Try.underlying24 rfl (by rw [HS.out]; exact HI.out)
      case h2 => exact HR.out.2.2.2.trans ⟨rfl, rfl, rfl, by simp [World.setRow], fun k hk => setRow_other _ _ _ _ (by omega)⟩
end Go.Proofs.Ytmobcabkaodjoaa

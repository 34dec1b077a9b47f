/- The walk of the statement: sums, by the table and by any other one, are the document's. -/
import Derived.Test.YtmobcabkaodjoaaV7
import Derived.Test.YtmobcabkaodjoaaX1
import Derived.Test.YtmobcabkaodjoaaJ2
import Derived.Test.YtmobcabkaodjoaaRA
namespace Go.Proofs.Ytmobcabkaodjoaa
set_option linter.unusedVariables false
open Go.RowKit

def sumsTbl (ao : Option Addr) (len cap : Nat) (l : List Nat) (f : Nat → Nat) (C D : Array Value) (B BD : Nat) (i : Int) : List (Nat × V.Ent) :=
   [(0, V.Ent.is (.slice ao len cap)),
    (2, V.Ent.is (.int .u8 i)),
    (4, V.Ent.is (.pointer (some ⟨BD, 0, none⟩))),
    (7, V.Ent.is (.bool true)),
    (8, V.Ent.is (.pointer (some ⟨B, 0, none⟩))),
    (11, V.Ent.is (.bool true)),
    (12, V.Ent.is (.bool true)),
    (13, V.Ent.is (.int .u8 i)),
    (14, V.Ent.is (.pointer (some ⟨B, i.toNat, none⟩))),
    (15, V.Ent.is (.int .u32 ((K.row i.toNat : Nat) : Int))),
    (16, V.Ent.is (.int .u8 i)),
    (17, V.Ent.is (.int .u32 i)),
    (18, V.Ent.is (.int .u32 ((K.row i.toNat : Nat) : Int))),
    (19, V.Ent.is (.bool true)),
    (20, V.Ent.is (.bool true)),
    (21, V.Ent.is (.bool true)),
    (22, V.Ent.is (.agg C)),
    (23, V.Ent.is (.slice ao len cap)),
    (24, V.Ent.is (.int .u32 ((K.crc l : Nat) : Int))),
    (25, V.Ent.is (.slice ao len cap)),
    (26, V.Ent.is (.int .u32 ((K.crc l : Nat) : Int))),
    (27, V.Ent.is (.bool true)),
    (28, V.Ent.is (.bool true)),
    (29, V.Ent.is (.bool true)),
    (30, V.Ent.is (.agg D)),
    (31, V.Ent.is (.slice ao len cap)),
    (32, V.Ent.is (.int .u32 ((sumBy f l : Nat) : Int))),
    (33, V.Ent.is (.agg D)),
    (34, V.Ent.is (.slice ao len cap)),
    (35, V.Ent.is (.int .u32 ((sumBy f l : Nat) : Int))),
    (36, V.Ent.is (.bool true)),
    (37, V.Ent.is (.bool true)),
    (6, V.Ent.is (.bool true))]

set_option maxHeartbeats 2000000 in
theorem crcSums_in (w : World) (ao : Option Addr) (len cap : Nat) (l : List Nat) (D : Array Value) (f : Nat → Nat) (i : Int) (hsl : Sl w .u8 ao len cap (ints l)) (hm : len ≤ 140737488355328) (h256 : ∀ x ∈ l, x < 256) (hD : Tab f D) (hf : ∀ i, i < 256 → f i < 4294967296) (hi0 : 0 ≤ i) (hi1 : i < 256) :
    Calls Try.prog 3 #[.slice ao len cap, .agg D, .int .u8 i] w fun e w' => e = .returned (.bool true) ∧ Below w.heap.size w w' := by
  obtain ⟨hz, hi⟩ := zero_of_info Try.infoTab
  obtain ⟨Z, hZ⟩ : ∃ Z, Array.replicate 256 (Value.int .u32 0) = Z := ⟨_, rfl⟩
  have HZ : Hid (Z.size = 256) := hide (by rw [← hZ]; simp)
  rw [hZ] at hz
  have HI := hide hi
  have HSL0 := hide hsl
  have H2 := hide h256
  have HD := hide hD
  have HF := hide hf
  clear hZ hi hsl h256 hD hf
  go_enter Try.func3, Try.ntmps3
  go_wp2_with fail
  have HA := hide ((Below.refl w.heap.size w).alloc (Nat.le_refl _) (.cells D 24))
  have HD1 := hide (heap_alloc_new w (.cells D 24))
  obtain ⟨wa, hwa⟩ : ∃ wa, w.alloc (.cells D 24) = wa := ⟨_, rfl⟩
  obtain ⟨BD, hBD⟩ : ∃ B, w.heap.size = B := ⟨_, rfl⟩
  rw [hwa] at HA
  rw [hwa, hBD] at HD1 ⊢
  clear hwa
  refine (shown_any wa).mono ?_
  rintro e w2 ⟨rfl, hb⟩
  go_wp2_with fail
  refine (table_any w2).mono ?_
  rintro e w3 ⟨C, rfl, hC, hb3⟩
  have HC := hide hC
  have HS := hide hC.1
  have H1 := hide hC.one
  have hba := hb.trans (hb3.mono hb.size)
  have HB3 := hide (HA.out.trans (hba.mono HA.out.size))
  have HD2 := hide (show w3.heap[BD]? = some (.cells D 24 (0, 0)) by rw [hba.block BD (lt_of_block HD1.out)]; exact HD1.out)
  clear hb hb3 hC hba
  go_wp2_with (guard_target =~ wpList _ _ _ ((⟨none, .store _ _ _, _, _, _, _⟩ : Oper) :: _) _ _; refine wpList_store_row rfl 24 (.tmp 8) (.tmp 10) rfl w3.heap.size C rfl rfl 24 Z (heap_alloc_new _ _) (by rw [HS.out]; exact HI.out) (by rw [HS.out]; exact HZ.out) H1.out ?_; rw [World.setRow_alloc_new])
  have HB4 := hide (HB3.out.alloc HB3.out.size (.cells C 24))
  have HB0 := hide (heap_alloc_new w3 (.cells C 24))
  have HD0 := hide (heap_alloc_keep (.cells C 24) HD2.out)
  obtain ⟨w4, hw4⟩ : ∃ w4, w3.alloc (.cells C 24) = w4 := ⟨_, rfl⟩
  obtain ⟨B, hB⟩ : ∃ B, w3.heap.size = B := ⟨_, rfl⟩
  rw [hw4] at HB4 HD0
  rw [hw4, hB] at HB0 ⊢
  clear hw4 hB
  have HSL := hide (HSL0.out.below (w' := w4) HB4.out)
  refine V.wp_region (w0 := w4) [0, 2, 4, 7, 8] (sumsTbl ao len cap l f C D B BD i) (by kernel_rfl) (by kernel_rfl) (Below.refl _ _) ?hb ?hs ?hd
  case hb =>
    intro d hd
    simp only [List.mem_cons, List.not_mem_nil, or_false] at hd
    rcases hd with rfl | rfl | rfl | rfl | rfl <;> rfl
  case hs =>
    refine ⟨?_, ?_, ?_, ?_, ?_, ?_, ?_, ?_, ?_, ?_, ?_, ?_, ?_, ?_, ?_, ?_, ?_, ?_, ?_, ?_, ?_, ?_, ?_, ?_, ?_, ?_, ?_, ?_, trivial⟩
    · exact V.Step.move (.inl rfl) (.inl rfl) (.inl ⟨_, rfl⟩) (fun _ h => by cases h; rfl)
    · exact V.Step.move (.inl rfl) (.inl rfl) (.inl ⟨_, rfl⟩) (fun _ h => by cases h; rfl)
    · exact V.Step.move (.inr ⟨_, _, _, rfl, rfl, rfl⟩) (.inl rfl) (.inl ⟨_, rfl⟩) (fun _ h => by cases h; rfl)
    · exact V.Step.idx (i := i) (.inr ⟨_, _, _, rfl, rfl, rfl⟩) rfl rfl (.inl ⟨_, rfl⟩) rfl hi0 hi1 (fun _ h => by cases h; rfl)
    · exact V.Step.row (i := i.toNat) (.inr ⟨_, _, _, rfl, rfl, rfl⟩) rfl rfl HB0.out HC.out (by omega) (fun _ h => by cases h; rfl)
    · exact V.Step.move (.inr ⟨_, _, _, rfl, rfl, rfl⟩) (.inl rfl) (.inl ⟨_, rfl⟩) (fun _ h => by cases h; rfl)
    · exact V.Step.conv (v := .int .u32 i) (.inr ⟨_, _, _, rfl, rfl, rfl⟩) rfl rfl (fun w => by simp [go_sem, IntKind.wrap, IntKind.bits, IntKind.signed]; omega) (fun _ h => by cases h; rfl)
    · exact V.Step.call1 (.inr ⟨_, _, _, rfl, rfl, rfl⟩) rfl rfl Try.func12 (by decide +kernel) rfl (fun w1 hw1 => (rrow_any i _ hi0 (by omega)).mono (by rintro e w2 ⟨rfl, rfl⟩; exact ⟨_, rfl, Below.refl _ _, fun d h => by cases h; rfl⟩))
    · exact V.Step.bin (v := .bool true) (.inr ⟨_, _, _, rfl, rfl, rfl⟩) rfl (.inl ⟨_, rfl⟩) (.inl ⟨_, rfl⟩) rfl rfl (fun w => ⟨rfl, by rw [V.eql_int _ _ _ _ Try.underlying23]; simp⟩) (fun _ h => by cases h; rfl)
    · exact V.Step.pick (b := true) (.inl rfl) rfl ⟨_, rfl, rfl⟩ (.inl ⟨_, rfl⟩) (fun _ h => by cases h; rfl)
    · exact V.Step.move (.inl rfl) (.inl rfl) (.inl ⟨_, rfl⟩) (fun _ h => by cases h; rfl)
    · exact V.Step.tab (.inr ⟨_, _, _, rfl, rfl, rfl⟩) rfl rfl HB0.out HC.out.1 (fun _ h => by cases h; rfl)
    · exact V.Step.move (.inr ⟨_, _, _, rfl, rfl, rfl⟩) (.inl rfl) (.inl ⟨_, rfl⟩) (fun _ h => by cases h; rfl)
    · exact V.Step.call2 (.inr ⟨_, _, _, rfl, rfl, rfl⟩) rfl rfl rfl Try.func13 (by decide +kernel) rfl (fun w1 hw1 => (sum_crc C ao len cap l w1 HC.out (HSL.out.below hw1) hm H2.out).mono (by rintro e w2 ⟨rfl, hb9⟩; exact ⟨_, rfl, hb9, fun d h => by cases h; rfl⟩))
    · exact V.Step.move (.inr ⟨_, _, _, rfl, rfl, rfl⟩) (.inl rfl) (.inl ⟨_, rfl⟩) (fun _ h => by cases h; rfl)
    · exact V.Step.call1 (.inr ⟨_, _, _, rfl, rfl, rfl⟩) rfl rfl Try.func14 (by decide +kernel) rfl (fun w1 hw1 => (rsum_any ao len cap l w1 (HSL.out.below hw1) hm H2.out).mono (by rintro e w2 ⟨rfl, rfl⟩; exact ⟨_, rfl, Below.refl _ _, fun d h => by cases h; rfl⟩))
    · exact V.Step.bin (v := .bool true) (.inr ⟨_, _, _, rfl, rfl, rfl⟩) rfl (.inl ⟨_, rfl⟩) (.inl ⟨_, rfl⟩) rfl rfl (fun w => ⟨rfl, by rw [V.eql_int _ _ _ _ Try.underlying23]; simp⟩) (fun _ h => by cases h; rfl)
    · exact V.Step.pick (b := true) (.inl rfl) rfl ⟨_, rfl, rfl⟩ (.inl ⟨_, rfl⟩) (fun _ h => by cases h; rfl)
    · exact V.Step.move (.inl rfl) (.inl rfl) (.inl ⟨_, rfl⟩) (fun _ h => by cases h; rfl)
    · exact V.Step.tab (.inr ⟨_, _, _, rfl, rfl, rfl⟩) rfl rfl HD0.out HD.out.1 (fun _ h => by cases h; rfl)
    · exact V.Step.move (.inr ⟨_, _, _, rfl, rfl, rfl⟩) (.inl rfl) (.inl ⟨_, rfl⟩) (fun _ h => by cases h; rfl)
    · exact V.Step.call2 (.inr ⟨_, _, _, rfl, rfl, rfl⟩) rfl rfl rfl Try.func13 (by decide +kernel) rfl (fun w1 hw1 => (sum_any f D ao len cap l w1 HD.out HF.out (HSL.out.below hw1) hm H2.out).mono (by rintro e w2 ⟨rfl, hb9⟩; exact ⟨_, rfl, hb9, fun d h => by cases h; rfl⟩))
    · exact V.Step.tab (.inr ⟨_, _, _, rfl, rfl, rfl⟩) rfl rfl HD0.out HD.out.1 (fun _ h => by cases h; rfl)
    · exact V.Step.move (.inr ⟨_, _, _, rfl, rfl, rfl⟩) (.inl rfl) (.inl ⟨_, rfl⟩) (fun _ h => by cases h; rfl)
    · exact V.Step.call2 (.inr ⟨_, _, _, rfl, rfl, rfl⟩) rfl rfl rfl Try.func15 (by decide +kernel) rfl (fun w1 hw1 => (rother_any f D ao len cap l w1 HD.out HF.out (HSL.out.below hw1) hm H2.out).mono (by rintro e w2 ⟨rfl, hb9⟩; exact ⟨_, rfl, hb9, fun d h => by cases h; rfl⟩))
    · exact V.Step.bin (v := .bool true) (.inr ⟨_, _, _, rfl, rfl, rfl⟩) rfl (.inl ⟨_, rfl⟩) (.inl ⟨_, rfl⟩) rfl rfl (fun w => ⟨rfl, by rw [V.eql_int _ _ _ _ Try.underlying23]; simp⟩) (fun _ h => by cases h; rfl)
    · exact V.Step.pick (b := true) (.inl rfl) rfl ⟨_, rfl, rfl⟩ (.inl ⟨_, rfl⟩) (fun _ h => by cases h; rfl)
    · exact V.Step.move (.inl rfl) (.inr rfl) (.inl ⟨_, rfl⟩) (fun _ h => by cases h; rfl)
  case hd =>
    intro a1 w1 hw1 hdf hk
    have h6 : a1.tmps[6]?.getD undef = .bool true := V.slot_of (hk 27 _ 6 rfl rfl)
    go_wp2
    exact bodyPost_ret (v := .bool true) (by simp [results, Try.results3, h6, go_sem]) hdf ⟨rfl, hBD ▸ HB4.out.trans (hw1.mono HB4.out.size)⟩

theorem crcSums_walk (w : World) (a : Option Addr) (len cap : Nat) (z : List Int) (c : Came .u8 w a len cap z) (hr : cap * 1 ≤ 140737488351232) (D : Array Value) (hD : Tab (numOf D) D ∧ ∀ i, i < 256 → numOf D i < 4294967296) (i : Int) (wi : (Lit.int .u8 i).wf = true) :
    Calls Try.prog 3 #[.slice a len cap, .agg D, .int .u8 i] w fun e w' => e = .returned (.bool true) ∧ Below w.heap.size w w' := by
  obtain ⟨l, rfl, h256⟩ := came_bytes c
  obtain ⟨h0, h1⟩ := wf_u8 wi
  have hc := c.1.2.1
  exact crcSums_in w a len cap l D (numOf D) i c.1 (by omega) h256 hD.1 hD.2 h0 h1
end Go.Proofs.Ytmobcabkaodjoaa

/- The walk of the statement: numbers' bytes, and bytes as a number, are the document's. -/
import Derived.Test.YtnkpghoijdcohaaV3
import Derived.Test.YtnkpghoijdcohaaRU
namespace Go.Proofs.Ytnkpghoijdcohaa
set_option linter.unusedVariables false
open Go.RowKit

def numbersTbl (n m X K G : Int) : List (Nat × V.Ent) :=
   [(7, V.Ent.is (.bool true)),
    (0, V.Ent.is (.int .u64 n)),
    (1, V.Ent.is (.int .i64 m)),
    (8, V.Ent.is (.int .u64 X)),
    (11, V.Ent.is (.int .u64 X)),
    (9, V.Ent.is (.int .i64 K)),
    (12, V.Ent.is (.int .i64 K)),
    (10, V.Ent.is (.int .i64 G)),
    (13, V.Ent.is (.int .i64 G)),
    (27, V.Ent.is (.bool true)),
    (28, V.Ent.is (.bool true)),
    (29, V.Ent.is (.int .u64 n)),
    (30, V.Ent.sl ((E.leb n.toNat).length) ((E.leb n.toNat))),
    (31, V.Ent.is (.string (strOfNums (ints ((E.leb n.toNat)))))),
    (32, V.Ent.is (.int .u64 n)),
    (33, V.Ent.sl ((E.leb n.toNat).length) ((E.leb n.toNat))),
    (34, V.Ent.is (.string (strOfNums (ints ((E.leb n.toNat)))))),
    (35, V.Ent.is (.bool true)),
    (36, V.Ent.is (.bool true)),
    (37, V.Ent.is (.bool true)),
    (38, V.Ent.is (.int .i64 m)),
    (39, V.Ent.is (.int .u64 ((E.zig m : Nat) : Int))),
    (40, V.Ent.is (.int .i64 m)),
    (41, V.Ent.is (.int .u64 ((E.zig m : Nat) : Int))),
    (42, V.Ent.is (.bool true)),
    (43, V.Ent.is (.bool true)),
    (44, V.Ent.is (.bool true)),
    (45, V.Ent.is (.int .u64 n)),
    (46, V.Ent.is (.int .i64 (E.zag n.toNat))),
    (47, V.Ent.is (.int .u64 n)),
    (48, V.Ent.is (.int .i64 (E.zag n.toNat))),
    (49, V.Ent.is (.bool true)),
    (50, V.Ent.is (.bool true)),
    (51, V.Ent.is (.bool true)),
    (52, V.Ent.is (.int .u64 X)),
    (53, V.Ent.is (.int .u64 X)),
    (54, V.Ent.is (.bool true)),
    (55, V.Ent.is (.bool true)),
    (56, V.Ent.is (.bool true)),
    (57, V.Ent.is (.int .i64 K)),
    (58, V.Ent.is (.int .i64 K)),
    (59, V.Ent.is (.bool true)),
    (60, V.Ent.is (.bool true)),
    (61, V.Ent.is (.bool true)),
    (62, V.Ent.is (.int .i64 G)),
    (63, V.Ent.is (.int .i64 G)),
    (64, V.Ent.is (.bool true)),
    (65, V.Ent.is (.bool true)),
    (6, V.Ent.is (.bool true))]

set_option maxHeartbeats 2000000 in
theorem lebNumbers_in (w : World) (n m : Int) (hn0 : 0 ≤ n) (hn1 : n < 18446744073709551616) (hm0 : -9223372036854775808 ≤ m) (hm1 : m < 9223372036854775808) (a : Option Addr) (len cap : Nat) (l : List Nat) (hsl : Sl w .u8 a len cap (ints l)) (h256 : ∀ x ∈ l, x < 256) (hr : len ≤ 140737488355328) :
    Calls Try.prog 3 #[.int .u64 n, .int .i64 m, .slice a len cap] w fun e w' => e = .returned (.bool true) ∧ Below w.heap.size w w' := by
  have HSL := hide hsl
  have H2 := hide h256
  clear hsl h256
  go_enter Try.func3, Try.ntmps3
  go_wp2_with fail
  refine (shown_any w).mono ?_
  rintro e w2 ⟨rfl, hb⟩
  go_wp2_with fail
  refine (get_any _ _ _ l _ (HSL.out.below hb) H2.out hr).mono ?_
  rintro e w3 ⟨rfl, hb3⟩
  have hb4 := hb.trans (hb3.mono hb.size)
  obtain ⟨X, hX⟩ : ∃ X : Int, ((E.gN l : Nat) : Int) = X := ⟨_, rfl⟩
  obtain ⟨K, hK⟩ : ∃ X : Int, ((E.gK l : Nat) : Int) = X := ⟨_, rfl⟩
  obtain ⟨G, hG⟩ : ∃ X : Int, ((E.gE l : Nat) : Int) = X := ⟨_, rfl⟩
  rw [hX, hK, hG]
  have HXX := hide hX
  have HKK := hide hK
  have HGG := hide hG
  clear hb hb3 hX hK hG
  go_wp2_with fail
  refine (rget_any _ _ _ l _ (HSL.out.below hb4) H2.out hr).mono ?_
  rintro e w5 ⟨rfl, rfl⟩
  rw [HXX.out, HKK.out, HGG.out]
  go_wp2
  refine V.wp_region (w0 := w) [7, 0, 1, 8, 11, 9, 12, 10, 13] (numbersTbl n m X K G) (by kernel_rfl) (by kernel_rfl) hb4 ?hb ?hs ?hd
  case hb =>
    intro d hd
    simp only [List.mem_cons, List.not_mem_nil, or_false] at hd
    rcases hd with rfl | rfl | rfl | rfl | rfl | rfl | rfl | rfl | rfl <;> rfl
  case hs =>
    refine ⟨?_, ?_, ?_, ?_, ?_, ?_, ?_, ?_, ?_, ?_, ?_, ?_, ?_, ?_, ?_, ?_, ?_, ?_, ?_, ?_, ?_, ?_, ?_, ?_, ?_, ?_, ?_, ?_, ?_, ?_, ?_, ?_, ?_, ?_, ?_, ?_, ?_, ?_, ?_, ?_, trivial⟩
    · exact V.Step.move (.inl rfl) (.inl rfl) (.inl ⟨_, rfl⟩) (fun _ h => by cases h; rfl)
    · exact V.Step.move (.inl rfl) (.inl rfl) (.inl ⟨_, rfl⟩) (fun _ h => by cases h; rfl)
    · exact V.Step.move (.inr ⟨_, _, _, rfl, rfl, rfl⟩) (.inl rfl) (.inl ⟨_, rfl⟩) (fun _ h => by cases h; rfl)
    · exact V.Step.call1 (.inr ⟨_, _, _, rfl, rfl, rfl⟩) rfl rfl Try.func13 (by decide +kernel) rfl (fun w1 hw1 => (put_sl n _ _ _ hn0 hn1 rfl rfl).mono (by rintro e w9 ⟨a9, c9, rfl, hs9, hb9⟩; exact ⟨_, rfl, hb9, fun d h => by cases h; exact ⟨a9, c9, rfl, hs9⟩⟩))
    · exact V.Step.str (.inr ⟨_, _, _, rfl, rfl, rfl⟩) rfl rfl (fun _ h => by cases h; rfl)
    · exact V.Step.move (.inr ⟨_, _, _, rfl, rfl, rfl⟩) (.inl rfl) (.inl ⟨_, rfl⟩) (fun _ h => by cases h; rfl)
    · exact V.Step.call1 (.inr ⟨_, _, _, rfl, rfl, rfl⟩) rfl rfl Try.func14 (by decide +kernel) rfl (fun w1 hw1 => (rput_sl n _ _ _ hn0 hn1 rfl rfl).mono (by rintro e w9 ⟨a9, c9, rfl, hs9, hb9⟩; exact ⟨_, rfl, hb9, fun d h => by cases h; exact ⟨a9, c9, rfl, hs9⟩⟩))
    · exact V.Step.str (.inr ⟨_, _, _, rfl, rfl, rfl⟩) rfl rfl (fun _ h => by cases h; rfl)
    · exact V.Step.bin (v1 := .string (strOfNums (ints ((E.leb n.toNat))))) (v2 := .string (strOfNums (ints ((E.leb n.toNat))))) (v := .bool true) (.inr ⟨_, _, _, rfl, rfl, rfl⟩) rfl (.inl ⟨_, rfl⟩) (.inl ⟨_, rfl⟩) rfl rfl (fun w => ⟨rfl, by simp [go_sem]⟩) (fun _ h => by cases h; rfl)
    · exact V.Step.pick (b := true) (.inl rfl) rfl ⟨_, rfl, rfl⟩ (.inl ⟨_, rfl⟩) (fun _ h => by cases h; rfl)
    · exact V.Step.move (.inl rfl) (.inl rfl) (.inl ⟨_, rfl⟩) (fun _ h => by cases h; rfl)
    · exact V.Step.move (.inr ⟨_, _, _, rfl, rfl, rfl⟩) (.inl rfl) (.inl ⟨_, rfl⟩) (fun _ h => by cases h; rfl)
    · exact V.Step.call1 (.inr ⟨_, _, _, rfl, rfl, rfl⟩) rfl rfl Try.func15 (by decide +kernel) rfl (fun w1 hw1 => (zig_any m _ hm0 hm1).mono (by rintro e w2 ⟨rfl, rfl⟩; exact ⟨_, rfl, Below.refl _ _, fun d h => by cases h; rfl⟩))
    · exact V.Step.move (.inr ⟨_, _, _, rfl, rfl, rfl⟩) (.inl rfl) (.inl ⟨_, rfl⟩) (fun _ h => by cases h; rfl)
    · exact V.Step.call1 (.inr ⟨_, _, _, rfl, rfl, rfl⟩) rfl rfl Try.func16 (by decide +kernel) rfl (fun w1 hw1 => (rzig_any m _ hm0 hm1).mono (by rintro e w2 ⟨rfl, rfl⟩; exact ⟨_, rfl, Below.refl _ _, fun d h => by cases h; rfl⟩))
    · exact V.Step.bin (v1 := .int .u64 ((E.zig m : Nat) : Int)) (v2 := .int .u64 ((E.zig m : Nat) : Int)) (v := .bool true) (.inr ⟨_, _, _, rfl, rfl, rfl⟩) rfl (.inl ⟨_, rfl⟩) (.inl ⟨_, rfl⟩) rfl rfl (fun w => ⟨rfl, by simp [go_sem]⟩) (fun _ h => by cases h; rfl)
    · exact V.Step.pick (b := true) (.inl rfl) rfl ⟨_, rfl, rfl⟩ (.inl ⟨_, rfl⟩) (fun _ h => by cases h; rfl)
    · exact V.Step.move (.inl rfl) (.inl rfl) (.inl ⟨_, rfl⟩) (fun _ h => by cases h; rfl)
    · exact V.Step.move (.inr ⟨_, _, _, rfl, rfl, rfl⟩) (.inl rfl) (.inl ⟨_, rfl⟩) (fun _ h => by cases h; rfl)
    · exact V.Step.call1 (.inr ⟨_, _, _, rfl, rfl, rfl⟩) rfl rfl Try.func17 (by decide +kernel) rfl (fun w1 hw1 => (zag_any n _ hn0 hn1).mono (by rintro e w2 ⟨rfl, rfl⟩; exact ⟨_, rfl, Below.refl _ _, fun d h => by cases h; rfl⟩))
    · exact V.Step.move (.inr ⟨_, _, _, rfl, rfl, rfl⟩) (.inl rfl) (.inl ⟨_, rfl⟩) (fun _ h => by cases h; rfl)
    · exact V.Step.call1 (.inr ⟨_, _, _, rfl, rfl, rfl⟩) rfl rfl Try.func18 (by decide +kernel) rfl (fun w1 hw1 => (rzag_any n _ hn0 hn1).mono (by rintro e w2 ⟨rfl, rfl⟩; exact ⟨_, rfl, Below.refl _ _, fun d h => by cases h; rfl⟩))
    · exact V.Step.bin (v1 := .int .i64 (E.zag n.toNat)) (v2 := .int .i64 (E.zag n.toNat)) (v := .bool true) (.inr ⟨_, _, _, rfl, rfl, rfl⟩) rfl (.inl ⟨_, rfl⟩) (.inl ⟨_, rfl⟩) rfl rfl (fun w => ⟨rfl, by simp [go_sem]⟩) (fun _ h => by cases h; rfl)
    · exact V.Step.pick (b := true) (.inl rfl) rfl ⟨_, rfl, rfl⟩ (.inl ⟨_, rfl⟩) (fun _ h => by cases h; rfl)
    · exact V.Step.move (.inl rfl) (.inl rfl) (.inl ⟨_, rfl⟩) (fun _ h => by cases h; rfl)
    · exact V.Step.move (.inr ⟨_, _, _, rfl, rfl, rfl⟩) (.inl rfl) (.inl ⟨_, rfl⟩) (fun _ h => by cases h; rfl)
    · exact V.Step.move (.inr ⟨_, _, _, rfl, rfl, rfl⟩) (.inl rfl) (.inl ⟨_, rfl⟩) (fun _ h => by cases h; rfl)
    · exact V.Step.bin (v1 := .int .u64 X) (v2 := .int .u64 X) (v := .bool true) (.inr ⟨_, _, _, rfl, rfl, rfl⟩) rfl (.inl ⟨_, rfl⟩) (.inl ⟨_, rfl⟩) rfl rfl (fun w => ⟨rfl, by simp [go_sem]⟩) (fun _ h => by cases h; rfl)
    · exact V.Step.pick (b := true) (.inl rfl) rfl ⟨_, rfl, rfl⟩ (.inl ⟨_, rfl⟩) (fun _ h => by cases h; rfl)
    · exact V.Step.move (.inl rfl) (.inl rfl) (.inl ⟨_, rfl⟩) (fun _ h => by cases h; rfl)
    · exact V.Step.move (.inr ⟨_, _, _, rfl, rfl, rfl⟩) (.inl rfl) (.inl ⟨_, rfl⟩) (fun _ h => by cases h; rfl)
    · exact V.Step.move (.inr ⟨_, _, _, rfl, rfl, rfl⟩) (.inl rfl) (.inl ⟨_, rfl⟩) (fun _ h => by cases h; rfl)
    · exact V.Step.bin (v1 := .int .i64 K) (v2 := .int .i64 K) (v := .bool true) (.inr ⟨_, _, _, rfl, rfl, rfl⟩) rfl (.inl ⟨_, rfl⟩) (.inl ⟨_, rfl⟩) rfl rfl (fun w => ⟨rfl, by simp [go_sem]⟩) (fun _ h => by cases h; rfl)
    · exact V.Step.pick (b := true) (.inl rfl) rfl ⟨_, rfl, rfl⟩ (.inl ⟨_, rfl⟩) (fun _ h => by cases h; rfl)
    · exact V.Step.move (.inl rfl) (.inl rfl) (.inl ⟨_, rfl⟩) (fun _ h => by cases h; rfl)
    · exact V.Step.move (.inr ⟨_, _, _, rfl, rfl, rfl⟩) (.inl rfl) (.inl ⟨_, rfl⟩) (fun _ h => by cases h; rfl)
    · exact V.Step.move (.inr ⟨_, _, _, rfl, rfl, rfl⟩) (.inl rfl) (.inl ⟨_, rfl⟩) (fun _ h => by cases h; rfl)
    · exact V.Step.bin (v1 := .int .i64 G) (v2 := .int .i64 G) (v := .bool true) (.inr ⟨_, _, _, rfl, rfl, rfl⟩) rfl (.inl ⟨_, rfl⟩) (.inl ⟨_, rfl⟩) rfl rfl (fun w => ⟨rfl, by simp [go_sem]⟩) (fun _ h => by cases h; rfl)
    · exact V.Step.pick (b := true) (.inl rfl) rfl ⟨_, rfl, rfl⟩ (.inl ⟨_, rfl⟩) (fun _ h => by cases h; rfl)
    · exact V.Step.move (.inl rfl) (.inr rfl) (.inl ⟨_, rfl⟩) (fun _ h => by cases h; rfl)
  case hd =>
    intro a1 w1 hw1 hdf hk
    have h6 : a1.tmps[6]?.getD undef = .bool true := V.slot_of (hk 39 _ 6 rfl rfl)
    go_wp2
    exact bodyPost_ret (v := .bool true) (by simp [results, Try.results3, h6, go_sem]) hdf ⟨rfl, hw1⟩

theorem lebNumbers_walk (w : World) (n : Int) (wn : (Lit.int .u64 n).wf = true) (m : Int) (wm : (Lit.int .i64 m).wf = true) (a : Option Addr) (len cap : Nat) (z : List Int) (c : Came .u8 w a len cap z) (hr : cap * 1 ≤ 140737488351232) :
    Calls Try.prog 3 #[.int .u64 n, .int .i64 m, .slice a len cap] w fun e w' => e = .returned (.bool true) ∧ Below w.heap.size w w' := by
  obtain ⟨l, rfl, h256⟩ := came_bytes c
  obtain ⟨hn0, hn1⟩ := wf_u64 wn
  obtain ⟨hm0, hm1⟩ := wf_i64 wm
  have hc := c.1.2.1
  exact lebNumbers_in w n m hn0 hn1 hm0 hm1 a len cap l c.1 h256 (by omega)
end Go.Proofs.Ytnkpghoijdcohaa

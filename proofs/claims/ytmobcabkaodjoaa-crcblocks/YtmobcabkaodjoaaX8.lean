/- The walk of the statement: blocks, and bytes as a block, are the document's. -/
import Derived.Test.YtmobcabkaodjoaaJ4
import Derived.Test.YtmobcabkaodjoaaX1
namespace Go.Proofs.Ytmobcabkaodjoaa
set_option linter.unusedVariables false
open Go.RowKit

def blocksTbl (ao : Option Addr) (len cap : Nat) (l : List Nat) (most : Int) (a1 a2 a3 a4 : Option Addr) (n n1 n2 c1 c2 c3 c4 : Nat) (G : Int) : List (Nat × V.Ent) :=
   [(5, V.Ent.is (.bool true)),
    (0, V.Ent.is (.slice ao len cap)),
    (6, V.Ent.is (.slice a1 n1 c1)),
    (7, V.Ent.is (.slice a2 n2 c2)),
    (8, V.Ent.is (.int .i64 G)),
    (9, V.Ent.is (.slice a3 n1 c3)),
    (10, V.Ent.is (.slice a4 n2 c4)),
    (11, V.Ent.is (.int .i64 G)),
    (27, V.Ent.is (.bool true)),
    (28, V.Ent.is (.bool true)),
    (29, V.Ent.is (.slice ao len cap)),
    (30, V.Ent.sl n ((K.block l))),
    (31, V.Ent.is (.string (strOfNums (ints ((K.block l)))))),
    (32, V.Ent.is (.slice ao len cap)),
    (33, V.Ent.sl n ((K.block l))),
    (34, V.Ent.is (.string (strOfNums (ints ((K.block l)))))),
    (35, V.Ent.is (.bool true)),
    (36, V.Ent.is (.bool true)),
    (37, V.Ent.is (.bool true)),
    (38, V.Ent.is (.slice a1 n1 c1)),
    (39, V.Ent.is (.string (strOfNums (ints (K.zX most l))))),
    (40, V.Ent.is (.slice a3 n1 c3)),
    (41, V.Ent.is (.string (strOfNums (ints (K.zX most l))))),
    (42, V.Ent.is (.bool true)),
    (43, V.Ent.is (.bool true)),
    (44, V.Ent.is (.bool true)),
    (45, V.Ent.is (.slice a2 n2 c2)),
    (46, V.Ent.is (.string (strOfNums (ints (K.zR most l))))),
    (47, V.Ent.is (.slice a4 n2 c4)),
    (48, V.Ent.is (.string (strOfNums (ints (K.zR most l))))),
    (49, V.Ent.is (.bool true)),
    (50, V.Ent.is (.bool true)),
    (51, V.Ent.is (.bool true)),
    (52, V.Ent.is (.int .i64 G)),
    (53, V.Ent.is (.int .i64 G)),
    (54, V.Ent.is (.bool true)),
    (55, V.Ent.is (.bool true)),
    (4, V.Ent.is (.bool true))]

set_option maxHeartbeats 2000000 in
theorem crcBlocks_in (w : World) (ao : Option Addr) (len cap : Nat) (l : List Nat) (hsl : Sl w .u8 ao len cap (ints l)) (hm : len ≤ 140737488351232) (h256 : ∀ x ∈ l, x < 256) (most : Int) (hm0 : -9223372036854775808 ≤ most) (hm1 : most < 9223372036854775808) :
    Calls Try.prog 4 #[.slice ao len cap, .int .i64 most] w fun e w' => e = .returned (.bool true) ∧ Below w.heap.size w w' := by
  have HSL := hide hsl
  have H2 := hide h256
  clear hsl h256
  go_enter Try.func4, Try.ntmps4
  go_wp2_with fail
  refine (shown_any w).mono ?_
  rintro e w2 ⟨rfl, hb⟩
  go_wp2_with fail
  refine (open_any ao len cap l most w2 (HSL.out.below hb) (by omega) H2.out hm0 hm1).mono ?_
  rintro e w3 ⟨⟨a1, c1, a2, c2, rfl, s1, s2⟩, hb3⟩
  obtain ⟨n1, hn1⟩ : ∃ n1, (K.zX most l).length = n1 := ⟨_, rfl⟩
  obtain ⟨n2, hn2⟩ : ∃ n2, (K.zR most l).length = n2 := ⟨_, rfl⟩
  obtain ⟨G, hG⟩ : ∃ G : Int, ((K.oE most l : Nat) : Int) = G := ⟨_, rfl⟩
  rw [hn1] at s1 ⊢
  rw [hn2] at s2 ⊢
  rw [hG]
  have HN1 := hide hn1
  have HN2 := hide hn2
  have HG := hide hG
  have HS1 := hide s1
  have HS2 := hide s2
  have HB3 := hide (hb.trans (hb3.mono hb.size))
  clear hb hb3 s1 s2 hn1 hn2 hG
  go_wp2_with fail
  refine (ropen_any ao len cap l most w3 (HSL.out.below (w' := w3) HB3.out) (by omega) H2.out hm0 hm1).mono ?_
  rintro e w4 ⟨⟨a3, c3, a4, c4, rfl, s3, s4⟩, hb4⟩
  rw [HN1.out] at s3 ⊢
  rw [HN2.out] at s4 ⊢
  rw [HG.out]
  have HX1 := hide (HS1.out.below hb4)
  have HX2 := hide (HS2.out.below hb4)
  have HX3 := hide s3
  have HX4 := hide s4
  have HB4 := hide (HB3.out.trans (hb4.mono HB3.out.size))
  have HSL4 := hide (HSL.out.below (w' := w4) HB4.out)
  obtain ⟨n, hn⟩ : ∃ n, (K.block l).length = n := ⟨_, rfl⟩
  clear s3 s4 hb4
  have hll : l.length = len := by rw [← HSL.out.1, ints_length]
  have hnm : n ≤ maxLen := by
    have h1 := K.block_length l
    have h2 := E.leb_ten l.length (by omega)
    unfold maxLen; omega
  have KB : ∀ w1, Below w4.heap.size w4 w1 → Calls Try.prog 18 #[.slice ao len cap] w1 fun e w' => ∃ a c, e = .returned (.slice a n c) ∧ Sl w' .u8 a n c (ints (K.block l)) ∧ Below w1.heap.size w1 w' := fun w1 hw1 => by
    refine (block_any ao len cap l w1 (HSL4.out.below hw1) hm H2.out).mono ?_
    rintro e w9 ⟨g, rfl, hg, _, hb9⟩
    have := Sl.of_row hg (by rw [hn]; exact hnm)
    rw [hn] at this ⊢
    exact ⟨_, _, rfl, this, hb9⟩
  have KR : ∀ w1, Below w4.heap.size w4 w1 → Calls Try.prog 19 #[.slice ao len cap] w1 fun e w' => ∃ a c, e = .returned (.slice a n c) ∧ Sl w' .u8 a n c (ints (K.block l)) ∧ Below w1.heap.size w1 w' := fun w1 hw1 => by
    refine (rblock_any ao len cap l w1 (HSL4.out.below hw1) hm H2.out).mono ?_
    rintro e w9 ⟨v, rfl, ho, hb9⟩
    obtain ⟨a9, c9, rfl, hs9⟩ := Sl.of_own ho hn
    exact ⟨_, _, rfl, hs9, hb9⟩
  go_wp2_with fail
  refine V.wp_region (w0 := w4) [5, 0, 6, 7, 8, 9, 10, 11] (blocksTbl ao len cap l most a1 a2 a3 a4 n n1 n2 c1 c2 c3 c4 G) (by kernel_rfl) (by kernel_rfl) (Below.refl _ _) ?hb ?hs ?hd
  case hb =>
    intro d hd
    simp only [List.mem_cons, List.not_mem_nil, or_false] at hd
    rcases hd with rfl | rfl | rfl | rfl | rfl | rfl | rfl | rfl <;> rfl
  case hs =>
    refine ⟨?_, ?_, ?_, ?_, ?_, ?_, ?_, ?_, ?_, ?_, ?_, ?_, ?_, ?_, ?_, ?_, ?_, ?_, ?_, ?_, ?_, ?_, ?_, ?_, ?_, ?_, ?_, ?_, ?_, ?_, trivial⟩
    · exact V.Step.move (.inl rfl) (.inl rfl) (.inl ⟨_, rfl⟩) (fun _ h => by cases h; rfl)
    · exact V.Step.move (.inl rfl) (.inl rfl) (.inl ⟨_, rfl⟩) (fun _ h => by cases h; rfl)
    · exact V.Step.move (.inr ⟨_, _, _, rfl, rfl, rfl⟩) (.inl rfl) (.inl ⟨_, rfl⟩) (fun _ h => by cases h; rfl)
    · exact V.Step.call1 (.inr ⟨_, _, _, rfl, rfl, rfl⟩) rfl rfl Try.func18 (by decide +kernel) rfl (fun w1 hw1 => (KB w1 hw1).mono (by rintro e w9 ⟨a9, c9, rfl, hs9, hb9⟩; exact ⟨_, rfl, hb9, fun d h => by cases h; exact ⟨a9, c9, rfl, hs9⟩⟩))
    · exact V.Step.str (.inr ⟨_, _, _, rfl, rfl, rfl⟩) rfl rfl (fun _ h => by cases h; rfl)
    · exact V.Step.move (.inr ⟨_, _, _, rfl, rfl, rfl⟩) (.inl rfl) (.inl ⟨_, rfl⟩) (fun _ h => by cases h; rfl)
    · exact V.Step.call1 (.inr ⟨_, _, _, rfl, rfl, rfl⟩) rfl rfl Try.func19 (by decide +kernel) rfl (fun w1 hw1 => (KR w1 hw1).mono (by rintro e w9 ⟨a9, c9, rfl, hs9, hb9⟩; exact ⟨_, rfl, hb9, fun d h => by cases h; exact ⟨a9, c9, rfl, hs9⟩⟩))
    · exact V.Step.str (.inr ⟨_, _, _, rfl, rfl, rfl⟩) rfl rfl (fun _ h => by cases h; rfl)
    · exact V.Step.bin (v1 := .string (strOfNums (ints ((K.block l))))) (v2 := .string (strOfNums (ints ((K.block l))))) (v := .bool true) (.inr ⟨_, _, _, rfl, rfl, rfl⟩) rfl (.inl ⟨_, rfl⟩) (.inl ⟨_, rfl⟩) rfl rfl (fun w => ⟨rfl, by simp [go_sem]⟩) (fun _ h => by cases h; rfl)
    · exact V.Step.pick (b := true) (.inl rfl) rfl ⟨_, rfl, rfl⟩ (.inl ⟨_, rfl⟩) (fun _ h => by cases h; rfl)
    · exact V.Step.move (.inl rfl) (.inl rfl) (.inl ⟨_, rfl⟩) (fun _ h => by cases h; rfl)
    · exact V.Step.move (.inr ⟨_, _, _, rfl, rfl, rfl⟩) (.inl rfl) (.inl ⟨_, rfl⟩) (fun _ h => by cases h; rfl)
    · exact V.Step.strOld (.inr ⟨_, _, _, rfl, rfl, rfl⟩) rfl rfl HX1.out (fun _ h => by cases h; rfl)
    · exact V.Step.move (.inr ⟨_, _, _, rfl, rfl, rfl⟩) (.inl rfl) (.inl ⟨_, rfl⟩) (fun _ h => by cases h; rfl)
    · exact V.Step.strOld (.inr ⟨_, _, _, rfl, rfl, rfl⟩) rfl rfl HX3.out (fun _ h => by cases h; rfl)
    · exact V.Step.bin (v1 := .string (strOfNums (ints (K.zX most l)))) (v2 := .string (strOfNums (ints (K.zX most l)))) (v := .bool true) (.inr ⟨_, _, _, rfl, rfl, rfl⟩) rfl (.inl ⟨_, rfl⟩) (.inl ⟨_, rfl⟩) rfl rfl (fun w => ⟨rfl, by simp [go_sem]⟩) (fun _ h => by cases h; rfl)
    · exact V.Step.pick (b := true) (.inl rfl) rfl ⟨_, rfl, rfl⟩ (.inl ⟨_, rfl⟩) (fun _ h => by cases h; rfl)
    · exact V.Step.move (.inl rfl) (.inl rfl) (.inl ⟨_, rfl⟩) (fun _ h => by cases h; rfl)
    · exact V.Step.move (.inr ⟨_, _, _, rfl, rfl, rfl⟩) (.inl rfl) (.inl ⟨_, rfl⟩) (fun _ h => by cases h; rfl)
    · exact V.Step.strOld (.inr ⟨_, _, _, rfl, rfl, rfl⟩) rfl rfl HX2.out (fun _ h => by cases h; rfl)
    · exact V.Step.move (.inr ⟨_, _, _, rfl, rfl, rfl⟩) (.inl rfl) (.inl ⟨_, rfl⟩) (fun _ h => by cases h; rfl)
    · exact V.Step.strOld (.inr ⟨_, _, _, rfl, rfl, rfl⟩) rfl rfl HX4.out (fun _ h => by cases h; rfl)
    · exact V.Step.bin (v1 := .string (strOfNums (ints (K.zR most l)))) (v2 := .string (strOfNums (ints (K.zR most l)))) (v := .bool true) (.inr ⟨_, _, _, rfl, rfl, rfl⟩) rfl (.inl ⟨_, rfl⟩) (.inl ⟨_, rfl⟩) rfl rfl (fun w => ⟨rfl, by simp [go_sem]⟩) (fun _ h => by cases h; rfl)
    · exact V.Step.pick (b := true) (.inl rfl) rfl ⟨_, rfl, rfl⟩ (.inl ⟨_, rfl⟩) (fun _ h => by cases h; rfl)
    · exact V.Step.move (.inl rfl) (.inl rfl) (.inl ⟨_, rfl⟩) (fun _ h => by cases h; rfl)
    · exact V.Step.move (.inr ⟨_, _, _, rfl, rfl, rfl⟩) (.inl rfl) (.inl ⟨_, rfl⟩) (fun _ h => by cases h; rfl)
    · exact V.Step.move (.inr ⟨_, _, _, rfl, rfl, rfl⟩) (.inl rfl) (.inl ⟨_, rfl⟩) (fun _ h => by cases h; rfl)
    · exact V.Step.bin (v1 := .int .i64 G) (v2 := .int .i64 G) (v := .bool true) (.inr ⟨_, _, _, rfl, rfl, rfl⟩) rfl (.inl ⟨_, rfl⟩) (.inl ⟨_, rfl⟩) rfl rfl (fun w => ⟨rfl, by simp [go_sem]⟩) (fun _ h => by cases h; rfl)
    · exact V.Step.pick (b := true) (.inl rfl) rfl ⟨_, rfl, rfl⟩ (.inl ⟨_, rfl⟩) (fun _ h => by cases h; rfl)
    · exact V.Step.move (.inl rfl) (.inr rfl) (.inl ⟨_, rfl⟩) (fun _ h => by cases h; rfl)
  case hd =>
    intro a0 w1 hw1 hdf hk
    have h4 : a0.tmps[4]?.getD undef = .bool true := V.slot_of (hk 29 _ 4 rfl rfl)
    go_wp2
    exact bodyPost_ret (v := .bool true) (by simp [results, Try.results4, h4, go_sem]) hdf ⟨rfl, HB4.out.trans (hw1.mono HB4.out.size)⟩

theorem crcBlocks_walk (w : World) (a : Option Addr) (len cap : Nat) (z : List Int) (c : Came .u8 w a len cap z) (hr : cap * 1 ≤ 140737488351232) (most : Int) (wm : (Lit.int .i64 most).wf = true) :
    Calls Try.prog 4 #[.slice a len cap, .int .i64 most] w fun e w' => e = .returned (.bool true) ∧ Below w.heap.size w w' := by
  obtain ⟨l, rfl, h256⟩ := came_bytes c
  obtain ⟨h0, h1⟩ := wf_i64 wm
  have hc := c.1.2.1
  exact crcBlocks_in w a len cap l c.1 (by omega) h256 most h0 h1
end Go.Proofs.Ytmobcabkaodjoaa

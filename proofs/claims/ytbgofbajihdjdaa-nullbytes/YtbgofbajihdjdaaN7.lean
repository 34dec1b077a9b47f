/- The walk of the statement: places' bytes, and bytes as so many places, are the document's. -/
import Derived.Test.YtbgofbajihdjdaaT9
import Derived.Test.YtbgofbajihdjdaaTD
namespace Go.Proofs.Ytbgofbajihdjdaa
set_option linter.unusedVariables false
open Go.RowKit

def nbytesTbl (a : Option Addr) (len cap : Nat) (p1 p2 : Option Addr) (m c1 c2 : Nat) (E : Int) (K : Nat) (bs : List Bool) : List (Nat × V.Ent) :=
   [(7, V.Ent.is (.bool true)),
    (0, V.Ent.is (.slice a len cap)),
    (8, V.Ent.is (.slice p1 m c1)),
    (10, V.Ent.is (.slice p2 m c2)),
    (9, V.Ent.is (.int .i64 E)),
    (11, V.Ent.is (.int .i64 E)),
    (34, V.Ent.is (.bool true)),
    (35, V.Ent.is (.bool true)),
    (36, V.Ent.is (.slice a len cap)),
    (37, V.Ent.sl K ((A.bytesOf bs))),
    (38, V.Ent.is (.string (strOfNums (ints ((A.bytesOf bs)))))),
    (39, V.Ent.is (.slice a len cap)),
    (40, V.Ent.sl K ((A.bytesOf bs))),
    (41, V.Ent.is (.string (strOfNums (ints ((A.bytesOf bs)))))),
    (42, V.Ent.is (.bool true)),
    (43, V.Ent.is (.bool true)),
    (44, V.Ent.is (.bool true)),
    (45, V.Ent.is (.slice p1 m c1)),
    (46, V.Ent.is (.slice p2 m c2)),
    (47, V.Ent.is (.bool true)),
    (48, V.Ent.is (.bool true)),
    (49, V.Ent.is (.bool true)),
    (50, V.Ent.is (.int .i64 E)),
    (51, V.Ent.is (.int .i64 E)),
    (52, V.Ent.is (.bool true)),
    (53, V.Ent.is (.bool true)),
    (6, V.Ent.is (.bool true))]

set_option maxHeartbeats 4000000 in
theorem nullBytes_in (w : World) (a : Option Addr) (len cap : Nat) (bs : List Bool) (hs : Sb w a len cap bs) (hr : cap * 1 ≤ 140737488351232) (a1 : Option Addr) (len1 cap1 : Nat) (l : List Nat) (hl : Sl w .u8 a1 len1 cap1 (ints l)) (h256 : ∀ x ∈ l, x < 256) (hr1 : cap1 * 1 ≤ 140737488351232) (n : Int) :
    Calls Try.prog 4 #[.slice a len cap, .slice a1 len1 cap1, .int .i64 n] w fun e w' => e = .returned (.bool true) ∧ Below w.heap.size w w' := by
  have hlen : len ≤ 140737488351232 := by have := hs.2.1; omega
  have hlen1 : len1 ≤ 140737488351232 := by have := hl.2.1; omega
  have HS := hide hs
  have HL := hide hl
  have H256 := hide h256
  have hml : (ofL l n).length ≤ 1048576 := by rw [ofL_length]; exact unpL_le l n 1
  obtain ⟨E, hE⟩ : ∃ E, unpC l n 1 = E := ⟨_, rfl⟩
  obtain ⟨us, hus⟩ : ∃ us, ofL l n = us := ⟨_, rfl⟩
  rw [hus] at hml
  obtain ⟨m, hm⟩ : ∃ m, us.length = m := ⟨_, rfl⟩
  rw [hm] at hml
  have HE := hide hE
  have HUS := hide hus
  have HMM := hide hm
  clear hs hl hr hr1 h256 hE hus hm
  go_enter Try.func4, Try.ntmps4
  go_wp2_with fail
  refine (nshown_any _).mono ?_
  rintro e w1 ⟨rfl, hb⟩
  have b0 := hide hb
  clear hb
  by_cases hbig : 5000 < len
  · go_wp2
    go_ret
    exact ⟨rfl, b0.out⟩
  · by_cases hbig1 : 5000 < len1
    · go_wp2
      go_ret
      exact ⟨rfl, b0.out⟩
    · go_wp2_with fail
      refine (zof_any a1 len1 cap1 l n _ (HL.out.below b0.out) H256.out (by omega)).mono ?_
      rintro e w2 ⟨v, rfl, ho, hb⟩
      rw [HUS.out] at ho
      obtain ⟨p1, c1, rfl, s1, _⟩ := Sb.of_owns ho
      rw [HMM.out] at s1 ⊢
      rw [HE.out]
      have HS1 := hide s1
      replace b0 := hide (b0.out.trans (hb.mono b0.out.size))
      clear ho hb s1
      go_wp2_with fail
      refine (yof_any a1 len1 cap1 l n _ (HL.out.below b0.out) H256.out (by omega)).mono ?_
      rintro e w3 ⟨v, rfl, ho, hb⟩
      rw [HUS.out] at ho
      obtain ⟨p2, c2, rfl, s2, _⟩ := Sb.of_owns ho
      rw [HMM.out] at s2 ⊢
      rw [HE.out]
      replace HS1 := hide (HS1.out.below hb)
      have HS2 := hide s2
      replace b0 := hide (b0.out.trans (hb.mono b0.out.size))
      clear ho hb s2
      have HSA := hide (HS.out.below b0.out)
      obtain ⟨K, hK⟩ : ∃ K, (A.bytesOf bs).length = K := ⟨_, rfl⟩
      go_wp2_with fail
      refine V.wp_region (w0 := w3) [7, 0, 8, 10, 9, 11] (nbytesTbl a len cap p1 p2 m c1 c2 E K bs) (by kernel_rfl) (by kernel_rfl) (Below.refl _ _) ?hb ?hs ?hd
      case hb =>
        intro d hd
        simp only [List.mem_cons, List.not_mem_nil, or_false] at hd
        rcases hd with rfl | rfl | rfl | rfl | rfl | rfl <;> rfl
      case hs =>
        refine ⟨?_, ?_, ?_, ?_, ?_, ?_, ?_, ?_, ?_, ?_, ?_, ?_, ?_, ?_, ?_, ?_, ?_, ?_, ?_, ?_, ?_, trivial⟩
        · exact V.Step.move (.inl rfl) (.inl rfl) (.inl ⟨_, rfl⟩) (fun _ h => by cases h; rfl)
        · exact V.Step.move (.inl rfl) (.inl rfl) (.inl ⟨_, rfl⟩) (fun _ h => by cases h; rfl)
        · exact V.Step.move (.inr ⟨_, _, _, rfl, rfl, rfl⟩) (.inl rfl) (.inl ⟨_, rfl⟩) (fun _ h => by cases h; rfl)
        · exact V.Step.call1 (.inr ⟨_, _, _, rfl, rfl, rfl⟩) rfl rfl Try.func20 (by decide +kernel) rfl (fun w1 hw1 => (zbytes_any a len cap bs _ (HSA.out.below hw1) (by omega)).mono (by rintro e w9 ⟨v9, rfl, ho9, hb9⟩; obtain ⟨a9, c9, rfl, hs9, _⟩ := Sl.of_bytes ho9; rw [hK] at hs9; exact ⟨_, rfl, hb9, fun d h => by cases h; exact ⟨a9, c9, by rw [hK], hs9⟩⟩))
        · exact V.Step.str (.inr ⟨_, _, _, rfl, rfl, rfl⟩) rfl rfl (fun _ h => by cases h; rfl)
        · exact V.Step.move (.inr ⟨_, _, _, rfl, rfl, rfl⟩) (.inl rfl) (.inl ⟨_, rfl⟩) (fun _ h => by cases h; rfl)
        · exact V.Step.call1 (.inr ⟨_, _, _, rfl, rfl, rfl⟩) rfl rfl Try.func21 (by decide +kernel) rfl (fun w1 hw1 => (ybytes_any a len cap bs _ (HSA.out.below hw1) (by omega)).mono (by rintro e w9 ⟨v9, rfl, ho9, hb9⟩; obtain ⟨a9, c9, rfl, hs9, _⟩ := Sl.of_bytes ho9; rw [hK] at hs9; exact ⟨_, rfl, hb9, fun d h => by cases h; exact ⟨a9, c9, by rw [hK], hs9⟩⟩))
        · exact V.Step.str (.inr ⟨_, _, _, rfl, rfl, rfl⟩) rfl rfl (fun _ h => by cases h; rfl)
        · exact V.Step.bin (v1 := .string (strOfNums (ints ((A.bytesOf bs))))) (v2 := .string (strOfNums (ints ((A.bytesOf bs))))) (v := .bool true) (.inr ⟨_, _, _, rfl, rfl, rfl⟩) rfl (.inl ⟨_, rfl⟩) (.inl ⟨_, rfl⟩) rfl rfl (fun w => ⟨rfl, by simp [go_sem]⟩) (fun _ h => by cases h; rfl)
        · exact V.Step.pick (b := true) (.inl rfl) rfl ⟨_, rfl, rfl⟩ (.inl ⟨_, rfl⟩) (fun _ h => by cases h; rfl)
        · exact V.Step.move (.inl rfl) (.inl rfl) (.inl ⟨_, rfl⟩) (fun _ h => by cases h; rfl)
        · exact V.Step.move (.inr ⟨_, _, _, rfl, rfl, rfl⟩) (.inl rfl) (.inl ⟨_, rfl⟩) (fun _ h => by cases h; rfl)
        · exact V.Step.move (.inr ⟨_, _, _, rfl, rfl, rfl⟩) (.inl rfl) (.inl ⟨_, rfl⟩) (fun _ h => by cases h; rfl)
        · exact V.Step.call2 (.inr ⟨_, _, _, rfl, rfl, rfl⟩) rfl rfl rfl Try.func14 (by decide +kernel) rfl (fun w1 hw1 => (bsame_yes p1 p2 m c1 c2 us _ (HS1.out.below hw1) (HS2.out.below hw1) (by omega)).mono (by rintro e w9 ⟨rfl, hb9⟩; exact ⟨_, rfl, hb9, fun d h => by cases h; rfl⟩))
        · exact V.Step.pick (b := true) (.inl rfl) rfl ⟨_, rfl, rfl⟩ (.inl ⟨_, rfl⟩) (fun _ h => by cases h; rfl)
        · exact V.Step.move (.inl rfl) (.inl rfl) (.inl ⟨_, rfl⟩) (fun _ h => by cases h; rfl)
        · exact V.Step.move (.inr ⟨_, _, _, rfl, rfl, rfl⟩) (.inl rfl) (.inl ⟨_, rfl⟩) (fun _ h => by cases h; rfl)
        · exact V.Step.move (.inr ⟨_, _, _, rfl, rfl, rfl⟩) (.inl rfl) (.inl ⟨_, rfl⟩) (fun _ h => by cases h; rfl)
        · exact V.Step.bin (v1 := .int .i64 E) (v2 := .int .i64 E) (v := .bool true) (.inr ⟨_, _, _, rfl, rfl, rfl⟩) rfl (.inl ⟨_, rfl⟩) (.inl ⟨_, rfl⟩) rfl rfl (fun w => ⟨rfl, by simp [go_sem]⟩) (fun _ h => by cases h; rfl)
        · exact V.Step.pick (b := true) (.inl rfl) rfl ⟨_, rfl, rfl⟩ (.inl ⟨_, rfl⟩) (fun _ h => by cases h; rfl)
        · exact V.Step.move (.inl rfl) (.inr rfl) (.inl ⟨_, rfl⟩) (fun _ h => by cases h; rfl)
      case hd =>
        intro a0 w6 hw1 hdf hk
        have h6 : a0.tmps[6]?.getD undef = .bool true := V.slot_of (hk 20 _ 6 rfl rfl)
        go_wp2
        exact bodyPost_ret (v := .bool true) (by simp [results, Try.results4, h6, go_sem]) hdf ⟨rfl, b0.out.trans (hw1.mono b0.out.size)⟩
theorem nullBytes_walk (w : World) (a : Option Addr) (len cap : Nat) (bs : List Bool) (hs : Sb w a len cap bs) (hr : cap * 1 ≤ 140737488351232) (a1 : Option Addr) (len1 cap1 : Nat) (z : List Int) (c : Came .u8 w a1 len1 cap1 z) (hr1 : cap1 * 1 ≤ 140737488351232) (n : Int) (wn : (Lit.int .i64 n).wf = true) :
    Calls Try.prog 4 #[.slice a len cap, .slice a1 len1 cap1, .int .i64 n] w fun e w' => e = .returned (.bool true) ∧ Below w.heap.size w w' := by
  obtain ⟨l, rfl, h256⟩ := came_bytes c
  exact nullBytes_in w a len cap bs hs hr a1 len1 cap1 l c.1 h256 hr1 n
end Go.Proofs.Ytbgofbajihdjdaa

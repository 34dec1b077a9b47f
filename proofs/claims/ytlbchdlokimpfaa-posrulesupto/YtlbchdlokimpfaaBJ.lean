/- What is in both, in either, and what isn't; a set of some numbers, and of all. -/
import Derived.Test.YtlbchdlokimpfaaV24
namespace Go.Proofs.Ytlbchdlokimpfaa
set_option linter.unusedVariables false
set_option maxRecDepth 10000
open Go.RowKit

theorem AtS.other {w : World} {b B i : Nat} {x y : Value} (h : AtS w b x y) (hne : b ≠ B) (v : Value) : AtS (w.setCell ⟨B, i, none⟩ v) b x y := by
  unfold AtS at *
  rw [Below.heap_setCell _ _ _ _ hne]; exact h
theorem SetAt.shape {w : World} {s : Value} {rep : Nat} {bs : List Bool} (h : SetAt w s rep bs) : ∃ T ao len cap, s = .agg #[.int .i64 (bs.length : Int), .iface T (.slice ao len cap)] := by
  obtain ⟨hn, kept, rfl, hr⟩ := h
  obtain ⟨T, ao, len, cap, rfl⟩ := hr.iface
  exact ⟨_, _, _, _, rfl⟩
/-- A set stored in a block of the caller's own, where nothing of the set lies. -/
theorem SetAt.stored {w : World} {rep : Nat} {bs : List Bool} {B : Nat} {T : TypeId} {ao : Option Addr} {len cap : Nat} (h : SetAt w (.agg #[.int .i64 (bs.length : Int), .iface T (.slice ao len cap)]) rep bs) (hn : ∀ x, ao = some x → x.block ≠ B) :
    SetAt ((w.setCell ⟨B, 0, none⟩ (.int .i64 (bs.length : Int))).setCell ⟨B, 1, none⟩ (.iface T (.slice ao len cap))) (.agg #[.int .i64 (bs.length : Int), .iface T (.slice ao len cap)]) rep bs := by
  obtain ⟨h1, kept, h2, h3⟩ := h
  have : kept = .iface T (.slice ao len cap) := by simpa using h2.symm
  subst this
  exact ⟨h1, _, rfl, (h3.away hn 0 _).away hn 1 _⟩
theorem NewSet.stored {w : World} {n B D : Nat} {T T' : TypeId} {ao ao' : Option Addr} {len cap len' cap' : Nat} {m : Int} (h : NewSet w D (.agg #[.int .i64 (n : Int), .iface T (.slice ao len cap)]) n) (hn : ∀ x, ao = some x → x.block ≠ B) :
    NewSet ((w.setCell ⟨B, 0, none⟩ (.int .i64 m)).setCell ⟨B, 1, none⟩ (.iface T' (.slice ao' len' cap'))) D (.agg #[.int .i64 (n : Int), .iface T (.slice ao len cap)]) n := by
  obtain ⟨T2, ao2, len2, cap2, h1, h2⟩ := h
  have e : ao2 = ao := by
    have := congrArg (fun v => match v with | Value.agg cs => cs.toList | _ => []) h1
    simp at this
    exact this.2.1.symm
  subst e
  refine ⟨T2, ao2, len2, cap2, h1, fun x hx => ?_⟩
  obtain ⟨h3, cs, t, fr, h4, h5⟩ := h2 x hx
  have hne := hn x hx
  exact ⟨h3, cs, t, fr, by rw [Below.heap_setCell _ _ _ _ hne, Below.heap_setCell _ _ _ _ hne]; exact h4, h5⟩
/-- What a call answers that lays a set down. -/
def SetAns (rep : Nat) (bs : List Bool) (w : World) (s : Value) (w' : World) : Prop := SetAt w' s rep bs ∧ NewSet w' w.heap.size s bs.length ∧ Below w.heap.size w w'
/-- A set that was laid in a later world is stored in a block of the caller's own, which lay before. -/
theorem SetAns.stored {rep : Nat} {bs : List Bool} {w w1 w2 : World} {s : Value} {B : Nat} (hb : Below w.heap.size w w1) (hB : w.heap.size ≤ B) (hB1 : B < w1.heap.size) (h : SetAns rep bs w1 s w2) :
    ∃ T ao len cap, s = .agg #[.int .i64 (bs.length : Int), .iface T (.slice ao len cap)] ∧ SetAns rep bs w s ((w2.setCell ⟨B, 0, none⟩ (.int .i64 (bs.length : Int))).setCell ⟨B, 1, none⟩ (.iface T (.slice ao len cap))) := by
  obtain ⟨h1, ⟨T, ao, len, cap, rfl, h2⟩, h3⟩ := h
  have hb2 := hb.trans (h3.mono hb.size)
  exact ⟨T, ao, len, cap, rfl, h1.stored (fun x hx e => by have := (h2 x hx).1; omega), NewSet.stored (NewSet.mono ⟨T, ao, len, cap, rfl, h2⟩ hb.size) (fun x hx e => by have := (h2 x hx).1; omega), (hb2.setCell (p := ⟨B, 0, none⟩) hB _).setCell (p := ⟨B, 1, none⟩) hB _⟩
def jnTbl (B0 n ra : Nat) (a v : Value) (ps : List Int) : List (Nat × V.Ent) :=
  [(2, V.Ent.is v), (3, V.Ent.is (.pointer (some ⟨B0, 0, none⟩))), (14, V.Ent.is (.pointer (some ⟨B0, 0, none⟩))), (15, V.Ent.is (.int .i64 (n : Int))), (16, V.Ent.is (.pointer (some ⟨B0, 0, none⟩))), (17, V.Ent.is (.int .i64 (n : Int))), (18, V.Ent.is v), (19, V.Ent.tells ps), (20, V.Ent.is a), (21, V.Ent.is (.int .i64 (ra : Int)))]
theorem those_tells {cs : List Bool} {v : Value} {w : World} (hn : cs.length ≤ 4096) (h : Asks v w (fun k => cs.getD k false) cs.length) :
    Calls Try.prog 33 #[.int .i64 (cs.length : Int), v] w fun e w' => ∃ v', e = .returned v' ∧ Below w.heap.size w w' ∧ GivesR v' w' (Z.is (Z.ls cs)) := by
  obtain ⟨g, bd, cp, rfl, -⟩ := id h
  refine (those_any _ _ _ _ _).mono ?_
  rintro e w1 ⟨rfl, rfl⟩
  exact ⟨_, rfl, bthen (below_one w _) (below_one _ _), thoseC_gives cs hn g bd cp w h⟩
set_option maxHeartbeats 2000000 in
theorem joined_any (a b v : Value) (ra rb : Nat) (ba bb cs : List Bool) (w : World) (ha : SetAt w a ra ba) (hb : SetAt w b rb bb) (hab : ba.length = bb.length) (hc : cs.length = ba.length) (h1 : 1 ≤ ra) (h3 : ra ≤ 3) (h : Asks v w (fun k => cs.getD k false) cs.length) :
    Calls Try.prog 42 #[a, b, v] w fun e w' => ∃ s, e = .returned (.tuple #[s, .int .i64 0]) ∧ SetAns ra cs w s w' := by
  have hn := ha.1
  obtain ⟨Ta, aoa, la, ca, hae⟩ := SetAt.shape ha
  obtain ⟨Tb, aob, lb, cb, hbe⟩ := SetAt.shape hb
  obtain ⟨g, bd, cp, rfl, -⟩ := id h
  subst hae hbe
  rw [← hab]
  rw [← hc] at hn ⊢
  have HA := hide ha
  have H := hide h
  have HN := hide hn
  rw [← hc] at HA
  obtain ⟨n, hnn⟩ : ∃ n, cs.length = n := ⟨_, rfl⟩
  rw [hnn] at hn HA ⊢
  have HE := hide hnn
  clear ha hb hab hc h hnn
  go_enter Try.func42, Try.ntmps42
  go_wp2_with fail
  have hb3 : Below w.heap.size w (((w.alloc (.cells #[.int .i64 (n : Int), .iface Ta (.slice aoa la ca)] 28)).alloc (.cells #[.int .i64 (n : Int), .iface Tb (.slice aob lb cb)] 28)).alloc (.cells #[.int .i64 0, .nilIface] 28)) := (bthen (below_one w _) (below_one _ _)).alloc (by simp; omega) _
  have hA0 : AtS (((w.alloc (.cells #[.int .i64 (n : Int), .iface Ta (.slice aoa la ca)] 28)).alloc (.cells #[.int .i64 (n : Int), .iface Tb (.slice aob lb cb)] 28)).alloc (.cells #[.int .i64 0, .nilIface] 28)) w.heap.size (.int .i64 (n : Int)) (.iface Ta (.slice aoa la ca)) := ((AtS.new w _ _).below (below_one _ _)).below (below_one _ _)
  have hA6 := AtS.new ((w.alloc (.cells #[.int .i64 (n : Int), .iface Ta (.slice aoa la ca)] 28)).alloc (.cells #[.int .i64 (n : Int), .iface Tb (.slice aob lb cb)] 28)) (.int .i64 0) .nilIface
  obtain ⟨w3, hw3⟩ : ∃ w3, (((w.alloc (.cells #[.int .i64 (n : Int), .iface Ta (.slice aoa la ca)] 28)).alloc (.cells #[.int .i64 (n : Int), .iface Tb (.slice aob lb cb)] 28)).alloc (.cells #[.int .i64 0, .nilIface] 28)) = w3 := ⟨_, rfl⟩
  rw [hw3] at hb3 hA0 hA6 ⊢
  simp only [World.size_alloc] at hA6
  have hsz : w3.heap.size = w.heap.size + 1 + 1 + 1 := by rw [← hw3]; simp
  clear hw3
  refine V.wp_region_tail (w0 := w3) 8 [14, 15, 16, 17, 18, 19, 20, 21] [2, 3] (jnTbl w.heap.size n ra (.agg #[.int .i64 (n : Int), .iface Ta (.slice aoa la ca)]) (.func (.func g) bd cp) (Z.is (Z.ls cs))) (by decide) rfl (by kernel_rfl) (by kernel_rfl) (by kernel_rfl) (Below.refl _ _) ?hb ?hs ?hd
  case hb =>
    intro d hd
    simp only [List.mem_cons, List.not_mem_nil, or_false] at hd
    rcases hd with rfl | rfl <;> rfl
  case hs =>
    refine ⟨?_, ?_, ?_, ?_, ?_, ?_, ?_, ?_, trivial⟩
    · exact V.Step.fieldS (.inl rfl) rfl rfl (by decide) (fun _ h => by cases h; rfl)
    · exact V.Step.ldI (.inl rfl) rfl rfl (by omega) hA0.cells.1 (fun _ h => by cases h; rfl)
    · exact V.Step.fieldS (.inl rfl) rfl rfl (by decide) (fun _ h => by cases h; rfl)
    · exact V.Step.ldI (.inl rfl) rfl rfl (by omega) hA0.cells.1 (fun _ h => by cases h; rfl)
    · exact V.Step.move (.inl rfl) (.inl rfl) (.inl ⟨_, rfl⟩) (fun _ h => by cases h; rfl)
    · refine V.Step.callR2 (.inl rfl) rfl Try.func33 (by kernel_rfl) rfl fun wa v1 v2 hwa e1 e2 => ?_
      obtain rfl : v1 = .int .i64 (n : Int) := e1
      obtain rfl : v2 = .func (.func g) bd cp := e2
      have h9 := those_tells HN.out (H.out.below (hb3.trans (hwa.mono hb3.size)))
      rw [HE.out] at h9
      refine h9.mono ?_
      rintro e wb ⟨v', rfl, hb', hg⟩
      exact ⟨v', rfl, hb', fun d h => by cases h; exact hg⟩
    · exact V.Step.ldS (.inl rfl) rfl rfl hA0 (fun _ h => by cases h; rfl)
    · refine V.Step.callR (.inl rfl) rfl Try.func27 (by kernel_rfl) rfl fun wa v1 hwa e1 => ?_
      obtain rfl : v1 = .agg #[.int .i64 (n : Int), .iface Ta (.slice aoa la ca)] := e1
      refine (rep_any _ ra ba wa (HA.out.below (hb3.trans (hwa.mono hb3.size)))).mono ?_
      rintro e wb ⟨rfl, hb'⟩
      exact ⟨_, rfl, hb', fun d h => by cases h; rfl⟩
  case hd =>
  intro vs wa hwa hk9
  have v14 : vs 14 = .pointer (some ⟨w.heap.size, 0, none⟩) := hk9 0 _ 14 rfl rfl
  have v15 : vs 15 = .int .i64 (n : Int) := hk9 1 _ 15 rfl rfl
  have v16 : vs 16 = .pointer (some ⟨w.heap.size, 0, none⟩) := hk9 2 _ 16 rfl rfl
  have v17 : vs 17 = .int .i64 (n : Int) := hk9 3 _ 17 rfl rfl
  have v18 : vs 18 = .func (.func g) bd cp := hk9 4 _ 18 rfl rfl
  have h19 : GivesR (vs 19) wa (Z.is (Z.ls cs)) := hk9 5 _ 19 rfl rfl
  have v20 : vs 20 = .agg #[.int .i64 (n : Int), .iface Ta (.slice aoa la ca)] := hk9 6 _ 20 rfl rfl
  have v21 : vs 21 = .int .i64 (ra : Int) := hk9 7 _ 21 rfl rfl
  obtain ⟨g9, lb9, n9, v19, -⟩ := id h19
  rw [v19] at h19
  simp only [V.puts, List.foldl_cons, List.foldl_nil, v14, v15, v16, v17, v18, v19, v20, v21, Act.put, List.setIfInBounds_toArray, List.set_cons_zero, List.set_cons_succ]
  clear hk9 v14 v15 v16 v17 v18 v19 v20 v21
  simp only [List.drop]
  have hL := laid_any _ wa cs HN.out ra h1 h3 h19
  rw [HE.out] at hL
  have HL := hide hL
  have HB := hide (hb3.trans (hwa.mono hb3.size))
  have H6 := hide (hA6.below hwa)
  have HSZ := hide (show w.heap.size + 1 + 1 < wa.heap.size by have := hwa.size; omega)
  clear hL hb3 hA0 hA6 hsz hwa h19
  go_wp2_with fail
  refine HL.out.mono ?_
  rintro e w5 ⟨s, rfl, hs⟩
  have h7 := H6.out.below hs.2.2
  obtain ⟨T, ao, len, cap, rfl, hs2⟩ := SetAns.stored (B := w.heap.size + 1 + 1) HB.out (by omega) HSZ.out (by rw [← HE.out] at hs; exact hs)
  rw [HE.out] at hs2 ⊢
  obtain ⟨c0, c1⟩ := h7.cells
  obtain ⟨f0, f1⟩ := h7.thawed
  have H7 := hide h7
  have HS2 := hide hs2
  clear hs hs2 h7
  go_wp2_with fail
  exact bodyPost_ret (results_set1 Try.results42 _ _ (w.heap.size + 1 + 1) rfl (H7.out.set _ _)) rfl ⟨_, rfl, HS2.out⟩
end Go.Proofs.Ytlbchdlokimpfaa

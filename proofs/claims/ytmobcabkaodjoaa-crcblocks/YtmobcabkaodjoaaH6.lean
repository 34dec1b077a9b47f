/- The contract of crc's Block. -/
import Derived.Test.YtmobcabkaodjoaaH5
import Derived.Test.YtmobcabkaodjoaaV5
namespace Go.Proofs.Ytmobcabkaodjoaa
set_option linter.unusedVariables false
open Go.RowKit

theorem Parts.lit3 {w : World} {b : Nat} {p q r : Pt} {t : TypeId} {fr : Nat × Nat} (h : w.heap[b]? = some (.cells #[p.v, q.v, r.v] t fr)) (h1 : Sl w .u8 p.a p.len p.cap (ints p.l)) (h2 : Sl w .u8 q.a q.len q.cap (ints q.l)) (h3 : Sl w .u8 r.a r.len r.cap (ints r.l)) : Parts w b [p, q, r] := by
  refine ⟨lt_of_block h, fun i x hx => ?_⟩
  have hc : ∀ j, w.cell? ⟨b, j, none⟩ = #[p.v, q.v, r.v][j]? := fun j => cell_of_row w b j _ t fr h
  match i, hx with
  | 0, hx => simp at hx; subst hx; exact ⟨by rw [hc]; rfl, h1⟩
  | 1, hx => simp at hx; subst hx; exact ⟨by rw [hc]; rfl, h2⟩
  | 2, hx => simp at hx; subst hx; exact ⟨by rw [hc]; rfl, h3⟩
theorem Parts.lit1 {w : World} {b : Nat} {p : Pt} {t : TypeId} {fr : Nat × Nat} (h : w.heap[b]? = some (.cells #[p.v] t fr)) (h1 : Sl w .u8 p.a p.len p.cap (ints p.l)) : Parts w b [p] := by
  refine ⟨lt_of_block h, fun i x hx => ?_⟩
  have hc : ∀ j, w.cell? ⟨b, j, none⟩ = #[p.v][j]? := fun j => cell_of_row w b j _ t fr h
  match i, hx with
  | 0, hx => simp at hx; subst hx; exact ⟨by rw [hc]; rfl, h1⟩
/-- Bytes that lie in a block of their own. -/
theorem Sl.of_row {w : World} {g : Nat} {l : List Nat} {t : TypeId} {fr : Nat × Nat} (h : w.heap[g]? = some (.cells (B8 l).toArray t fr)) (hm : l.length ≤ maxLen) : Sl w .u8 (some ⟨g, 0, none⟩) l.length l.length (ints l) := by
  refine ⟨ints_length l, Nat.le_refl _, hm, by simp, .inr ⟨g, 0, rfl, lt_of_block h, fun i hi => ?_⟩⟩
  rw [Nat.zero_add, cell_of_row w g i _ t fr h, ints_getD]
  simp [B8, List.getD, hi]
theorem Sl.four_of {w : World} {B : Nat} {n : Nat} {t : TypeId} (h : w.heap[B]? = some (.cells (B8 (K.le4 n)).toArray t (0, 0))) : Sl w .u8 (some ⟨B, 0, none⟩) 4 4 (ints (K.le4 n)) :=
  Sl.of_row h (by rw [K.le4_length]; decide)

/-- What Block's region holds. -/
def entParts (ps : List (Nat × List Nat)) : V.Ent := ⟨fun v w => ∃ g pp, v = .slice (some ⟨g, 0, none⟩) ps.length ps.length ∧ Parts w g pp ∧ pp.map (fun p => (p.len, p.l)) = ps, fun hb ⟨g, pp, h1, h2, h3⟩ => ⟨g, pp, h1, h2.below hb, h3⟩⟩
/-- Bytes in a block of their own, new since w0. -/
def entRow (B : Nat) (l : List Nat) : V.Ent := ⟨fun v w => ∃ g, v = .slice (some ⟨g, 0, none⟩) l.length l.length ∧ w.heap[g]? = some (.cells (B8 l).toArray 5 (0, 0)) ∧ B ≤ g, fun hb ⟨g, h1, h2, h3⟩ => ⟨g, h1, by rw [hb.block g (lt_of_block h2)]; exact h2, h3⟩⟩
theorem cat_of {pp : List Pt} {ps : List (Nat × List Nat)} (h : pp.map (fun p => (p.len, p.l)) = ps) : cat pp = ps.flatMap (·.2) := by
  subst h; simp [cat, List.flatMap_map]

def blockTbl (B : Nat) (w0 : Nat) (l : List Nat) (ao : Option Addr) (len cap : Nat) : List (Nat × V.Ent) :=
  [(0, V.Ent.is (.slice ao len cap)), (3, V.Ent.is (.pointer (some ⟨B, 0, none⟩))), (8, V.Ent.is (.slice ao len cap)), (9, V.Ent.is (.int .i64 (len : Int))), (10, V.Ent.is (.int .u64 (len : Int))),
   (11, V.Ent.sl (E.leb len).length (E.leb len)), (12, V.Ent.is (.slice ao len cap)), (13, V.Ent.is (.slice (some ⟨B, 0, none⟩) 4 4)),
   (14, entParts [((E.leb len).length, E.leb len), (len, l), (4, K.le4 (K.crc l))]), (15, entRow w0 (K.block l)), (2, entRow w0 (K.block l))]

set_option maxHeartbeats 800000 in
/-- Block. -/
theorem block_any (ao : Option Addr) (len cap : Nat) (l : List Nat) (w : World) (h : Sl w .u8 ao len cap (ints l)) (hm : len ≤ 140737488351232) (h256 : ∀ x ∈ l, x < 256) :
    Calls Try.prog 18 #[.slice ao len cap] w fun e w' => ∃ g, e = .returned (.slice (some ⟨g, 0, none⟩) (K.block l).length (K.block l).length) ∧ w'.heap[g]? = some (.cells (B8 (K.block l)).toArray 5 (0, 0)) ∧ w.heap.size ≤ g ∧ Below w.heap.size w w' := by
  obtain ⟨hz, hi⟩ := zero_of_info Try.infoFour
  obtain ⟨Z, hZ⟩ : ∃ Z, four 0 0 0 0 = Z := ⟨_, rfl⟩
  have HZ := hide hZ
  rw [hZ] at hz
  clear hZ
  have HI := hide hi
  clear hi
  have H := hide h
  have H2 := hide h256
  have hll : l.length = len := by rw [← h.1, ints_length]
  have HLL := hide hll
  clear h h256 hll
  go_enter Try.func18, Try.ntmps18
  go_wp2_with fail
  refine (table_any w).mono ?_
  rintro e w1 ⟨C, rfl, hC, hb1⟩
  have HC := hide hC
  clear hC
  go_wp2_with fail
  refine (sum_crc C ao len cap l w1 HC.out (H.out.below hb1) (by omega) H2.out).mono ?_
  rintro e w2 ⟨rfl, hb2⟩
  go_wp2_with fail
  refine (laid_any (K.crc l) w2 (K.crc_lt l)).mono ?_
  rintro e w3 ⟨rfl, hb3⟩
  have HB := hide (hb1.trans ((hb2.mono hb1.size).trans (hb3.mono (Nat.le_trans hb1.size hb2.size))))
  clear hb1 hb2 hb3
  obtain ⟨F, hF⟩ : ∃ F, (B8 (K.le4 (K.crc l))).toArray = F := ⟨_, rfl⟩
  rw [hF]
  have HFF := hide hF
  clear hF
  have HF4 : Hid (F.size = 4 ∧ F.all (·.oneCell') = true ∧ Z.size = 4) := hide (by
    rw [← HFF.out, ← HZ.out, le4_cells _ (K.crc_lt l)]; exact ⟨rfl, four_one _ _ _ _, rfl⟩)
  go_wp2_with (guard_target =~ wpList _ _ _ ((⟨none, .store _ _ _, _, _, _, _⟩ : Oper) :: _) _ _; refine wpList_store_row rfl 50 (.tmp 3) (.tmp 7) rfl w3.heap.size F rfl rfl 50 Z (heap_alloc_new _ _) (by rw [HF4.out.1]; exact HI.out) (by rw [HF4.out.1]; exact HF4.out.2.2) HF4.out.2.1 ?_; rw [World.setRow_alloc_new])
  have HB4 := hide (HB.out.alloc HB.out.size (.cells F 50))
  have HR := hide (heap_alloc_new w3 (.cells F 50))
  obtain ⟨w4, hw4⟩ : ∃ w4, w3.alloc (.cells F 50) = w4 := ⟨_, rfl⟩
  rw [hw4] at HB4 HR ⊢
  clear hw4
  obtain ⟨B, hB⟩ : ∃ B, w3.heap.size = B := ⟨_, rfl⟩
  rw [hB] at HR ⊢
  have HBB := hide (show w.heap.size ≤ B by rw [← hB]; exact HB.out.size)
  clear hB
  have H4 : Hid (Sl w4 .u8 (some ⟨B, 0, none⟩) 4 4 (ints (K.le4 (K.crc l)))) := hide (Sl.four_of (t := 50) (by rw [HFF.out]; exact HR.out))
  have HSL4 := hide (H.out.below (w' := w4) HB4.out)
  refine V.wp_region (w0 := w4) [0, 3] (blockTbl B w.heap.size l ao len cap) (by kernel_rfl) (by kernel_rfl) (Below.refl _ _) ?hb ?hs ?hd
  case hb =>
    intro d hd
    simp only [List.mem_cons, List.not_mem_nil, or_false] at hd
    rcases hd with rfl | rfl <;> rfl
  case hs =>
    refine ⟨?_, ?_, ?_, ?_, ?_, ?_, ?_, ?_, ?_, trivial⟩
    · exact V.Step.move (.inl rfl) (.inl rfl) (.inl ⟨_, rfl⟩) (fun _ h => by cases h; rfl)
    · exact V.Step.len (.inl rfl) rfl (fun v w h => ⟨_, _, h⟩) (fun _ h => by cases h; rfl)
    · exact V.Step.conv (v := .int .u64 (len : Int)) (.inl rfl) rfl rfl (fun w => by simp [go_sem, u64_wrap]; omega) (fun _ h => by cases h; rfl)
    · refine V.Step.callR (.inl rfl) rfl Try.func26 (by decide +kernel) rfl (fun w1 v hw1 hv => ?_)
      obtain rfl : v = .int .u64 (len : Int) := hv
      refine (put_any _ w1 (by omega) (by omega)).mono ?_
      rintro e w9 ⟨v9, rfl, ho9, hb9⟩
      rw [Int.toNat_natCast] at ho9
      obtain ⟨a9, c9, rfl, hs9, _⟩ := Sl.of_bytes ho9
      exact ⟨_, rfl, hb9, fun d h => by cases h; exact ⟨a9, c9, rfl, hs9⟩⟩
    · exact V.Step.move (.inl rfl) (.inl rfl) (.inl ⟨_, rfl⟩) (fun _ h => by cases h; rfl)
    · exact V.Step.arr4 (.inl rfl) rfl rfl (fun _ h => by cases h; rfl)
    · refine V.Step.run (.inl rfl) (fun a w1 hw1 hk => ?_)
      obtain ⟨a1, c1, e1, s1⟩ := hk 11 (by decide)
      have e2 : a.eval (.tmp 12) = .slice ao len cap := hk 12 (by decide)
      have e3 : a.eval (.tmp 13) = .slice (some ⟨B, 0, none⟩) 4 4 := hk 13 (by decide)
      have hb5 := (Below.refl w1.heap.size w1).alloc (Nat.le_refl _) (.cells #[.slice a1 (E.leb len).length c1, .slice ao len cap, .slice (some ⟨B, 0, none⟩) 4 4] 22)
      have hbw := hw1.trans (hb5.mono hw1.size)
      refine ⟨_, _, ?_, hb5, fun d h => by
        cases h
        exact ⟨w1.heap.size, [⟨a1, _, c1, E.leb len⟩, ⟨ao, len, cap, l⟩, ⟨some ⟨B, 0, none⟩, 4, 4, K.le4 (K.crc l)⟩], rfl, Parts.lit3 (heap_alloc_new _ _) (s1.below hb5) (HSL4.out.below hbw) (H4.out.below hbw), rfl⟩⟩
      have := V.run_build3 w1 a1 ao (some ⟨B, 0, none⟩) (E.leb len).length len 4 c1 cap 4
      simp [execOp, e1, e2, e3, this]
    · refine V.Step.callR (.inl rfl) rfl Try.func24 (by decide +kernel) rfl (fun w1 v hw1 hv => ?_)
      obtain ⟨g, pp, rfl, hpp, hmap⟩ := hv
      have hcat := cat_of hmap
      have hlen : pp.length = 3 := by have := congrArg List.length hmap; simpa using this
      have hcl : cat pp = K.block l := by rw [hcat]; simp [K.block, HLL.out]
      have := tog_any g pp 3 w1 hpp (by omega) (by rw [hcl, K.block_length, HLL.out]; have := E.leb_ten len (by omega); omega)
      rw [hlen, hcl] at this
      refine this.mono ?_
      rintro e w9 ⟨rfl, hg9, hb9⟩
      exact ⟨_, rfl, hb9, fun d h => by cases h; exact ⟨_, rfl, hg9, Nat.le_trans HB4.out.size hw1.size⟩⟩
    · exact V.Step.move (.inl rfl) (.inr rfl) (.inl ⟨_, rfl⟩) (fun _ h => by cases h; rfl)
  case hd =>
    intro a1 w1 hw1 hdf hk
    obtain ⟨g, hv, hg, hBg⟩ := hk 8 _ 2 rfl rfl
    have h2 := V.slot_of hv
    go_wp2
    exact bodyPost_ret (v := .slice (some ⟨g, 0, none⟩) (K.block l).length (K.block l).length) (by simp [results, Try.results18, h2, go_sem]) hdf ⟨g, rfl, hg, hBg, HB4.out.trans (hw1.mono HB4.out.size)⟩
end Go.Proofs.Ytmobcabkaodjoaa

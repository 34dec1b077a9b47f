/- The walk of the statement: the order of rows is that of their first unlike values; a row is behind its own beginning. -/
import Derived.Test.YtahpbenobhodnaaAV
import Derived.Test.YtahpbenobhodnaaRW
namespace Go.Proofs.Ytahpbenobhodnaa
set_option linter.unusedVariables false
open Go.RowKit

def rowsTbl2 (B A : Nat) (ao : Option Addr) (len cap : Nat) (l : List Z.V) (k i : Int) (z : ByteArray) : List (Nat × V.Ent) :=
  [(0, V.Ent.is (.slice ao len cap)), (6, V.Ent.is (.pointer (some ⟨A, 0, none⟩))), (14, V.Ent.bareV B), (15, V.Ent.is (.slice ao len cap)), (16, V.Ent.ownV B l), (17, V.Ent.is (.agg #[.int .i64 k, .int .i64 i, .string z])), (18, V.Ent.slV 1 [⟨k, i, z⟩])]
def rowsTbl3 (B A : Nat) (ao : Option Addr) (len cap : Nat) (l : List Z.V) (k i : Int) (z : ByteArray) : List (Nat × V.Ent) :=
  [(0, V.Ent.is (.slice ao len cap)), (7, V.Ent.is (.pointer (some ⟨A, 0, none⟩))), (20, V.Ent.bareV B), (21, V.Ent.is (.slice ao len cap)), (22, V.Ent.ownV B l), (23, V.Ent.is (.agg #[.int .i64 k, .int .i64 i, .string z])), (24, V.Ent.slV 1 [⟨k, i, z⟩])]
/-- Here the walk stands still. -/
structure Held (p : Prop) : Prop where
  out : p
theorem stop_here {p : Prop} (h : Held p) : p := h.out
/-- A value in an old block stays, whatever is appended to a newer row. -/
theorem keepAt {w w' : World} {b B : Nat} {k i : Int} {s : ByteArray} {u : Value} {l : List Z.V} (h : At w b k i s) (ho : OwnV w B u l) (hk : Kept (fun x => u.ownBlock = some x) w w') (hb : b < B) : At w' b k i s := by
  unfold At at *
  rw [hk.block b (lt_of_block h) (fun e => by have := (owns_lt ho e).1; omega)]
  exact h
/-- A newer row stays, whatever is appended to an older one. -/
theorem keepNew {w w' : World} {B : Nat} {v u : Value} {x : List Z.V} (h : OwnV w B v x) (hk : Kept (fun x => u.ownBlock = some x) w w') (hu : ∀ g, u.ownBlock = some g → g < B) : OwnV w' B v x :=
  owns_of_block h fun g hg => hk.block g (owns_lt h hg).2 (fun e => by have := hu g e; have := (owns_lt h hg).1; omega)
/-- So does an older row. -/
theorem keepOwn {w w' : World} {A B : Nat} {v u : Value} {x l : List Z.V} (h : OwnV w A v x) (ho : OwnV w B u l) (hk : Kept (fun x => u.ownBlock = some x) w w') (hb : ∀ g, v.ownBlock = some g → g < B) : OwnV w' A v x :=
  owns_of_block h fun g hg => hk.block g (owns_lt h hg).2 (fun e => by have := (owns_lt ho e).1; have := hb g hg; omega)
set_option maxHeartbeats 8000000 in
theorem valRows_in (w : World) (ao : Option Addr) (len cap : Nat) (l : List Z.V) (h1 : SlV w ao len cap l) (hl : cap ≤ 1048576) (bo : Option Addr) (lb cb : Nat) (m : List Z.V) (h2 : SlV w bo lb cb m) (hl2 : cb ≤ 1048576) (vk vi : Int) (vz : ByteArray) (uk ui : Int) (uz : ByteArray) :
    Calls Try.prog 8 #[.slice ao len cap, .slice bo lb cb, .agg #[.int .i64 vk, .int .i64 vi, .string vz], .agg #[.int .i64 uk, .int .i64 ui, .string uz]] w fun e w' => e = .returned (.bool true) ∧ Below w.heap.size w w' := by
  have hlen : len ≤ 1048576 := Nat.le_trans h1.2.1 hl
  have hlb : lb ≤ 1048576 := Nat.le_trans h2.2.1 hl2
  have HSA := hide h1
  have HSB := hide h2
  have HLL := hide h1.1
  have HLM := hide h2.1
  have HN2 : Hid ((l ++ [(⟨vk, vi, vz⟩ : Z.V)]).length = len + 1) := by show _ = _; rw [List.length_append, h1.1]; rfl
  have HN3 : Hid ((l ++ [(⟨uk, ui, uz⟩ : Z.V)]).length = len + 1) := by show _ = _; rw [List.length_append, h1.1]; rfl
  have HM1 := hide (cr_more ⟨vk, vi, vz⟩ l)
  have HM2 := hide (cr_less ⟨vk, vi, vz⟩ l)
  have HM3 := hide (cr_self l)
  have hpq := cr_anti l m
  have hrg := cr_range m l
  obtain ⟨p, hp⟩ : ∃ p, Z.cr l m = p := ⟨_, rfl⟩
  obtain ⟨q, hq⟩ : ∃ p, Z.cr m l = p := ⟨_, rfl⟩
  rw [hp, hq] at hpq
  rw [hq] at hrg
  have HP := hide hp
  have HQ := hide hq
  have HCF := hide (fun h => cr_first ⟨vk, vi, vz⟩ ⟨uk, ui, uz⟩ m h l)
  subst hpq
  clear hp hq h1 h2
  have bA := below_two w (.cells #[.int .i64 vk, .int .i64 vi, .string vz] 23) (.cells #[.int .i64 uk, .int .i64 ui, .string uz] 23)
  have hA := (At.new w vk vi vz).alloc (.cells #[.int .i64 uk, .int .i64 ui, .string uz] 23)
  have hB := At.new (w.alloc (.cells #[.int .i64 vk, .int .i64 vi, .string vz] 23)) uk ui uz
  simp only [World.size_alloc] at hB
  have b0 := hide bA
  clear bA
  go_enter Try.func8, Try.ntmps8
  go_wp2_with fail
  refine (pshown_any _).mono ?_
  rintro e w1 ⟨rfl, hb⟩
  replace b0 := hide (bthen b0.out hb)
  replace hA := hide (hA.below hb)
  replace hB := hide (hB.below hb)
  clear hb
  have HWW := hide b0.out.size
  have HLA := hide (V.At.lt hA.out)
  have HLB := hide (V.At.lt hB.out)
  have b0' := b0
  go_wp2_with fail
  refine V.wp_region_tail (w0 := w1) 5 [14, 15, 16, 17, 18] [0, 6] (rowsTbl2 w1.heap.size w.heap.size ao len cap l vk vi vz) (by decide) rfl (by kernel_rfl) (by kernel_rfl) (by kernel_rfl) (Below.refl _ _) ?hb ?hs ?hd
  case hb =>
    intro d hd
    simp only [List.mem_cons, List.not_mem_nil, or_false] at hd
    rcases hd with rfl | rfl <;> rfl
  case hs =>
    refine ⟨?_, ?_, ?_, ?_, ?_, trivial⟩
    · exact V.Step.bareV (.inl rfl) rfl (fun _ h => by cases h; rfl)
    · exact V.Step.move (.inl rfl) (.inl rfl) (.inl ⟨_, rfl⟩) (fun _ h => by cases h; rfl)
    · exact V.Step.appV rfl rfl rfl rfl (HSA.out.below b0.out) (by omega) (fun _ h => by cases h; rfl)
    · exact V.Step.loadV (.inl rfl) rfl rfl hA.out (fun _ h => by cases h; rfl)
    · exact V.Step.oneV (.inl rfl) rfl rfl (fun _ h => by cases h; rfl)
  case hd =>
  intro vs w2a hwa hk
  have v15 : vs 15 = .slice ao len cap := hk 1 _ 15 rfl rfl
  have h16 : OwnV w2a w1.heap.size (vs 16) l := hk 2 _ 16 rfl rfl
  have v17 : vs 17 = .agg #[.int .i64 vk, .int .i64 vi, .string vz] := hk 3 _ 17 rfl rfl
  obtain ⟨a18, c18, v18, s18⟩ := hk 4 _ 18 rfl rfl
  obtain ⟨u14, hu14⟩ : ∃ u, vs 14 = u := ⟨_, rfl⟩
  obtain ⟨u16, hu16⟩ : ∃ u, vs 16 = u := ⟨_, rfl⟩
  rw [hu16] at h16
  simp only [V.puts, List.foldl_cons, List.foldl_nil, hu14, v15, hu16, v17, v18, Act.put, List.setIfInBounds_toArray, List.set_cons_zero, List.set_cons_succ]
  replace b0 := hide (bthen b0.out hwa)
  replace h16 := hide h16
  replace s18 := hide s18
  have HWA := hide hwa
  replace hA := hide (hA.out.below HWA.out)
  replace hB := hide (hB.out.below HWA.out)
  clear hk hwa v15 v17 v18 hu14 hu16
  simp only [List.drop]
  go_wp2_with (at_builtin; refine wpList_appV rfl (.tmp 16) (.tmp 18) rfl w1.heap.size u16 l rfl h16.out a18 1 c18 [⟨vk, vi, vz⟩] rfl s18.out (by have := HLL.out; omega) HWA.out.size ?_)
  intro v10 w2 ho10 has _
  have hbx : Below w1.heap.size w2a w2 := has.below HWA.out.size (fun k hk => (owns_lt h16.out hk).1)
  have hby : Below w1.heap.size w1 w2 := HWA.out.trans hbx
  replace b0 := hide (b0'.out.trans (hby.mono b0'.out.size))
  have HSZ2 := hide hby.size
  replace hA := hide (keepAt hA.out h16.out has.1 HLA.out)
  replace hB := hide (keepAt hB.out h16.out has.1 HLB.out)
  obtain ⟨a10, c10, rfl, hs10, hob10⟩ := SlV.of_own ho10
  rw [HN2.out] at hs10 ho10 ⊢
  have HO10 := hide ho10
  have HOB10 := hide hob10
  clear has hbx hby ho10 hob10 hs10 h16 s18 HWA b0'
  replace HLA := hide (V.At.lt hA.out)
  replace HLB := hide (V.At.lt hB.out)
  have HL2 : Hid (∀ g, (Value.slice a10 (len + 1) c10).ownBlock = some g → g < w2.heap.size) := fun g hg => (owns_lt HO10.out hg).2
  have HLT10 : Hid (∀ g, (Value.slice a10 (len + 1) c10).ownBlock = some g → g < w2.heap.size) := fun g hg => (owns_lt HO10.out hg).2
  have b0' := b0
  go_wp2_with fail
  refine V.wp_region_tail (w0 := w2) 5 [20, 21, 22, 23, 24] [0, 7] (rowsTbl3 w2.heap.size (w.heap.size + 1) ao len cap l uk ui uz) (by decide) rfl (by kernel_rfl) (by kernel_rfl) (by kernel_rfl) (Below.refl _ _) ?hb ?hs ?hd
  case hb =>
    intro d hd
    simp only [List.mem_cons, List.not_mem_nil, or_false] at hd
    rcases hd with rfl | rfl <;> rfl
  case hs =>
    refine ⟨?_, ?_, ?_, ?_, ?_, trivial⟩
    · exact V.Step.bareV (.inl rfl) rfl (fun _ h => by cases h; rfl)
    · exact V.Step.move (.inl rfl) (.inl rfl) (.inl ⟨_, rfl⟩) (fun _ h => by cases h; rfl)
    · exact V.Step.appV rfl rfl rfl rfl (HSA.out.below b0.out) (by omega) (fun _ h => by cases h; rfl)
    · exact V.Step.loadV (.inl rfl) rfl rfl hB.out (fun _ h => by cases h; rfl)
    · exact V.Step.oneV (.inl rfl) rfl rfl (fun _ h => by cases h; rfl)
  case hd =>
  intro vs w3a hwa hk
  have v21 : vs 21 = .slice ao len cap := hk 1 _ 21 rfl rfl
  have h22 : OwnV w3a w2.heap.size (vs 22) l := hk 2 _ 22 rfl rfl
  have v23 : vs 23 = .agg #[.int .i64 uk, .int .i64 ui, .string uz] := hk 3 _ 23 rfl rfl
  obtain ⟨a24, c24, v24, s24⟩ := hk 4 _ 24 rfl rfl
  obtain ⟨u20, hu20⟩ : ∃ u, vs 20 = u := ⟨_, rfl⟩
  obtain ⟨u22, hu22⟩ : ∃ u, vs 22 = u := ⟨_, rfl⟩
  rw [hu22] at h22
  simp only [V.puts, List.foldl_cons, List.foldl_nil, hu20, v21, hu22, v23, v24, Act.put, List.setIfInBounds_toArray, List.set_cons_zero, List.set_cons_succ]
  replace b0 := hide (bthen b0.out hwa)
  replace h22 := hide h22
  replace s24 := hide s24
  have HWA := hide hwa
  replace hA := hide (hA.out.below HWA.out)
  replace hB := hide (hB.out.below HWA.out)
  replace HO10 := hide (HO10.out.below HWA.out)
  clear hk hwa v21 v23 v24 hu20 hu22
  simp only [List.drop]
  go_wp2_with (at_builtin; refine wpList_appV rfl (.tmp 22) (.tmp 24) rfl w2.heap.size u22 l rfl h22.out a24 1 c24 [⟨uk, ui, uz⟩] rfl s24.out (by have := HLL.out; omega) HWA.out.size ?_)
  intro v11 w3 ho11 has _
  have hbx : Below w2.heap.size w3a w3 := has.below HWA.out.size (fun k hk => (owns_lt h22.out hk).1)
  have hby : Below w2.heap.size w2 w3 := HWA.out.trans hbx
  replace b0 := hide (b0'.out.trans (hby.mono b0'.out.size))
  have HSZ3 := hide hby.size
  replace hA := hide (keepAt hA.out h22.out has.1 HLA.out)
  replace hB := hide (keepAt hB.out h22.out has.1 HLB.out)
  replace HO10 := hide (keepOwn HO10.out h22.out has.1 HLT10.out)
  obtain ⟨a11, c11, rfl, hs11, hob11⟩ := SlV.of_own ho11
  rw [HN3.out] at hs11 ho11 ⊢
  have HO11 := hide ho11
  have HOB11 := hide hob11
  clear has hbx hby ho11 hob11 hs11 h22 s24 HWA b0'
  have HS3 : Hid (w2.heap.size ≤ w3.heap.size) := HSZ3
  have HS1 : Hid (w1.heap.size ≤ w2.heap.size) := HSZ2
  have HW1 := HWW
  obtain ⟨x1, x2, x3⟩ := hA.out.cells
  obtain ⟨y1, y2, y3⟩ := hB.out.cells
  clear HLA HLB HLT10 hA hB
  have HLT : Hid (∀ g, (Value.slice a10 (len + 1) c10).ownBlock = some g → g < w2.heap.size) := fun g hg => HL2.out g hg
  clear HL2
  go_wp2_with fail
  refine (vcompare_any _ _ _ _ _ _ _).mono ?_
  rintro e w4 ⟨rfl, hb⟩
  replace b0 := hide (bthen b0.out hb)
  replace HO10 := hide (HO10.out.below hb)
  replace HO11 := hide (HO11.out.below hb)
  obtain ⟨c, hcv⟩ : ∃ c, Z.cv ⟨vk, vi, vz⟩ ⟨uk, ui, uz⟩ = c := ⟨_, rfl⟩
  rw [hcv] at HCF ⊢
  have HB4 : Hid (w2.heap.size ≤ w4.heap.size) := Nat.le_trans HS3.out hb.size
  clear hb hcv x1 x2 x3 y1 y2 y3
  by_cases h0 : c = 0
  · subst h0
    obtain ⟨_, _, he, sX, _⟩ := SlV.of_own HO10.out
    rw [HN2.out] at sX he
    injection he with he1 he2 he3
    subst he1; subst he3
    replace sX := hide sX
    clear he2 HO10 HO11 HOB10 HOB11 HCF
    go_wp2_with fail
    refine (vrows_any ao len cap l a10 (len + 1) c10 (l ++ [⟨vk, vi, vz⟩]) _ (HSA.out.below b0.out) (sX.out) (by omega) (by omega)).mono ?_
    rintro e w11 ⟨rfl, hb⟩
    replace b0 := hide (bthen b0.out hb)
    replace sX := hide (sX.out.below hb)
    rw [HM1.out]
    clear hb
    go_wp2_with fail
    refine (vrows_any a10 (len + 1) c10 (l ++ [⟨vk, vi, vz⟩]) ao len cap l _ (sX.out) (HSA.out.below b0.out) (by omega) (by omega)).mono ?_
    rintro e w12 ⟨rfl, hb⟩
    replace b0 := hide (bthen b0.out hb)
    rw [HM2.out]
    clear hb
    go_wp2_with fail
    refine (vrows_any ao len cap l ao len cap l _ (HSA.out.below b0.out) (HSA.out.below b0.out) (by omega) (by omega)).mono ?_
    rintro e w13 ⟨rfl, hb⟩
    replace b0 := hide (bthen b0.out hb)
    rw [HM3.out]
    clear hb
    go_wp2_with fail
    refine (vrows_any ao len cap l bo lb cb m _ (HSA.out.below b0.out) (HSB.out.below b0.out) (by omega) (by omega)).mono ?_
    rintro e w14 ⟨rfl, hb⟩
    replace b0 := hide (bthen b0.out hb)
    rw [HP.out]
    clear hb
    go_wp2_with fail
    refine (vrows_any bo lb cb m ao len cap l _ (HSB.out.below b0.out) (HSA.out.below b0.out) (by omega) (by omega)).mono ?_
    rintro e w15 ⟨rfl, hb⟩
    replace b0 := hide (bthen b0.out hb)
    rw [HQ.out]
    clear hb
    go_wp2
    go_ret
    exact ⟨by simp, b0.out⟩
  · have HCC := hide (HCF.out h0)
    have hne : (c == 0) = false := by simpa using h0
    go_wp2_with (guard_target =~ wpList _ _ _ ((⟨some 34, _, _, _, _, _⟩ : Oper) :: _) _ _; refine stop_here ?_)
    refine ⟨?_⟩
    refine wpList_appVG ?hw (.tmp 32) (.tmp 33) rfl w1.heap.size (.slice a10 (len + 1) c10) (l ++ [⟨vk, vi, vz⟩]) rfl HO10.out bo lb cb m rfl (HSB.out.below b0.out) ?hlim (Nat.le_trans HS1.out HB4.out) ?_
    case hw => simp [Region.wanted, yielded, h0]
    case hlim => rw [HN2.out]; omega
    intro v34 w5 ho34 has hkeep
    have sX := hkeep _ _ (by rw [HN2.out])
    rw [HN2.out] at sX
    have hbx : Below w1.heap.size w4 w5 := has.below (Nat.le_trans HS1.out HB4.out) (fun k hk => (owns_lt HO10.out hk).1)
    replace b0 := hide (b0.out.trans (hbx.mono HW1.out))
    replace HO11 := hide (keepNew HO11.out has.1 HLT.out)
    obtain ⟨a34, c34, rfl, s34, _⟩ := SlV.of_own ho34
    obtain ⟨a11', c11', he, sY, _⟩ := SlV.of_own HO11.out
    rw [HN3.out] at sY he
    injection he with he1 he2 he3
    subst he1; subst he3
    have hn34 : ((l ++ [(⟨vk, vi, vz⟩ : Z.V)]) ++ m).length = len + 1 + lb := by rw [List.length_append, HN2.out, HLM.out]
    rw [hn34] at s34 ⊢
    replace sX := hide sX
    replace sY := hide sY
    replace s34 := hide s34
    clear he2 HO10 HO11 HOB10 HOB11 HCF ho34 has hkeep hbx hn34 HLT
    go_wp2_with fail
    refine (vrows_any a34 (len + 1 + lb) c34 ((l ++ [⟨vk, vi, vz⟩]) ++ m) a11 (len + 1) c11 (l ++ [⟨uk, ui, uz⟩]) _ s34.out sY.out (by omega) (by omega)).mono ?_
    rintro e w6 ⟨rfl, hb⟩
    replace b0 := hide (bthen b0.out hb)
    replace sX := hide (sX.out.below hb)
    rw [List.append_assoc, List.singleton_append, HCC.out]
    clear hb s34 sY
    go_wp2_with fail
    refine (vrows_any ao len cap l a10 (len + 1) c10 (l ++ [⟨vk, vi, vz⟩]) _ (HSA.out.below b0.out) (sX.out) (by omega) (by omega)).mono ?_
    rintro e w11 ⟨rfl, hb⟩
    replace b0 := hide (bthen b0.out hb)
    replace sX := hide (sX.out.below hb)
    rw [HM1.out]
    clear hb
    go_wp2_with fail
    refine (vrows_any a10 (len + 1) c10 (l ++ [⟨vk, vi, vz⟩]) ao len cap l _ (sX.out) (HSA.out.below b0.out) (by omega) (by omega)).mono ?_
    rintro e w12 ⟨rfl, hb⟩
    replace b0 := hide (bthen b0.out hb)
    rw [HM2.out]
    clear hb
    go_wp2_with fail
    refine (vrows_any ao len cap l ao len cap l _ (HSA.out.below b0.out) (HSA.out.below b0.out) (by omega) (by omega)).mono ?_
    rintro e w13 ⟨rfl, hb⟩
    replace b0 := hide (bthen b0.out hb)
    rw [HM3.out]
    clear hb
    go_wp2_with fail
    refine (vrows_any ao len cap l bo lb cb m _ (HSA.out.below b0.out) (HSB.out.below b0.out) (by omega) (by omega)).mono ?_
    rintro e w14 ⟨rfl, hb⟩
    replace b0 := hide (bthen b0.out hb)
    rw [HP.out]
    clear hb
    go_wp2_with fail
    refine (vrows_any bo lb cb m ao len cap l _ (HSB.out.below b0.out) (HSA.out.below b0.out) (by omega) (by omega)).mono ?_
    rintro e w15 ⟨rfl, hb⟩
    replace b0 := hide (bthen b0.out hb)
    rw [HQ.out]
    clear hb
    go_wp2
    go_ret
    exact ⟨by simp, b0.out⟩
theorem valRows_walkU (w : World) (ao : Option Addr) (len cap : Nat) (l : List Z.V) (h1 : SlV w ao len cap l) (hl : cap ≤ 1048576) (bo : Option Addr) (lb cb : Nat) (m : List Z.V) (h2 : SlV w bo lb cb m) (hl2 : cb ≤ 1048576) (vk vi : Int) (vz : ByteArray) (uk ui : Int) (uz : ByteArray) :
    Calls Try.prog 8 #[.slice ao len cap, .slice bo lb cb, .agg #[.int .i64 vk, .int .i64 vi, .string vz], .agg #[.int .i64 uk, .int .i64 ui, .string uz]] w fun e w' => e = .returned (.bool true) ∧ Below w.heap.size w w' :=
  valRows_in w ao len cap l h1 hl bo lb cb m h2 hl2 vk vi vz uk ui uz
end Go.Proofs.Ytahpbenobhodnaa

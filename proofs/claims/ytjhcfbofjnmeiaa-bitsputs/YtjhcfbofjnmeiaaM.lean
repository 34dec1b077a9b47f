/- Plain facts on widths; Width under one name; the reference's Same. -/
import Derived.Test.YtjhcfbofjnmeiaaC5
namespace Go.Proofs.Ytjhcfbofjnmeiaa
set_option linter.unusedVariables false
open Go.RowKit
theorem Try.infoU64 : (Try.prog.info? 32).map (fun i => (i.zero, i.size, i.bytes)) = some (some (.int .u64 0), 1, 8) := by kernel_rfl

theorem bitLen_or (a b : Nat) : bitLen (a ||| b) = max (bitLen a) (bitLen b) := by
  have key : ∀ a b : Nat, bitLen a ≤ bitLen b → bitLen (a ||| b) = bitLen b := by
    intro a b h
    by_cases hb : b = 0
    · subst hb
      have ha : a = 0 := by
        by_cases h0 : a = 0
        · exact h0
        · simp [bitLen, h0] at h
      subst ha; rfl
    · have h1 := (bitLen_spec a).1
      have h2 := bitLen_spec b
      have h3 : a < 2 ^ bitLen b := Nat.lt_of_lt_of_le h1 (Nat.pow_le_pow_right (by omega) h)
      have h4 : a ||| b < 2 ^ bitLen b := Nat.or_lt_two_pow h3 h2.1
      have h5 : b ≤ a ||| b := Nat.right_le_or
      have hne : a ||| b ≠ 0 := by omega
      have hp : 0 < bitLen b := by unfold bitLen; rw [if_neg hb]; omega
      have h6 := h2.2 hb
      have e : (a ||| b).log2 = bitLen b - 1 := (Nat.log2_eq_iff hne).2 ⟨by omega, by rw [show bitLen b - 1 + 1 = bitLen b by omega]; exact h4⟩
      unfold bitLen at e hp ⊢
      rw [if_neg hne, e]
      omega
  rcases Nat.le_total (bitLen a) (bitLen b) with h | h
  · rw [key a b h]; omega
  · rw [Nat.or_comm, key b a h]; omega

theorem bitLen_half (a : Nat) : bitLen (a / 2) = bitLen a - 1 := by
  by_cases h : a / 2 = 0
  · have : a = 0 ∨ a = 1 := by omega
    rcases this with rfl | rfl <;> simp [bitLen]
    decide
  · have := bitLen_shift a 1 (by simpa using h)
    simp at this
    omega

theorem or_half (a b : Nat) : (a ||| b) / 2 = a / 2 ||| b / 2 := by
  have := Nat.shiftRight_or_distrib (a := a) (b := b) (i := 1)
  simpa [Nat.shiftRight_eq_div_pow] using this

theorem foldl_or (l : List Int) (a : Nat) : l.foldl (fun a x => a ||| x.toNat) a = a ||| orAll l := by
  induction l generalizing a with
  | nil => simp [orAll]
  | cons x r ih =>
    simp only [List.foldl_cons, orAll]
    rw [ih, ih, Nat.zero_or, Nat.or_assoc]

theorem orAll_cons (x : Int) (l : List Int) : orAll (x :: l) = x.toNat ||| orAll l := by
  simp only [orAll, List.foldl_cons, Nat.zero_or]
  rw [foldl_or]; rfl

theorem orAll_half (l : List Int) (h : In64 l) : orAll (l.map (· / 2)) = orAll l / 2 := by
  induction l with
  | nil => rfl
  | cons x r ih =>
    have hx := h x (by simp)
    rw [List.map_cons, orAll_cons, orAll_cons, or_half, ih (fun y hy => h y (by simp [hy]))]
    have : (x / 2).toNat = x.toNat / 2 := by omega
    rw [this]

theorem In64.half {l : List Int} (h : In64 l) : In64 (l.map (· / 2)) := by
  intro x hx
  obtain ⟨y, hy, rfl⟩ := List.mem_map.1 hx
  have := h y hy
  show 0 ≤ y / 2 ∧ y / 2 < _
  omega
theorem In64.snoc {l : List Int} (h : In64 l) {x : Int} (h0 : 0 ≤ x) (h1 : x < 18446744073709551616) : In64 (l ++ [x]) := by
  intro y hy
  rcases List.mem_append.1 hy with h' | h'
  · exact h y h'
  · simp only [List.mem_singleton] at h'; subst h'; exact ⟨h0, h1⟩

/-- The width that a list's numbers need, as one number. -/
def wid (l : List Int) : Nat := bitLen (orAll l)
theorem wid_snoc (l : List Int) (x : Int) : wid (l ++ [x]) = max (wid l) (wid [x]) := by
  unfold wid
  rw [orAll_snoc, bitLen_or]
  simp [orAll]
theorem wid_half (l : List Int) (h : In64 l) : wid (l.map (· / 2)) = wid l - 1 := by
  unfold wid
  rw [orAll_half l h, bitLen_half]
theorem bitLen_le (a : Nat) (h : a < 18446744073709551616) : bitLen a ≤ 64 := by
  unfold bitLen
  split
  · omega
  · rename_i h0
    have := (Nat.log2_lt h0).2 (show a < 2 ^ 64 from h)
    omega
theorem wid_le (l : List Int) (h : In64 l) : wid l ≤ 64 := bitLen_le _ (orAll_lt l fun x hx => (h x hx).2)

theorem Sl.one (w : World) (t : TypeId) (k : IntKind) (a : Int) : Sl (w.alloc (.cells #[.int k a] t)) k (some ⟨w.heap.size, 0, none⟩) 1 1 [a] := by
  refine ⟨rfl, Nat.le_refl _, by decide, by simp, .inr ⟨_, _, rfl, by simp, ?_⟩⟩
  intro i hi
  match i, hi with
  | 0, _ => simp

theorem AS.below {w w' : World} {v v' : Value} (h : AS w v w' v') {B : Nat} (hB : B ≤ w.heap.size) (hv : ∀ k, v.ownBlock = some k → B ≤ k) : Below B w w' := h.1.below hB hv

/-- Width, its answer under one name. -/
theorem width_w (ao : Option Addr) (len cap : Nat) (l : List Int) (w : World) (h : Sl w .u64 ao len cap l) (hm : len ≤ 140737488355328) (hin : In64 l) :
    Calls Try.prog 26 #[.slice ao len cap] w fun e w' => e = .returned (.int .i64 ((wid l : Nat) : Int)) ∧ w' = w := width_any ao len cap l w h hm hin

theorem Sl.news1 {w : World} {k : IntKind} (t : TypeId) (a : Int) : ∀ ad, some (⟨w.heap.size, 0, none⟩ : Addr) = some ad → ∀ j u, [Value.int k a][j]? = some u → (w.alloc (.cells #[.int k a] t)).cell? (ad.add j) = some u := by
  intro ad had j u hj
  obtain rfl := Option.some.inj had
  match j, hj with
  | 0, hj => simp at hj; subst hj; simp [Addr.add]

theorem one_oneCell (k : IntKind) (a : Int) : ∀ u ∈ [Value.int k a], u.oneCell' = true := by
  intro u hu; simp at hu; subst hu; rfl


theorem bitLen_le_iff (a k : Nat) : bitLen a ≤ k ↔ a < 2 ^ k := by
  have h := bitLen_spec a
  constructor
  · intro hk; exact Nat.lt_of_lt_of_le h.1 (Nat.pow_le_pow_right (by omega) hk)
  · intro hk
    by_cases h0 : a = 0
    · subst h0; simp [bitLen]
    · have h2 := h.2 h0
      rcases Nat.lt_or_ge k (bitLen a) with hlt | hge
      · have : 2 ^ k ≤ 2 ^ (bitLen a - 1) := Nat.pow_le_pow_right (by omega) (by omega)
        omega
      · exact hge

theorem fit_wid (l : List Int) (k : Nat) (hin : In64 l) : Fit l k ↔ wid l ≤ k := by
  induction l with
  | nil => simp [Fit, wid, orAll, bitLen]
  | cons x r ih =>
    have hx := hin x (by simp)
    have ih' := ih (fun y hy => hin y (by simp [hy]))
    unfold wid at ih' ⊢
    rw [orAll_cons, bitLen_or]
    have h1 : Fit (x :: r) k ↔ x < (2 : Int) ^ k ∧ Fit r k := by simp [Fit]
    have h2 := bitLen_le_iff x.toNat k
    rw [h1, ih', ← pow_int]
    omega

set_option maxHeartbeats 400000 in
theorem same_none (ao bo : Option Addr) (ca cb : Nat) (w : World) :
    Calls Try.prog 25 #[.slice ao 0 ca, .slice bo 0 cb] w fun e w' => e = .returned (.bool true) ∧ Kept (fun _ => False) w w' := by
  go_enter Try.func25, Try.ntmps25
  go_wp2_with fail
  go_loopw [5] (fun i wr => i = .int .i64 0 ∧ wr = w) (fun _ _ => 0)
  case atStart => exact ⟨rfl, rfl⟩
  case round =>
    obtain ⟨rfl, rfl⟩ := hrel
    go_wp2
    go_ret
    exact ⟨rfl, Kept.refl _ _⟩

set_option maxHeartbeats 400000 in
theorem same_some (b1 o1 b2 o2 len ca cb : Nat) (l : List Int) (w : World) (hm : len ≤ 140737488355328) (h1 : b1 < w.heap.size) (h2 : b2 < w.heap.size) (hc1 : ∀ i, i < len → w.cell? ⟨b1, o1 + i, none⟩ = some (.int .u64 (l.getD i 0))) (hc2 : ∀ i, i < len → w.cell? ⟨b2, o2 + i, none⟩ = some (.int .u64 (l.getD i 0))) :
    Calls Try.prog 25 #[.slice (some ⟨b1, o1, none⟩) len ca, .slice (some ⟨b2, o2, none⟩) len cb] w fun e w' => e = .returned (.bool true) ∧ Kept (fun _ => False) w w' := by
  have hb : ((len : Int) != (len : Int)) = false := by simp
  go_enter Try.func25, Try.ntmps25
  go_wp2_with fail
  go_loopw [5] (fun i wr => ∃ k : Nat, k ≤ len ∧ i = .int .i64 k ∧ Kept (fun _ => False) w wr) (fun i _ => len - (intOf i).toNat)
  case atStart => exact ⟨0, Nat.zero_le _, rfl, Kept.refl _ _⟩
  case round =>
    obtain ⟨k, hk, rfl, hkr⟩ := hrel
    by_cases hlt : k < len
    · have e1 : wr.cell? ⟨b1, o1 + k, none⟩ = some (.int .u64 (l.getD k 0)) := by rw [hkr.cell (p := ⟨b1, o1 + k, none⟩) h1 (by simp)]; exact hc1 k hlt
      have e2 : wr.cell? ⟨b2, o2 + k, none⟩ = some (.int .u64 (l.getD k 0)) := by rw [hkr.cell (p := ⟨b2, o2 + k, none⟩) h2 (by simp)]; exact hc2 k hlt
      obtain ⟨x, hxe⟩ : ∃ x, l.getD k 0 = x := ⟨_, rfl⟩
      rw [hxe] at e1 e2
      have hx : (x != x) = false := by simp
      clear hc1 hc2 hxe
      go_wp2
      go_region
      all_goals go_wp2
      all_goals
        go_roundw
        case rel => exact ⟨k + 1, by omega, by go_num, hkr.drew⟩
        case measure => simp [intOf]; omega
    · clear hc1 hc2
      go_wp2
      go_ret
      exact ⟨rfl, hkr⟩

/-- The reference's Same, of two lists that are the same. -/
theorem same_yes (ao bo : Option Addr) (len ca cb : Nat) (l : List Int) (w : World) (h1 : Sl w .u64 ao len ca l) (h2 : Sl w .u64 bo len cb l) (hm : len ≤ 140737488355328) :
    Calls Try.prog 25 #[.slice ao len ca, .slice bo len cb] w fun e w' => e = .returned (.bool true) ∧ Kept (fun _ => False) w w' := by
  by_cases h0 : len = 0
  · subst h0; exact same_none ao bo ca cb w
  · rcases h1.2.2.2.2 with h | ⟨b1, o1, rfl, hb1, hc1⟩
    · omega
    · rcases h2.2.2.2.2 with h | ⟨b2, o2, rfl, hb2, hc2⟩
      · omega
      · exact same_some b1 o1 b2 o2 len ca cb l w hm hb1 hb2 hc1 hc2
end Go.Proofs.Ytjhcfbofjnmeiaa

/- The stable sort of package slices, plain: rows turned round a place (Y.Via, Y.rot), the order of values and then of places (Y.lx), what a merge of two sorted rows leaves. Conditions: none. -/
import Derived.Sort.LotA
import Derived.Test.YtkcpfgjkplailaaProg
import Derived.Shelf.SlSortCmp.KitK
import Derived.Sort.WalkA
import Derived.Sort.WalkB2
import Derived.Sort.WalkB12
import Derived.Deep.LoopGhost
import Derived.Test.YtkcpfgjkplailaaBdU
namespace Go.Proofs.Ytkcpfgjkplailaa
set_option linter.unusedVariables false
open Go.Sort
namespace Y
variable {α : Type} [Inhabited α]
/-- d' is d read by f, within [a, b). -/
def Via (f : Nat → Nat) (a b : Nat) (d d' : Array α) : Prop := PermIn a b d d' ∧ ∀ x, d'[x]! = d[f x]!
def sw (i j x : Nat) : Nat := if x = j then i else if x = i then j else x
def swR (a b n x : Nat) : Nat := if a ≤ x ∧ x < a + n then x - a + b else if b ≤ x ∧ x < b + n then x - b + a else x
def rot (a m b x : Nat) : Nat := if x < a then x else if x < a + (b - m) then x + (m - a) else if x < b then x - (b - m) else x

theorem Via.refl (a b : Nat) (d : Array α) : Via (fun x => x) a b d d := ⟨permIn_refl d a b, fun _ => rfl⟩
theorem Via.trans {f g : Nat → Nat} {a b : Nat} {d d1 d2 : Array α} (h : Via f a b d d1) (k : Via g a b d1 d2) : Via (fun x => f (g x)) a b d d2 :=
  ⟨permIn_trans d d1 d2 a b h.1 k.1, fun x => by rw [k.2, h.2]⟩
theorem Via.congr {f g : Nat → Nat} {a b : Nat} {d d1 : Array α} (h : Via f a b d d1) (e : ∀ x, f x = g x) : Via g a b d d1 := ⟨h.1, fun x => by rw [h.2, e]⟩
theorem Via.mono {f : Nat → Nat} {a b a' b' : Nat} {d d1 : Array α} (h : Via f a b d d1) (ha : a' ≤ a) (hb : b ≤ b') (hs : b' ≤ d.size) : Via f a' b' d d1 :=
  ⟨permIn_mono d d1 a b a' b' ha hb hs h.1, h.2⟩
theorem Via.size {f : Nat → Nat} {a b : Nat} {d d1 : Array α} (h : Via f a b d d1) : d1.size = d.size := h.1.1
theorem via_swp (d : Array α) {a b i j : Nat} (hai : a ≤ i) (hib : i < b) (haj : a ≤ j) (hjb : j < b) (hs : b ≤ d.size) : Via (sw i j) a b d (swp d i j) :=
  ⟨swp_permIn d a b i j hai hib haj hjb hs, fun x => by
    rw [swp_get d (show i < d.size by omega) (show j < d.size by omega) x]
    unfold sw
    by_cases h1 : x = j
    · rw [if_pos h1, if_pos h1]
    · rw [if_neg h1, if_neg h1]
      by_cases h2 : x = i
      · rw [if_pos h2, if_pos h2]
      · rw [if_neg h2, if_neg h2]⟩

/-! exchanges, one behind the other -/
theorem swR_zero (a b x : Nat) : swR a b 0 x = x := by unfold swR; split <;> (try split) <;> omega
theorem swR_step {a b i : Nat} (h : a + i + 1 ≤ b) (x : Nat) : swR a b i (sw (a + i) (b + i) x) = swR a b (i + 1) x := by
  unfold swR sw; (repeat' split) <;> omega
theorem rot_left {m i j : Nat} (hi : i ≤ m) (hj : 0 < j) (hij : j < i) (x : Nat) : swR (m - i) m j (rot (m - (i - j)) m (m + j) x) = rot (m - i) m (m + j) x := by
  unfold swR rot; (repeat' split) <;> omega
theorem rot_right {m i j : Nat} (hi : i ≤ m) (hi0 : 0 < i) (hij : i < j) (x : Nat) : swR (m - i) (m + j - i) i (rot (m - i) m (m + (j - i)) x) = rot (m - i) m (m + j) x := by
  unfold swR rot; (repeat' split) <;> omega
theorem rot_even {m i : Nat} (hi : i ≤ m) (x : Nat) : swR (m - i) m i x = rot (m - i) m (m + i) x := by
  unfold swR rot; (repeat' split) <;> omega
theorem rot_up {a k : Nat} (h : a ≤ k) (x : Nat) : rot a (a + 1) (k + 1) (sw k (k + 1) x) = rot a (a + 1) (k + 2) x := by
  unfold rot sw; (repeat' split) <;> omega
theorem rot_down {k m : Nat} (h0 : 0 < k) (h : k ≤ m) (x : Nat) : rot k m (m + 1) (sw k (k - 1) x) = rot (k - 1) m (m + 1) x := by
  unfold rot sw; (repeat' split) <;> omega
theorem rot_one {a : Nat} (x : Nat) : rot a (a + 1) (a + 1) x = x := by unfold rot; (repeat' split) <;> omega
theorem rot_none {m : Nat} (x : Nat) : rot m m (m + 1) x = x := by unfold rot; (repeat' split) <;> omega
theorem rot_idl {m e : Nat} (x : Nat) : rot m m e x = x := by unfold rot; (repeat' split) <;> omega
theorem rot_idr {s m : Nat} (h : s ≤ m) (x : Nat) : rot s m m x = x := by unfold rot; (repeat' split) <;> omega

/-! values, then places -/
def lx (lt : α → α → Bool) (lab : α → Nat) (x y : α) : Bool := lt x y || (!lt y x && decide (lab x < lab y))
variable {lt : α → α → Bool} {lab : α → Nat}
theorem lx_swo {β : Type} {lt : β → β → Bool} (h : SWO lt) (lab : β → Nat) : SWO (lx lt lab) := by
  refine ⟨fun x => by simp [lx, h.irrefl], fun x y z h1 h2 => ?_, fun x y z h1 h2 => ?_⟩
  · simp only [lx, Bool.or_eq_true, Bool.and_eq_true, Bool.not_eq_true', decide_eq_true_eq] at h1 h2 ⊢
    rcases h1 with h1 | ⟨h1, g1⟩
    · left
      rcases h2 with h2 | ⟨h2, g2⟩
      · exact h.trans x y z h1 h2
      · cases hz : lt x z with
        | true => rfl
        | false =>
          have := h.ntrans x z y hz h2
          rw [h1] at this; exact this.symm
    · rcases h2 with h2 | ⟨h2, g2⟩
      · left
        cases hz : lt x z with
        | true => rfl
        | false =>
          have := h.ntrans y x z h1 hz
          rw [h2] at this; exact this.symm
      · right
        exact ⟨h.ntrans z y x h2 h1, by omega⟩
  · simp only [lx, Bool.or_eq_false_iff, Bool.and_eq_false_iff, Bool.not_eq_false', decide_eq_false_iff_not] at h1 h2 ⊢
    refine ⟨h.ntrans x y z h1.1 h2.1, ?_⟩
    rcases h1.2 with g1 | g1
    · left
      cases hz : lt z x with
      | true => rfl
      | false =>
        have := h.ntrans y z x h2.1 hz
        rw [g1] at this; exact this.symm
    · rcases h2.2 with g2 | g2
      · left
        cases hz : lt z x with
        | true => rfl
        | false =>
          have := h.ntrans z x y hz h1.1
          rw [g2] at this; exact this.symm
      · right; omega
theorem lx_right {β : Type} {lt : β → β → Bool} {lab : β → Nat} {x y : β} (h : lab x < lab y) : lx lt lab y x = lt y x := by
  unfold lx
  rw [decide_eq_false (by omega : ¬ lab y < lab x)]; simp
theorem lx_total {β : Type} {lt : β → β → Bool} {lab : β → Nat} (h : SWO lt) {x y : β} (h1 : lx lt lab x y = false) (h2 : lx lt lab y x = false) : lab x = lab y := by
  simp only [lx, Bool.or_eq_false_iff, Bool.and_eq_false_iff, Bool.not_eq_false', decide_eq_false_iff_not] at h1 h2
  rcases h1.2 with g | g
  · rw [h2.1] at g; cases g
  · rcases h2.2 with k | k
    · rw [h1.1] at k; cases k
    · omega

/-- Each of [a, m) was ahead of each of [m, b): the test tells the order. -/
def Cross (lt : α → α → Bool) (lab : α → Nat) (a m b : Nat) (d : Array α) : Prop := ∀ x y, a ≤ x → x < m → m ≤ y → y < b → lab d[x]! < lab d[y]!
theorem Cross.test {a m b : Nat} {d : Array α} (h : Cross lt lab a m b d) {x y : Nat} (h1 : a ≤ x) (h2 : x < m) (h3 : m ≤ y) (h4 : y < b) : lt d[y]! d[x]! = lx lt lab d[y]! d[x]! := (lx_right (h x y h1 h2 h3 h4)).symm

/-- From a place on all, ahead of it none. -/
structure Found (Q : Nat → Bool) (lo hi s : Nat) : Prop where
  ge : lo ≤ s
  le : s ≤ hi
  lower : ∀ x, lo ≤ x → x < s → Q x = false
  upper : ∀ x, s ≤ x → x < hi → Q x = true

section
variable {a m b : Nat} {d : Array α}
theorem mono1 (hL : SWO (lx lt lab)) (hs : SortedIn (lx lt lab) m b d) (hc : Cross lt lab a m b d) (ham : a < m) {x y : Nat} (h1 : m ≤ x) (h2 : x ≤ y) (h3 : y < b) (h : lt d[y]! d[a]! = true) : lt d[x]! d[a]! = true := by
  rw [hc.test (Nat.le_refl _) ham (by omega) h3] at h
  rw [hc.test (Nat.le_refl _) ham h1 (by omega)]
  by_cases e : x = y
  · subst e; exact h
  · cases hz : lx lt lab d[x]! d[a]! with
    | true => rfl
    | false =>
      have := hL.ntrans _ _ _ (hs x y h1 (by omega) h3) hz
      rw [h] at this; exact this.symm
theorem mono2 (hL : SWO (lx lt lab)) (hs : SortedIn (lx lt lab) a m d) (hc : Cross lt lab a m b d) (hmb : m < b) {x y : Nat} (h1 : a ≤ x) (h2 : x ≤ y) (h3 : y < m) (h : lt d[m]! d[x]! = true) : lt d[m]! d[y]! = true := by
  rw [hc.test h1 (by omega) (Nat.le_refl _) hmb] at h
  rw [hc.test (by omega) h3 (Nat.le_refl _) hmb]
  by_cases e : x = y
  · subst e; exact h
  · cases hz : lx lt lab d[m]! d[y]! with
    | true => rfl
    | false =>
      have := hL.ntrans _ _ _ hz (hs x y h1 (by omega) h3)
      rw [h] at this; exact this.symm
theorem mono3 (hL : SWO (lx lt lab)) (hs : SortedIn (lx lt lab) a m d) (hs2 : SortedIn (lx lt lab) m b d) (hc : Cross lt lab a m b d) {p x y : Nat} (h1 : a ≤ x) (h2 : x ≤ y) (h3 : y < m) (h4 : m + y ≤ p) (h5 : p < b + x) (h : lt d[p - x]! d[x]! = true) : lt d[p - y]! d[y]! = true := by
  rw [hc.test h1 (by omega) (by omega) (by omega)] at h
  rw [hc.test (by omega) h3 (by omega) (by omega)]
  by_cases e : x = y
  · subst e; exact h
  · cases hz : lx lt lab d[p - y]! d[y]! with
    | true => rfl
    | false =>
      have g1 := hs x y h1 (by omega) h3
      have g2 := hs2 (p - y) (p - x) (by omega) (by omega) (by omega)
      have g3 := hL.ntrans _ _ _ g2 hz
      have g4 := hL.ntrans _ _ _ g3 g1
      rw [h] at g4; exact g4.symm

/-- One put into a row behind it. -/
theorem merge1 (hL : SWO (lx lt lab)) (hs2 : SortedIn (lx lt lab) m b d) (hc : Cross lt lab a m b d) (hm : m = a + 1) (hb : b ≤ d.size) {i : Nat} (hf : Found (fun x => !lt d[x]! d[a]!) m b i) {d' : Array α} (hv : Via (rot a m i) a b d d') :
    PermIn a b d d' ∧ SortedIn (lx lt lab) a b d' := by
  obtain ⟨h1, h2, h3, h4⟩ := hf
  refine ⟨hv.1, fun x y hx hxy hy => ?_⟩
  rw [hv.2, hv.2]
  have lo : ∀ z, m ≤ z → z < i → lx lt lab d[z]! d[a]! = true := fun z g1 g2 => by
    rw [← hc.test (Nat.le_refl _) (by omega) g1 (by omega)]; simpa using h3 z g1 g2
  have up : ∀ z, i ≤ z → z < b → lx lt lab d[z]! d[a]! = false := fun z g1 g2 => by
    rw [← hc.test (Nat.le_refl _) (by omega) (by omega) g2]; simpa using h4 z g1 g2
  by_cases hyi : y < i
  · by_cases hy1 : y = i - 1
    · have e1 : rot a m i y = a := by unfold rot; (repeat' split) <;> omega
      have e2 : rot a m i x = x + 1 := by unfold rot; (repeat' split) <;> omega
      rw [e1, e2]
      exact hL.asymmA (lo (x + 1) (by omega) (by omega))
    · have e1 : rot a m i y = y + 1 := by unfold rot; (repeat' split) <;> omega
      have e2 : rot a m i x = x + 1 := by unfold rot; (repeat' split) <;> omega
      rw [e1, e2]
      exact hs2 (x + 1) (y + 1) (by omega) (by omega) (by omega)
  · have e1 : rot a m i y = y := by unfold rot; (repeat' split) <;> omega
    rw [e1]
    by_cases hxi : x < i
    · by_cases hx1 : x = i - 1
      · have e2 : rot a m i x = a := by unfold rot; (repeat' split) <;> omega
        rw [e2]; exact up y (by omega) hy
      · have e2 : rot a m i x = x + 1 := by unfold rot; (repeat' split) <;> omega
        rw [e2]; exact hs2 (x + 1) y (by omega) (by omega) hy
    · have e2 : rot a m i x = x := by unfold rot; (repeat' split) <;> omega
      rw [e2]; exact hs2 x y (by omega) hxy hy

/-- One put into a row ahead of it. -/
theorem merge2 (hL : SWO (lx lt lab)) (hs : SortedIn (lx lt lab) a m d) (hc : Cross lt lab a m b d) (hm : b = m + 1) (hb : b ≤ d.size) {i : Nat} (hf : Found (fun x => lt d[m]! d[x]!) a m i) {d' : Array α} (hv : Via (rot i m (m + 1)) a b d d') :
    PermIn a b d d' ∧ SortedIn (lx lt lab) a b d' := by
  obtain ⟨h1, h2, h3, h4⟩ := hf
  refine ⟨hv.1, fun x y hx hxy hy => ?_⟩
  rw [hv.2, hv.2]
  have lo : ∀ z, a ≤ z → z < i → lx lt lab d[m]! d[z]! = false := fun z g1 g2 => by
    rw [← hc.test g1 (by omega) (Nat.le_refl _) (by omega)]; simpa using h3 z g1 g2
  have up : ∀ z, i ≤ z → z < m → lx lt lab d[m]! d[z]! = true := fun z g1 g2 => by
    rw [← hc.test (by omega) g2 (Nat.le_refl _) (by omega)]; simpa using h4 z g1 g2
  by_cases hxi : x < i
  · have e1 : rot i m (m + 1) x = x := by unfold rot; (repeat' split) <;> omega
    rw [e1]
    by_cases hyi : y < i
    · have e2 : rot i m (m + 1) y = y := by unfold rot; (repeat' split) <;> omega
      rw [e2]; exact hs x y hx hxy (by omega)
    · by_cases hy1 : y = i
      · have e2 : rot i m (m + 1) y = m := by unfold rot; (repeat' split) <;> omega
        rw [e2]; exact lo x hx hxi
      · have e2 : rot i m (m + 1) y = y - 1 := by unfold rot; (repeat' split) <;> omega
        rw [e2]; exact hs x (y - 1) hx (by omega) (by omega)
  · have e2 : rot i m (m + 1) y = y - 1 := by unfold rot; (repeat' split) <;> omega
    rw [e2]
    by_cases hx1 : x = i
    · have e1 : rot i m (m + 1) x = m := by unfold rot; (repeat' split) <;> omega
      rw [e1]; exact hL.asymmA (up (y - 1) (by omega) (by omega))
    · have e1 : rot i m (m + 1) x = x - 1 := by unfold rot; (repeat' split) <;> omega
      rw [e1]; exact hs (x - 1) (y - 1) (by omega) (by omega) (by omega)

/-- What the turn in the middle leaves: two halves, the one below the other. -/
structure Half (lt : α → α → Bool) (lab : α → Nat) (a s mid e b : Nat) (d : Array α) : Prop where
  l1 : SortedIn (lx lt lab) a s d
  l2 : SortedIn (lx lt lab) s mid d
  lc : Cross lt lab a s mid d
  r1 : SortedIn (lx lt lab) mid e d
  r2 : SortedIn (lx lt lab) e b d
  rc : Cross lt lab mid e b d
  two : ∀ x y, a ≤ x → x < mid → mid ≤ y → y < b → lx lt lab d[y]! d[x]! = false

theorem half_of (hL : SWO (lx lt lab)) (hs : SortedIn (lx lt lab) a m d) (hs2 : SortedIn (lx lt lab) m b d) (hc : Cross lt lab a m b d) (ham : a < m) (hmb : m < b) (hb : b ≤ d.size) {mid s e : Nat} (hmid : mid = (a + b) / 2) (he : e + s = mid + m)
    (hf : Found (fun c => lt d[mid + m - 1 - c]! d[c]!) (if m > mid then mid + m - b else a) (if m > mid then mid else m) s) {d' : Array α} (hv : Via (rot s m e) a b d d') : a ≤ s ∧ s ≤ mid ∧ mid ≤ e ∧ e ≤ b ∧ s ≤ m ∧ m ≤ e ∧ Half lt lab a s mid e b d' := by
  obtain ⟨h1, h2, h3, h4⟩ := hf
  have ham' : a < mid := by omega
  have hmb' : mid < b := by omega
  have g1 : a ≤ s := by by_cases h : m > mid <;> simp only [h, if_true, if_false] at h1 h2 <;> omega
  have g2 : s ≤ mid := by by_cases h : m > mid <;> simp only [h, if_true, if_false] at h1 h2 <;> omega
  have g3 : s ≤ m := by by_cases h : m > mid <;> simp only [h, if_true, if_false] at h1 h2 <;> omega
  have g4 : m ≤ e := by omega
  have g5 : mid ≤ e := by omega
  have g6 : e ≤ b := by by_cases h : m > mid <;> simp only [h, if_true, if_false] at h1 h2 <;> omega
  have r0 : ∀ x, a ≤ x → x < s → rot s m e x = x := fun x k1 k2 => by unfold rot; (repeat' split) <;> omega
  have r1 : ∀ x, s ≤ x → x < mid → rot s m e x = x + (m - s) := fun x k1 k2 => by unfold rot; (repeat' split) <;> omega
  have r2 : ∀ x, mid ≤ x → x < e → rot s m e x = x - (e - m) := fun x k1 k2 => by unfold rot; (repeat' split) <;> omega
  have r3 : ∀ x, e ≤ x → x < b → rot s m e x = x := fun x k1 k2 => by unfold rot; (repeat' split) <;> omega
  -- the four pieces held against each other
  have p03 : ∀ x y, a ≤ x → x < s → e ≤ y → y < b → lx lt lab d[y]! d[x]! = false := fun x y k1 k2 k3 k4 => by
    have hlo : (if m > mid then mid + m - b else a) ≤ s - 1 := by
      by_cases h : m > mid <;> simp only [h, if_true, if_false] at h1 h2 ⊢ <;> omega
    have q := h3 (s - 1) hlo (by omega)
    have e1 : mid + m - 1 - (s - 1) = e := by omega
    simp only [e1] at q
    rw [hc.test (by omega) (by omega) g4 (by omega)] at q
    have q2 : lx lt lab d[e]! d[x]! = false := by
      by_cases k : x = s - 1
      · subst k; exact q
      · exact hL.ntrans _ _ _ q (hs x (s - 1) k1 (by omega) (by omega))
    by_cases k : y = e
    · subst k; exact q2
    · exact hL.ntrans _ _ _ (hs2 e y g4 (by omega) k4) q2
  have p12 : ∀ x y, m ≤ x → x < e → s ≤ y → y < m → lx lt lab d[x]! d[y]! = true := fun x y k1 k2 k3 k4 => by
    have hhi : s < (if m > mid then mid else m) := by
      by_cases h : m > mid <;> simp only [h, if_true, if_false] at h1 h2 ⊢ <;> omega
    have q := h4 s (Nat.le_refl _) hhi
    have e1 : mid + m - 1 - s = e - 1 := by omega
    simp only [e1] at q
    rw [hc.test g1 (by omega) (by omega) (by omega)] at q
    have q2 : lx lt lab d[e - 1]! d[y]! = true := by
      by_cases k : y = s
      · subst k; exact q
      · cases hz : lx lt lab d[e - 1]! d[y]! with
        | true => rfl
        | false =>
          have := hL.ntrans _ _ _ hz (hs s y (by omega) (by omega) k4)
          rw [q] at this; exact this.symm
    by_cases k : x = e - 1
    · subst k; exact q2
    · cases hz : lx lt lab d[x]! d[y]! with
      | true => rfl
      | false =>
        have := hL.ntrans _ _ _ (hs2 x (e - 1) k1 (by omega) (by omega)) hz
        rw [q2] at this; exact this.symm
  refine ⟨g1, g2, g5, g6, g3, g4, ⟨fun x y k1 k2 k3 => ?_, fun x y k1 k2 k3 => ?_, fun x y k1 k2 k3 k4 => ?_, fun x y k1 k2 k3 => ?_, fun x y k1 k2 k3 => ?_, fun x y k1 k2 k3 k4 => ?_, fun x y k1 k2 k3 k4 => ?_⟩⟩ <;> rw [hv.2, hv.2]
  · rw [r0 x k1 (by omega), r0 y (by omega) k3]; exact hs x y k1 k2 (by omega)
  · rw [r1 x k1 (by omega), r1 y (by omega) k3]; exact hs2 _ _ (by omega) (by omega) (by omega)
  · rw [r0 x k1 k2, r1 y k3 k4]; exact hc _ _ k1 (by omega) (by omega) (by omega)
  · rw [r2 x k1 (by omega), r2 y (by omega) k3]; exact hs _ _ (by omega) (by omega) (by omega)
  · rw [r3 x k1 (by omega), r3 y (by omega) k3]; exact hs2 _ _ (by omega) k2 k3
  · rw [r2 x k1 k2, r3 y k3 k4]; exact hc _ _ (by omega) (by omega) (by omega) k4
  · by_cases kx : x < s
    · rw [r0 x k1 kx]
      by_cases ky : y < e
      · rw [r2 y k3 ky]; exact hs _ _ k1 (by omega) (by omega)
      · rw [r3 y (by omega) k4]; exact p03 _ _ k1 kx (by omega) k4
    · rw [r1 x (by omega) k2]
      by_cases ky : y < e
      · rw [r2 y k3 ky]; exact hL.asymmA (p12 _ _ (by omega) (by omega) (by omega) (by omega))
      · rw [r3 y (by omega) k4]; exact hs2 _ _ (by omega) (by omega) k4

/-- A half that is sorted already. -/
theorem sorted_none {a' s' b' : Nat} {dd : Array α} (h1 : SortedIn (lx lt lab) a' s' dd) (h2 : SortedIn (lx lt lab) s' b' dd) (h : ¬ (a' < s' ∧ s' < b')) (hs : a' ≤ s') : SortedIn (lx lt lab) a' b' dd := by
  by_cases k : a' < s'
  · intro x y k1 k2 k3; exact h1 x y k1 k2 (by omega)
  · obtain rfl : a' = s' := by omega
    exact h2

/-- Both halves sorted: all is. -/
theorem halves {mid s e : Nat} {d1 d2 d3 : Array α} (hp : PermIn a b d d1) (hb : b ≤ d.size) (ham : a ≤ mid) (hmb : mid ≤ b) (hh : Half lt lab a s mid e b d1) (p2 : PermIn a mid d1 d2) (s2 : SortedIn (lx lt lab) a mid d2) (p3 : PermIn mid b d2 d3) (s3 : SortedIn (lx lt lab) mid b d3) :
    PermIn a b d d3 ∧ SortedIn (lx lt lab) a b d3 := by
  have hb1 : b ≤ d1.size := by rw [hp.1]; exact hb
  have hb2 : b ≤ d2.size := by rw [p2.1]; exact hb1
  refine ⟨permIn_trans _ _ _ a b hp (permIn_trans _ _ _ a b (permIn_mono _ _ a mid a b (Nat.le_refl _) hmb hb1 p2) (permIn_mono _ _ mid b a b ham (Nat.le_refl _) hb2 p3)), fun x y k1 k2 k3 => ?_⟩
  by_cases ky : y < mid
  · rw [p3.2.1 x (Or.inl (by omega)), p3.2.1 y (Or.inl ky)]; exact s2 x y k1 k2 ky
  · by_cases kx : x < mid
    · rw [p3.2.1 x (Or.inl kx)]
      -- y's is one of the upper half of d1, x's one of the lower
      have q1 : ∀ u, mid ≤ u → u < b → lx lt lab d1[u]! d2[x]! = false := fun u u1 u2 =>
        permIn_all d1 d2 a mid (fun z => lx lt lab d1[u]! z = false) (by omega) p2 (fun v v1 v2 => hh.two v u v1 v2 u1 u2) x k1 kx
      have q2 : ∀ u, mid ≤ u → u < b → lx lt lab d2[u]! d2[x]! = false := fun u u1 u2 => by rw [p2.2.1 u (Or.inr u1)]; exact q1 u u1 u2
      exact permIn_all d2 d3 mid b (fun z => lx lt lab z d2[x]! = false) hb2 p3 q2 y (by omega) k3
    · exact s3 x y (by omega) k2 k3
theorem Half.keep {s mid e : Nat} {d1 d2 : Array α} (hh : Half lt lab a s mid e b d1) (p2 : PermIn a mid d1 d2) (hme : mid ≤ e) : SortedIn (lx lt lab) mid e d2 ∧ SortedIn (lx lt lab) e b d2 ∧ Cross lt lab mid e b d2 := by
  refine ⟨fun x y k1 k2 k3 => ?_, fun x y k1 k2 k3 => ?_, fun x y k1 k2 k3 k4 => ?_⟩ <;> rw [p2.2.1 x (Or.inr (by omega)), p2.2.1 y (Or.inr (by omega))]
  · exact hh.r1 x y k1 k2 k3
  · exact hh.r2 x y k1 k2 k3
  · exact hh.rc x y k1 k2 k3 k4
end
end Y
end Go.Proofs.Ytkcpfgjkplailaa
/- slices.swapRangeCmpFunc at rows of values: the two runs are exchanged. Conditions: the runs lie within the row, the one ahead of the other. -/
namespace Go.Proofs.Ytkcpfgjkplailaa
open Go.Shelf Go.RowKit Go.Lib Go.Sort
set_option maxRecDepth 1000000
set_option linter.unusedVariables false
variable {P : Program} {α : Type} [Inhabited α]
/-- The types that the walks meet. -/
structure LayV (P : Program) : Prop where
  mixed : P.follows .mixedOrders = true
  tUnit : P.underlying 0 = some (TypeDesc.tuple #[])
  aUnit : ∀ w, (isAgg 0).run P w = .ok false w
  zUnit : ∀ w, (Go.sizeOf 0).run P w = .ok 1 w
  vUnit : ∀ w, (zeroValue 0).run P w = .ok (Value.tuple #[]) w
  tInt : P.underlying 3 = some (TypeDesc.int IntKind.i64)
  aInt : ∀ w, (isAgg 3).run P w = .ok false w
  zInt : ∀ w, (Go.sizeOf 3).run P w = .ok 1 w
  vInt : ∀ w, (zeroValue 3).run P w = .ok (Value.int IntKind.i64 0) w
  tBool : P.underlying 4 = some (TypeDesc.bool)
  aBool : ∀ w, (isAgg 4).run P w = .ok false w
  zBool : ∀ w, (Go.sizeOf 4).run P w = .ok 1 w
  vBool : ∀ w, (zeroValue 4).run P w = .ok (Value.bool false) w
  tUint : P.underlying 82 = some (TypeDesc.int IntKind.u64)
  aUint : ∀ w, (isAgg 82).run P w = .ok false w
  zUint : ∀ w, (Go.sizeOf 82).run P w = .ok 1 w
  vUint : ∀ w, (zeroValue 82).run P w = .ok (Value.int IntKind.u64 0) w
  tSl : P.underlying 22 = some (TypeDesc.slice 42)
  aSl : ∀ w, (isAgg 22).run P w = .ok false w
  zSl : ∀ w, (Go.sizeOf 22).run P w = .ok 1 w
  vSl : ∀ w, (zeroValue 22).run P w = .ok (Value.slice none 0 0) w
  tFn : P.underlying 69 = some (TypeDesc.func #[42, 42] #[3] false)
  aFn : ∀ w, (isAgg 69).run P w = .ok false w
  zFn : ∀ w, (Go.sizeOf 69).run P w = .ok 1 w
  vFn : ∀ w, (zeroValue 69).run P w = .ok (Value.nilFunc) w
theorem layV : LayV Try.prog where
  mixed := by kernel_rfl
  tUnit := Try.underlying0
  aUnit := Try.isAgg0
  zUnit := Try.sizeOf0
  vUnit := Try.zeroValue0
  tInt := Try.underlying3
  aInt := Try.isAgg3
  zInt := Try.sizeOf3
  vInt := Try.zeroValue3
  tBool := Try.underlying4
  aBool := Try.isAgg4
  zBool := Try.sizeOf4
  vBool := Try.zeroValue4
  tUint := Try.underlying82
  aUint := Try.isAgg82
  zUint := Try.sizeOf82
  vUint := Try.zeroValue82
  tSl := Try.underlying22
  aSl := Try.isAgg22
  zSl := Try.sizeOf22
  vSl := Try.zeroValue22
  tFn := Try.underlying69
  aFn := Try.isAgg69
  zFn := Try.sizeOf69
  vFn := Try.zeroValue69
end Go.Proofs.Ytkcpfgjkplailaa
/- slices.rotateCmpFunc at rows of values: the two runs beside each other change places. Conditions: both have something, and lie within the row. -/
namespace Go.Proofs.Ytkcpfgjkplailaa
open Go.Shelf Go.RowKit Go.Lib Go.Sort
set_option maxRecDepth 1000000
set_option linter.unusedVariables false
variable {P : Program} {α : Type} [Inhabited α]
end Go.Proofs.Ytkcpfgjkplailaa
/- The stable sort of package slices, plain: blocks of a row (Y.Bl), what an insertion sort leaves of labelled rows, and what is left when one block is all. Conditions: none. -/
namespace Go.Proofs.Ytkcpfgjkplailaa
set_option linter.unusedVariables false
open Go.Sort
namespace Y
variable {α : Type} [Inhabited α] {lt : α → α → Bool} {lab : α → Nat}
/-- Labels rise. -/
def Asc (lab : α → Nat) (a b : Nat) (d : Array α) : Prop := ∀ x y, a ≤ x → x < y → y < b → lab d[x]! < lab d[y]!
/-- What moves has the greatest label of [a, i]. -/
def Top (lab : α → Nat) (a j i : Nat) (d : Array α) : Prop := ∀ q, a ≤ q → q ≤ i → q ≠ j → lab d[q]! < lab d[j]!
theorem Top.test {a j i : Nat} {d : Array α} (h : Top lab a (j + 1) i d) (haj : a ≤ j) (hji : j + 1 ≤ i) : lx lt lab d[j + 1]! d[j]! = lt d[j + 1]! d[j]! := lx_right (h j haj (by omega) (by omega))
theorem Top.step {a j i : Nat} {d : Array α} (h : Top lab a (j + 1) i d) (haj : a ≤ j) (hji : j + 1 ≤ i) (hsz : i < d.size) : Top lab a j i (swp d (j + 1) j) := by
  intro q h1 h2 h3
  have g := swp_get d (show j + 1 < d.size by omega) (show j < d.size by omega)
  rw [g, g, if_neg h3, if_pos rfl]
  by_cases hq : q = j + 1
  · rw [if_pos hq]; exact h j haj (by omega) (by omega)
  · rw [if_neg hq]; exact h q h1 h2 hq
theorem top_start {a i b : Nat} {d dk : Array α} (hasc : Asc lab a b d) (hp : PermIn a i d dk) (hib : i < b) (hai : a < i) (hb : b ≤ d.size) : Top lab a i i dk := by
  intro q h1 h2 h3
  have e : dk[i]! = d[i]! := hp.2.1 i (Or.inr (Nat.le_refl _))
  rw [e]
  exact permIn_all d dk a i (fun z => lab z < lab d[i]!) (by omega) hp (fun x x1 x2 => hasc x i x1 x2 hib) q h1 (by omega)
theorem ins_start {a i : Nat} {d : Array α} (h : SortedIn (lx lt lab) a i d) : Ins (lx lt lab) a i i d := ⟨fun p q hap hpq hqi _ hq => h p q hap hpq (by omega), fun q h1 h2 => by omega⟩

/-- Sorted in blocks of s, between lo and hi; labels stay in their block. -/
structure Bl (lt : α → α → Bool) (lab : α → Nat) (s lo hi : Nat) (d : Array α) : Prop where
  srt : ∀ i j, lo ≤ i → i < j → j < hi → i / s = j / s → lx lt lab d[j]! d[i]! = false
  lb : ∀ i, lo ≤ i → i < hi → lab d[i]! / s = i / s
theorem Bl.none (s lo : Nat) (d : Array α) : Bl lt lab s lo lo d := ⟨fun i j h1 h2 h3 => by omega, fun i h1 h2 => by omega⟩
theorem div_in {s q i : Nat} (h1 : q * s ≤ i) (h2 : i < q * s + s) : i / s = q := by
  have hs : 0 < s := by omega
  exact Nat.div_eq_of_lt_le h1 (by rw [Nat.add_mul, Nat.one_mul]; exact h2)
theorem Bl.join {s lo hi q : Nat} {d : Array α} (h1 : Bl lt lab s lo (q * s) d) (h2 : Bl lt lab s (q * s) hi d) (hs : 0 < s) : Bl lt lab s lo hi d := by
  refine ⟨fun i j k1 k2 k3 k4 => ?_, fun i k1 k2 => ?_⟩
  · by_cases hj : j < q * s
    · exact h1.srt i j k1 k2 hj k4
    · by_cases hi' : i < q * s
      · exfalso
        have e1 : i / s < q := (Nat.div_lt_iff_lt_mul hs).2 hi'
        have e2 : q ≤ j / s := (Nat.le_div_iff_mul_le hs).2 (by omega)
        omega
      · exact h2.srt i j (by omega) k2 k3 k4
  · by_cases hi' : i < q * s
    · exact h1.lb i k1 hi'
    · exact h2.lb i (by omega) k2
theorem Bl.keep {s lo hi a b : Nat} {d d' : Array α} (h : Bl lt lab s lo hi d) (hp : PermIn a b d d') (hd : hi ≤ a ∨ b ≤ lo) : Bl lt lab s lo hi d' := by
  refine ⟨fun i j k1 k2 k3 k4 => ?_, fun i k1 k2 => ?_⟩
  · rw [hp.2.1 i (by omega), hp.2.1 j (by omega)]; exact h.srt i j k1 k2 k3 k4
  · rw [hp.2.1 i (by omega)]; exact h.lb i k1 k2
theorem Bl.cut {s lo hi hi' lo' : Nat} {d : Array α} (h : Bl lt lab s lo hi d) (h1 : lo ≤ lo') (h2 : hi' ≤ hi) : Bl lt lab s lo' hi' d :=
  ⟨fun i j k1 k2 k3 k4 => h.srt i j (by omega) k2 (by omega) k4, fun i k1 k2 => h.lb i (by omega) (by omega)⟩
/-- A block that was sorted. -/
theorem bl_block {s q b : Nat} {d d' : Array α} (hb : b ≤ q * s + s) (hbs : b ≤ d.size) (hp : PermIn (q * s) b d d') (hs : SortedIn (lx lt lab) (q * s) b d') (hl : ∀ i, q * s ≤ i → i < b → lab d[i]! / s = q) : Bl lt lab s (q * s) b d' := by
  refine ⟨fun i j k1 k2 k3 _ => hs i j k1 k2 k3, fun i k1 k2 => ?_⟩
  rw [div_in k1 (by omega)]
  exact permIn_all d d' (q * s) b (fun z => lab z / s = q) hbs hp hl i k1 k2
/-! What a merge asks. -/
theorem bl_left {s q n : Nat} {d : Array α} (h : Bl lt lab s (q * (2 * s)) n d) (hn : q * (2 * s) + s ≤ n) : SortedIn (lx lt lab) (q * (2 * s)) (q * (2 * s) + s) d := by
  intro i j k1 k2 k3
  have e : q * (2 * s) = (2 * q) * s := by rw [Nat.mul_comm 2 q, Nat.mul_assoc]
  exact h.srt i j k1 k2 (by omega) (by rw [div_in (q := 2 * q) (by omega) (by omega), div_in (q := 2 * q) (by omega) (by omega)])
theorem bl_right {s q b n : Nat} {d : Array α} (h : Bl lt lab s (q * (2 * s)) n d) (hb : b ≤ q * (2 * s) + 2 * s) (hbn : b ≤ n) : SortedIn (lx lt lab) (q * (2 * s) + s) b d := by
  intro i j k1 k2 k3
  have e : q * (2 * s) + s = (2 * q + 1) * s := by rw [Nat.add_mul, Nat.mul_comm 2 q, Nat.mul_assoc, Nat.one_mul]
  exact h.srt i j (by omega) k2 (by omega) (by rw [div_in (q := 2 * q + 1) (by omega) (by omega), div_in (q := 2 * q + 1) (by omega) (by omega)])
theorem bl_cross {s q b n : Nat} {d : Array α} (h : Bl lt lab s (q * (2 * s)) n d) (hs : 0 < s) (hb : b ≤ q * (2 * s) + 2 * s) (hbn : b ≤ n) : Cross lt lab (q * (2 * s)) (q * (2 * s) + s) b d := by
  intro x y k1 k2 k3 k4
  have e : q * (2 * s) = (2 * q) * s := by rw [Nat.mul_comm 2 q, Nat.mul_assoc]
  have e2 : (2 * q + 1) * s = (2 * q) * s + s := by rw [Nat.add_mul, Nat.one_mul]
  have l1 := h.lb x k1 (by omega)
  have l2 := h.lb y (by omega) (by omega)
  rw [div_in (q := 2 * q) (i := x) (by omega) (by omega)] at l1
  rw [div_in (q := 2 * q + 1) (i := y) (by omega) (by omega)] at l2
  have g1 : lab d[x]! < (2 * q + 1) * s := (Nat.div_lt_iff_lt_mul hs).1 (by omega)
  have g2 : (2 * q + 1) * s ≤ lab d[y]! := (Nat.le_div_iff_mul_le hs).1 (by omega)
  omega
theorem half_div (x s : Nat) : x / (2 * s) = x / s / 2 := by rw [Nat.mul_comm, Nat.div_div_eq_div_mul]
/-- A merge done. -/
theorem bl_merged {s q b n : Nat} {d d' : Array α} (h : Bl lt lab s (q * (2 * s)) n d) (hs : 0 < s) (hb : b ≤ q * (2 * s) + 2 * s) (hbn : b ≤ n) (hbs : b ≤ d.size) (hp : PermIn (q * (2 * s)) b d d') (hst : SortedIn (lx lt lab) (q * (2 * s)) b d') : Bl lt lab (2 * s) (q * (2 * s)) b d' :=
  bl_block hb hbs hp hst fun i k1 k2 => by
    rw [half_div, h.lb i k1 (by omega), ← half_div]; exact div_in k1 (by omega)
/-- A last block that has no fellow. -/
theorem bl_lone {s q n : Nat} {d : Array α} (h : Bl lt lab s (q * (2 * s)) n d) (hn : n ≤ q * (2 * s) + s) : Bl lt lab (2 * s) (q * (2 * s)) n d := by
  have e : q * (2 * s) = (2 * q) * s := by rw [Nat.mul_comm 2 q, Nat.mul_assoc]
  refine ⟨fun i j k1 k2 k3 _ => h.srt i j k1 k2 k3 (by rw [div_in (q := 2 * q) (by omega) (by omega), div_in (q := 2 * q) (by omega) (by omega)]), fun i k1 k2 => by rw [half_div, h.lb i k1 k2, ← half_div]⟩
/-- One block is all. -/
theorem bl_all {s n : Nat} {d : Array α} (h : Bl lt lab s 0 n d) (hn : n ≤ s) : SortedIn (lx lt lab) 0 n d := fun i j k1 k2 k3 => h.srt i j k1 k2 k3 (by rw [Nat.div_eq_of_lt (by omega), Nat.div_eq_of_lt (by omega)])
end Y
end Go.Proofs.Ytkcpfgjkplailaa
/- slices.insertionSortCmpFunc at rows of values whose labels rise: sorted by value and then by label. Conditions: within the row. -/
namespace Go.Proofs.Ytkcpfgjkplailaa
open Go.Shelf Go.RowKit Go.Lib Go.Sort
set_option maxRecDepth 1000000
set_option linter.unusedVariables false
variable {P : Program} {α : Type} [Inhabited α]
end Go.Proofs.Ytkcpfgjkplailaa
/- slices.symMergeCmpFunc at rows of values, one ahead of a sorted run. Conditions: sorted, by value and then by place. -/
namespace Go.Proofs.Ytkcpfgjkplailaa
open Go.Shelf Go.RowKit Go.Lib Go.Sort
set_option maxRecDepth 1000000
set_option linter.unusedVariables false
variable {P : Program} {α : Type} [Inhabited α]
end Go.Proofs.Ytkcpfgjkplailaa
/- slices.symMergeCmpFunc at rows of values, one behind a sorted run. Conditions: sorted, by value and then by place. -/
namespace Go.Proofs.Ytkcpfgjkplailaa
open Go.Shelf Go.RowKit Go.Lib Go.Sort
set_option maxRecDepth 1000000
set_option linter.unusedVariables false
variable {P : Program} {α : Type} [Inhabited α]
end Go.Proofs.Ytkcpfgjkplailaa
/- slices.symMergeCmpFunc at rows of values, the middle within the first run. Conditions: sorted, by value and then by place. -/
namespace Go.Proofs.Ytkcpfgjkplailaa
open Go.Shelf Go.RowKit Go.Lib Go.Sort
set_option maxRecDepth 1000000
set_option linter.unusedVariables false
variable {P : Program} {α : Type} [Inhabited α]
end Go.Proofs.Ytkcpfgjkplailaa
/- slices.symMergeCmpFunc at rows of values, the middle within the second run. Conditions: sorted, by value and then by place. -/
namespace Go.Proofs.Ytkcpfgjkplailaa
open Go.Shelf Go.RowKit Go.Lib Go.Sort
set_option maxRecDepth 1000000
set_option linter.unusedVariables false
variable {P : Program} {α : Type} [Inhabited α]
end Go.Proofs.Ytkcpfgjkplailaa
/- slices.symMergeCmpFunc at rows of values: two sorted runs beside each other become one. Conditions: both have something and are sorted, by value and then by place. -/
namespace Go.Proofs.Ytkcpfgjkplailaa
open Go.Shelf Go.RowKit Go.Lib Go.Sort
set_option maxRecDepth 1000000
set_option linter.unusedVariables false
variable {P : Program} {α : Type} [Inhabited α]
end Go.Proofs.Ytkcpfgjkplailaa
/- slices.stableCmpFunc and slices.SortStableFunc at rows of values: sorted by value and then by place. Conditions: labels are places; fewer than 2^60. -/
namespace Go.Proofs.Ytkcpfgjkplailaa
open Go.Shelf Go.RowKit Go.Lib Go.Sort
set_option maxRecDepth 1000000
set_option linter.unusedVariables false
variable {P : Program} {α : Type} [Inhabited α]
end Go.Proofs.Ytkcpfgjkplailaa

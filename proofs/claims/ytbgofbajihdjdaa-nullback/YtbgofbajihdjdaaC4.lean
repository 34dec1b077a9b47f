/- The contract of Pack. -/
import Derived.Test.YtbgofbajihdjdaaC3
namespace Go.Proofs.Ytbgofbajihdjdaa
set_option linter.unusedVariables false
open Go.RowKit

/-- All numbers' bits, one behind the other. -/
def bitsAll (l : List Int) (k : Nat) : List Bool := l.flatMap fun x => A.bitsOf x.toNat k
theorem bitsAll_snoc (l : List Int) (x : Int) (k : Nat) : bitsAll (l ++ [x]) k = bitsAll l k ++ A.bitsOf x.toNat k := by simp [bitsAll]
theorem bitsAll_length (l : List Int) (k : Nat) : (bitsAll l k).length = l.length * k := by
  induction l with
  | nil => simp [bitsAll]
  | cons x r ih => simp only [bitsAll, List.flatMap_cons, List.length_append, A.bitsOf_length, List.length_cons] at ih ⊢; rw [ih, Nat.succ_mul]; omega
theorem bitsAll_le (l : List Int) (k j : Nat) (hk : k ≤ 64) : (bitsAll (l.take j) k).length ≤ l.length * 64 := by
  rw [bitsAll_length]
  exact Nat.mul_le_mul (List.length_take_le' _ _) hk

/-- Each number is below 2 to the width. -/
def Fit (l : List Int) (k : Nat) : Prop := ∀ x ∈ l, x < (2 : Int) ^ k

theorem Fit.snoc {l : List Int} {k : Nat} {j : Nat} (h : Fit (l.take j) k) (hj : j < l.length) (hx : l.getD j 0 < (2 : Int) ^ k) : Fit (l.take (j + 1)) k := by
  rw [take_snocD l j hj]
  intro x hx'
  rcases List.mem_append.1 hx' with h1 | h1
  · exact h x h1
  · simp only [List.mem_singleton] at h1; subst h1; exact hx

/-- A new Writer. -/
theorem Wr.fresh (w : World) : Wr (w.alloc (.cells #[.slice none 0 0, .int .i64 0] 73)) w.heap.size (.slice none 0 0) [] :=
  ⟨heap_alloc_new w _, World.ownsRow_nil _ _ _ _⟩

theorem WS.below {w w' : World} {v' : Value} (o : Obj) (h : WS w.heap.size (w.alloc o) (.slice none 0 0) w' v') : Below w.heap.size w w' := by
  have h1 := ((Kept.refl (fun k => w.heap.size ≤ k) w).alloc o).trans' h.1 (by
    rintro x (rfl | hx)
    · exact .inl (Nat.le_refl _)
    · simp [Value.ownBlock] at hx)
  exact h1.below (Nat.le_refl _) (fun k hk => hk)

set_option maxHeartbeats 400000 in
theorem pack_arg (ao : Option Addr) (len cap : Nat) (k : Int) (w : World) (h : k < 0 ∨ 64 < k) :
    Calls Try.prog 27 #[.slice ao len cap, .int .i64 k] w fun e w' => e = .returned (.tuple #[.slice none 0 0, .int .i64 1]) ∧ w' = w := by
  go_enter Try.func27, Try.ntmps27
  go_wp2_with (go_at_call 31; refine (may_no _ _ h).mono ?_; rintro e w' ⟨rfl, rfl⟩)
  go_ret2
  exact ⟨rfl, rfl⟩

set_option maxHeartbeats 400000 in
theorem pack_some (b off len cap : Nat) (l : List Int) (k : Nat) (w : World) (hl : l.length = len) (hm : len * 64 + 64 < 1099511627776) (hb : b < w.heap.size) (hc : ∀ i, i < len → w.cell? ⟨b, off + i, none⟩ = some (.int .u64 (l.getD i 0))) (hin : In64 l) (hk : k ≤ 64) :
    Calls Try.prog 27 #[.slice (some ⟨b, off, none⟩) len cap, .int .i64 k] w fun e w' =>
      (Fit l k ∧ ∃ v', e = .returned (.tuple #[v', .int .i64 0]) ∧ w'.ownsRow w.heap.size 5 1 v' (A.bytesOf (bitsAll l k)).length (B8 (A.bytesOf (bitsAll l k))) ∧ Below w.heap.size w w') ∨
      (¬ Fit l k ∧ e = .returned (.tuple #[.slice none 0 0, .int .i64 1]) ∧ Below w.heap.size w w') := by
  have HI := hide hin
  clear hin
  go_enter Try.func27, Try.ntmps27
  go_wp2_with (go_at_call 31; refine (may_yes _ _ (by omega) (by omega)).mono ?_; rintro e w' ⟨rfl, rfl⟩)
  go_loopw [17] (fun i wr => ∃ j : Nat, j ≤ len ∧ i = .int .i64 j ∧ Fit (l.take j) k ∧ ∃ v1, Wr wr w'.heap.size v1 (bitsAll (l.take j) k) ∧ WS w'.heap.size (w'.alloc (.cells #[.slice none 0 0, .int .i64 0] 73)) (.slice none 0 0) wr v1) (fun i _ => len - (intOf i).toNat)
  case atStart => exact ⟨0, Nat.zero_le _, rfl, by intro x hx; simp at hx, _, Wr.fresh w', WS.refl _ _ _⟩
  case round =>
    obtain ⟨j, hj, rfl, hfit, v1, hw1, hs1⟩ := hrel
    have hbel := WS.below _ hs1
    have hbl := bitsAll_le l k j hk
    by_cases hlt : j < len
    · have hck : wr.cell? ⟨b, off + j, none⟩ = some (.int .u64 (l.getD j 0)) := by rw [hbel.cell (p := ⟨b, off + j, none⟩) hb]; exact hc j hlt
      obtain ⟨h0, h1⟩ := HI.out.getD j
      have HT := hide (take_snocD l j (by omega))
      have HF : Hid (l.getD j 0 < (2 : Int) ^ k → Fit (l.take (j + 1)) k) := fun hx => hfit.snoc (by omega) hx
      have HM : Hid (l.getD j 0 ∈ l) := by have : l.getD j 0 = l[j] := by simp [List.getD, show j < l.length by omega]
                                           show l.getD j 0 ∈ l
                                           rw [this]; exact List.getElem_mem _
      have HS := hide hs1
      have HB := hide hbel
      obtain ⟨x, hxe⟩ : ∃ x, l.getD j 0 = x := ⟨_, rfl⟩
      rw [hxe] at hck h0 h1 HT HF HM
      clear hc hfit hs1 hbel hxe
      by_cases hx : x < (2 : Int) ^ k
      · have HX := hide hx
        clear hx
        go_wp2_with fail
        refine (put_yes _ v1 _ x k wr hw1 (by omega) h0 HX.out h1 hk).mono ?_
        rintro e w2 ⟨rfl, v2, hw2, hs2⟩
        go_wp2
        go_roundw
        case rel => exact ⟨j + 1, by omega, by go_num, HF.out HX.out, v2, by rw [HT.out, bitsAll_snoc]; exact hw2, HS.out.trans hs2⟩
        case measure => simp [intOf]; omega
      · have HX := hide (Int.not_lt.1 hx)
        clear hx
        go_wp2_with fail
        refine (put_no _ x k wr h0 h1 (.inr (.inr (by rw [Int.toNat_natCast]; exact HX.out)))).mono ?_
        rintro e w2 ⟨rfl, rfl⟩
        go_wp2
        go_ret2
        exact .inr ⟨fun hf => Int.not_lt.2 HX.out (hf x HM.out), rfl, HB.out⟩
    · have hjl : j = len := by omega
      subst hjl
      rw [List.take_of_length_le (by omega)] at hw1 hfit
      rw [List.take_of_length_le (by omega)] at hbl
      have HF := hide hfit
      have HB := hide hbel
      clear hfit hbel hs1 hc
      go_wp2_with fail
      refine (bytes_any _ v1 _ wr hw1 (by omega)).mono ?_
      rintro e w2 ⟨v2, rfl, ho2, hb2⟩
      go_wp2
      go_ret2
      have hs := HB.out.size
      exact .inl ⟨HF.out, v2, rfl, owns_base ho2 fun g hg => by have := (owns_lt ho2 hg).1; omega, HB.out.trans (hb2.mono hs)⟩

set_option maxHeartbeats 400000 in
theorem pack_none (ao : Option Addr) (cap : Nat) (k : Nat) (w : World) (hk : k ≤ 64) :
    Calls Try.prog 27 #[.slice ao 0 cap, .int .i64 k] w fun e w' =>
      ∃ v', e = .returned (.tuple #[v', .int .i64 0]) ∧ w'.ownsRow w.heap.size 5 1 v' 0 [] ∧ Below w.heap.size w w' := by
  go_enter Try.func27, Try.ntmps27
  go_wp2_with (go_at_call 31; refine (may_yes _ _ (by omega) (by omega)).mono ?_; rintro e w' ⟨rfl, rfl⟩)
  go_loopw [17] (fun i wr => i = .int .i64 0 ∧ wr = w'.alloc (.cells #[.slice none 0 0, .int .i64 0] 73)) (fun _ _ => 0)
  case atStart => exact ⟨rfl, rfl⟩
  case round =>
    obtain ⟨rfl, rfl⟩ := hrel
    go_wp2_with fail
    refine (bytes_any _ _ _ _ (Wr.fresh w') (by simp)).mono ?_
    rintro e w2 ⟨v2, rfl, ho2, hb2⟩
    go_wp2
    go_ret2
    exact ⟨v2, rfl, owns_base ho2 fun g hg => by have := (owns_lt ho2 hg).1; simp at this; omega, ((Below.refl _ _).alloc (Nat.le_refl _) _).trans (hb2.mono (by simp))⟩

/-- Pack: of whatever numbers, with a width that may be. -/
theorem pack_any (ao : Option Addr) (len cap : Nat) (l : List Int) (k : Nat) (w : World) (h : Sl w .u64 ao len cap l) (hm : len * 64 + 64 < 1099511627776) (hin : In64 l) (hk : k ≤ 64) :
    Calls Try.prog 27 #[.slice ao len cap, .int .i64 k] w fun e w' =>
      (Fit l k ∧ ∃ v', e = .returned (.tuple #[v', .int .i64 0]) ∧ w'.ownsRow w.heap.size 5 1 v' (A.bytesOf (bitsAll l k)).length (B8 (A.bytesOf (bitsAll l k))) ∧ Below w.heap.size w w') ∨
      (¬ Fit l k ∧ e = .returned (.tuple #[.slice none 0 0, .int .i64 1]) ∧ Below w.heap.size w w') := by
  obtain ⟨h1, h2, h3, h4, h5⟩ := h
  by_cases h0 : len = 0
  · subst h0
    obtain rfl : l = [] := List.eq_nil_of_length_eq_zero h1
    refine (pack_none ao cap k w hk).mono ?_
    rintro e w' ⟨v', he, ho, hb⟩
    exact .inl ⟨(by intro x hx; simp at hx), v', he, by simpa [bitsAll, A.bytesOf, B8] using ho, hb⟩
  · rcases h5 with h5 | ⟨b, off, rfl, hlt, h5⟩
    · omega
    · exact pack_some b off len cap l k w h1 hm hlt h5 hin hk
end Go.Proofs.Ytbgofbajihdjdaa

/- The document's answer for null: Split. -/
import Derived.Test.YtbgofbajihdjdaaT6
namespace Go.Proofs.Ytbgofbajihdjdaa
set_option linter.unusedVariables false
open Go.RowKit

/-- One value, in new memory. -/
theorem slV_one (w : World) (k i : Int) (s : ByteArray) : SlV (w.alloc (.cells #[.int .i64 k, .int .i64 i, .string s] 44)) (some ⟨w.heap.size, 0, none⟩) 1 1 [⟨k, i, s⟩] := by
  refine ⟨rfl, Nat.le_refl _, by decide, by simp, .inr ⟨w.heap.size, 0, rfl, by simp, fun j x hx => ?_⟩⟩
  match j, hx with
  | 0, hx => simp at hx; subst hx; simp
/-- A row stays, whatever is appended to a row of another kind. -/
theorem keep_kind {w w' : World} {B B' s s' n n' : Nat} {e e' : TypeId} {v u : Value} {xs ys : List Value} (h : w.ownsRow B e s v n xs) (hu : w.ownsRow B' e' s' u n' ys) (hne : e ≠ e') (hk : Kept (fun k => u.ownBlock = some k) w w') : w'.ownsRow B e s v n xs :=
  owns_of_block h fun g hg => hk.block g (owns_lt h hg).2 (fun e => owns_ne h hu hne hg e)
theorem nus_snoc {l : List Z.V} {j : Nat} {x : Z.V} (h : l[j]? = some x) : nus (l.take (j + 1)) = nus (l.take j) ++ [x.k == 0] := by
  rw [take_snocV h]; simp [nus]
theorem oth_yes {l : List Z.V} {j : Nat} {x : Z.V} (h : l[j]? = some x) (hk : (x.k == 0) = true) : oth (l.take (j + 1)) = oth (l.take j) := by
  rw [take_snocV h]; simp [oth, hk]
theorem oth_no {l : List Z.V} {j : Nat} {x : Z.V} (h : l[j]? = some x) (hk : (x.k == 0) = false) : oth (l.take (j + 1)) = oth (l.take j) ++ [x] := by
  rw [take_snocV h]; simp [oth, hk]
theorem oth_le (l : List Z.V) (j : Nat) : (oth (l.take j)).length ≤ j := by
  unfold oth
  exact Nat.le_trans (List.length_filter_le _ _) (by rw [List.length_take]; omega)

set_option maxHeartbeats 2000000 in
theorem ysplit_some (b off len cap : Nat) (l : List Z.V) (w : World) (hl : l.length = len) (hm : len * 32 ≤ 140737488355328) (hlt : b < w.heap.size)
    (hc : ∀ j x, l[j]? = some x → w.cell? ⟨b, off + j * 3, none⟩ = some (.int .i64 x.k) ∧ w.cell? ⟨b, off + j * 3 + 1, none⟩ = some (.int .i64 x.i) ∧ w.cell? ⟨b, off + j * 3 + 2, none⟩ = some (.string x.s)) :
    Calls Try.prog 11 #[.slice (some ⟨b, off, none⟩) len cap] w fun e w' => ∃ v1 v2, e = .returned (.tuple #[v1, v2]) ∧ w'.ownsRow w.heap.size 4 1 v1 len (Vb (nus l)) ∧ OwnV w' w.heap.size v2 (oth l) ∧ Below w.heap.size w w' := by
  have HC := hide hc
  have HL := hide hl
  clear hc hl
  have hm2 : len ≤ 140737488355328 := by omega
  obtain ⟨i0, hi, hz0, hz1, hz2⟩ := info_parts Try.infoBool
  go_enter Try.func11, Try.ntmps11
  go_wp2_with fail
  go_loopw [4, 5, 6] (fun v4 v5 v6 wr => ∃ j : Nat, j ≤ len ∧ v6 = .int .i64 j ∧ Hid (wr.ownsRow w.heap.size 4 1 v4 j (Vb (nus (l.take j)))) ∧ Hid (OwnV wr w.heap.size v5 (oth (l.take j))) ∧ Hid (Below w.heap.size w wr)) (fun _ _ v6 _ => len - (intOf v6).toNat)
  case atStart => exact ⟨0, Nat.zero_le _, rfl, hide (World.ownsRow_nil _ _ _ _), hide (World.ownsRow_nil _ _ _ _), hide (Below.refl _ _)⟩
  case round =>
    obtain ⟨j, hj, rfl, hn4, ho5, hbw⟩ := hrel
    have hsz := hbw.out.size
    by_cases hjl : j < len
    · obtain ⟨⟨xk, xi, xs⟩, hx⟩ : ∃ x, l[j]? = some x := ⟨l[j]'(by rw [HL.out]; exact hjl), List.getElem?_eq_getElem _⟩
      obtain ⟨c1, c2, c3⟩ := HC.out j _ hx
      have d1 : wr.cell? ⟨b, off + j * 3, none⟩ = some (.int .i64 xk) := by rw [hbw.out.cell (p := ⟨b, off + j * 3, none⟩) hlt]; exact c1
      have HX := hide hx
      obtain ⟨q, hq⟩ : ∃ q, (xk == 0) = q := ⟨_, rfl⟩
      have HQ := hide hq
      go_wp2_with (at_builtin; refine wpList_append_to rfl (.tmp 13) (.tmp 20) 23 rfl w.heap.size 4 i0 (.bool false) 1 1 Try.underlying23 hi hz0 hz1 hz2 rfl (by decide) _ _ _ rfl (hn4.out.alloc _) (some ⟨wr.heap.size, 0, none⟩) 1 1 [.bool q] rfl (by simp) rfl (newsB _ _) (oneB _) (by unfold maxLen; omega) (by omega) (by simp; omega) ?_)
      intro v4 w1 hn1 has
      have hb1 : Below w.heap.size w w1 := (hbw.out.alloc hsz _).trans (has.below (by simp; omega) (fun k hk => (owns_lt hn4.out hk).1))
      have ho1 : OwnV w1 w.heap.size u5 (oth (l.take j)) := keep_kind (World.ownsRow.alloc ho5.out _) (hn4.out.alloc _) (by decide) has.1
      have e1 : w1.cell? ⟨b, off + j * 3, none⟩ = some (.int .i64 xk) := by rw [hb1.cell (p := ⟨b, off + j * 3, none⟩) hlt]; exact c1
      have e2 : w1.cell? ⟨b, off + j * 3 + 1, none⟩ = some (.int .i64 xi) := by rw [hb1.cell (p := ⟨b, off + j * 3 + 1, none⟩) hlt]; exact c2
      have e3 : w1.cell? ⟨b, off + j * 3 + 2, none⟩ = some (.string xs) := by rw [hb1.cell (p := ⟨b, off + j * 3 + 2, none⟩) hlt]; exact c3
      have hs1 := hb1.size
      have HN1 : Hid (w1.ownsRow w.heap.size 4 1 v4 (j + 1) (Vb (nus (l.take (j + 1))))) := by
        show World.ownsRow _ _ _ _ _ _ _
        rw [nus_snoc hx, Vb_append]
        show World.ownsRow _ _ _ _ _ _ (_ ++ [.bool (xk == 0)])
        rw [hq]
        exact hn1
      have HB1 := hide hb1
      have HO1 := hide ho1
      have HOL := hide (oth_le l j)
      clear hb1 ho1 hn1 has c1 c2 c3 d1 hx
      cases q with
      | true =>
        have hne : (xk != 0) = false := by rw [bne, hq]; rfl
        go_wp2
        go_roundw
        case rel => exact ⟨j + 1, hjl, by go_num, HN1, hide (by rw [oth_yes HX.out HQ.out]; exact HO1.out), HB1⟩
        case measure => simp [intOf]; omega
      | false =>
        have hne : (xk != 0) = true := by rw [bne, hq]; rfl
        go_wp2_with (at_builtin; refine wpList_appV rfl (.tmp 28) (.tmp 33) rfl w.heap.size u5 (oth (l.take j)) rfl (OwnV.below HO1.out (below_one w1 _)) (some ⟨w1.heap.size, 0, none⟩) 1 1 [⟨xk, xi, xs⟩] rfl (slV_one w1 xk xi xs) (by have := HOL.out; omega) (by simp; omega) ?_)
        intro v5 w2 ho2 has _
        have hb2 : Below w.heap.size w w2 := (HB1.out.alloc hs1 _).trans (has.below (by simp; omega) (fun k hk => (owns_lt HO1.out hk).1))
        have hn2 := keep_kind (World.ownsRow.alloc HN1.out _) (World.ownsRow.alloc HO1.out _) (by decide) has.1
        have HN2 := hide hn2
        have HB2 := hide hb2
        have HO2 := hide ho2
        clear hn2 hb2 ho2 has
        go_wp2
        go_roundw
        case rel => exact ⟨j + 1, hjl, by go_num, HN2, hide (by rw [oth_no HX.out HQ.out]; exact HO2.out), HB2⟩
        case measure => simp [intOf]; omega
    · obtain rfl : j = len := by omega
      have hll : l.take j = l := by rw [← HL.out, List.take_length]
      go_wp2
      go_ret2
      exact ⟨u4, u5, rfl, by rw [← hll]; exact hn4.out, by rw [← hll]; exact ho5.out, hbw.out⟩
theorem ysplit_none (ao : Option Addr) (cap : Nat) (w : World) :
    Calls Try.prog 11 #[.slice ao 0 cap] w fun e w' => e = .returned (.tuple #[.slice none 0 0, .slice none 0 0]) ∧ w' = w := by
  go_enter Try.func11, Try.ntmps11
  go_wp2_with fail
  go_rounds 1
  go_ret2
  exact ⟨rfl, rfl⟩
theorem ysplit_any (ao : Option Addr) (len cap : Nat) (l : List Z.V) (w : World) (h : SlV w ao len cap l) (hm : len * 32 ≤ 140737488355328) :
    Calls Try.prog 11 #[.slice ao len cap] w fun e w' => ∃ v1 v2, e = .returned (.tuple #[v1, v2]) ∧ w'.ownsRow w.heap.size 4 1 v1 len (Vb (nus l)) ∧ OwnV w' w.heap.size v2 (oth l) ∧ Below w.heap.size w w' := by
  rcases h.2.2.2.2 with h5 | ⟨b, off, rfl, hlt, h5⟩
  · subst h5
    obtain rfl : l = [] := List.eq_nil_of_length_eq_zero h.1
    refine (ysplit_none ao cap w).mono ?_
    rintro e w' ⟨rfl, rfl⟩
    exact ⟨_, _, rfl, World.ownsRow_nil _ _ _ _, World.ownsRow_nil _ _ _ _, Below.refl _ _⟩
  · exact ysplit_some b off len cap l w h.1 hm hlt h5
end Go.Proofs.Ytbgofbajihdjdaa

/- The document's answer for null: Join. -/
import Derived.Test.YtbgofbajihdjdaaT7
namespace Go.Proofs.Ytbgofbajihdjdaa
set_option linter.unusedVariables false
open Go.RowKit

theorem count_lt (bs : List Bool) (k : Nat) (h : k < bs.length) (hb : bs.getD k false = false) : (bs.take k).count false < bs.count false := by
  have h1 := plc_lt bs bs.length k h hb
  rw [plc_false bs k (by omega), plc_false bs bs.length (Nat.le_refl _), List.take_length] at h1
  exact h1
theorem count_no (bs : List Bool) (k : Nat) (h : k < bs.length) (hb : bs.getD k false = false) : (bs.take (k + 1)).count false = (bs.take k).count false + 1 := by
  rw [take_snocB bs k h, hb]; simp
theorem count_yes (bs : List Bool) (k : Nat) (h : k < bs.length) (hb : bs.getD k false = true) : (bs.take (k + 1)).count false = (bs.take k).count false := by
  rw [take_snocB bs k h, hb]; simp
theorem joinV_takeY (bs : List Bool) (l : List Z.V) (k : Nat) (h : k < bs.length) (hb : bs.getD k false = true) : joinV (bs.take (k + 1)) l = joinV (bs.take k) l ++ [Z.z0] := by
  rw [take_snocB bs k h, hb, joinV_yes]
theorem joinV_takeN (bs : List Bool) (l : List Z.V) (k : Nat) (h : k < bs.length) (hb : bs.getD k false = false) : joinV (bs.take (k + 1)) l = joinV (bs.take k) l ++ [l.getD ((bs.take k).count false) Z.z0] := by
  rw [take_snocB bs k h, hb, joinV_no]

/-- The first loop: is one of them nothing? Told of Join's second loop as a hypothesis. -/
def Cells3 (w : World) (bo : Option Addr) (l : List Z.V) : Prop := ∀ j x, l[j]? = some x → ∃ b off, bo = some ⟨b, off, none⟩ ∧ b < w.heap.size ∧ w.cell? ⟨b, off + j * 3, none⟩ = some (.int .i64 x.k) ∧ w.cell? ⟨b, off + j * 3 + 1, none⟩ = some (.int .i64 x.i) ∧ w.cell? ⟨b, off + j * 3 + 2, none⟩ = some (.string x.s)
theorem SlV.cells3 {w : World} {ao : Option Addr} {len cap : Nat} {l : List Z.V} (h : SlV w ao len cap l) : Cells3 w ao l := by
  intro j x hx
  rcases h.2.2.2.2 with h5 | ⟨b, off, hao, hlt, h5⟩
  · have := (List.getElem?_eq_some_iff.1 hx).1; have := h.1; omega
  · exact ⟨b, off, hao, hlt, h5 j x hx⟩
def CellsB (w : World) (bo : Option Addr) (bs : List Bool) : Prop := ∀ j, j < bs.length → ∃ b off, bo = some ⟨b, off, none⟩ ∧ b < w.heap.size ∧ w.cell? ⟨b, off + j, none⟩ = some (.bool (bs.getD j false))
theorem Sb.cellsB {w : World} {ao : Option Addr} {len cap : Nat} {l : List Bool} (h : Sb w ao len cap l) : CellsB w ao l := by
  intro j hj
  rcases h.2.2.2.2 with h5 | ⟨b, off, hao, hlt, h5⟩
  · have := h.1; omega
  · exact ⟨b, off, hao, hlt, h5 j (by have := h.1; omega)⟩

set_option maxHeartbeats 4000000 in
theorem yjoin_any (ao : Option Addr) (len cap : Nat) (bs : List Bool) (bo : Option Addr) (lb cb : Nat) (l : List Z.V) (w : World) (hn : Sb w ao len cap bs) (hl : SlV w bo lb cb l) (hm : len * 32 ≤ 140737488355328) (hm2 : lb ≤ 140737488355328) :
    Calls Try.prog 13 #[.slice ao len cap, .slice bo lb cb] w fun e w' => ∃ v, e = .returned (.tuple #[v, .int .i64 (joinE bs l)]) ∧ OwnV w' w.heap.size v (joinL bs l) ∧ Below w.heap.size w w' := by
  have HN := hide hn
  have HL := hide hl
  have H3 := hide hl.cells3
  have HB := hide hn.cellsB
  have HLL := hide hl.1
  have HNL := hide hn.1
  obtain ⟨c, hc⟩ : ∃ c, cntT bs = c := ⟨_, rfl⟩
  have hcl : c ≤ len := by rw [← hc, ← hn.1]; have := cntT_le bs bs.length; rwa [List.take_length] at this
  have HC := hide hc
  have hlm : len ≤ 140737488355328 := by omega
  clear hn hl hc
  go_enter Try.func13, Try.ntmps13
  go_wp2_with fail
  go_loopw [6] (fun i wr => ∃ j : Nat, j ≤ lb ∧ i = .int .i64 j ∧ Hid (anyN (l.take j) = false) ∧ wr = w) (fun i _ => lb - (intOf i).toNat)
  case atStart => exact ⟨0, Nat.zero_le _, rfl, hide rfl, rfl⟩
  case round =>
    obtain ⟨j, hj, rfl, han, rfl⟩ := hrel
    by_cases hjl : j < lb
    · obtain ⟨⟨xk, xi, xs⟩, hx⟩ : ∃ x, l[j]? = some x := ⟨l[j]'(by rw [HLL.out]; exact hjl), List.getElem?_eq_getElem _⟩
      obtain ⟨b, off, rfl, hlt, c1, _, _⟩ := H3.out j _ hx
      have HX := hide hx
      obtain ⟨q, hq⟩ : ∃ q, (xk == 0) = q := ⟨_, rfl⟩
      have HQ := hide hq
      clear hx
      cases q with
      | true =>
        have hok : joinOk bs l = false := by unfold joinOk; rw [anyN_get HX.out HQ.out]; simp
        have HE : Hid (joinE bs l = 4) := by show _ = _; unfold joinE; rw [hok]; rfl
        have HJ : Hid (joinL bs l = []) := by show _ = _; unfold joinL; rw [hok]; rfl
        clear hok
        go_wp2
        go_ret2
        exact ⟨.slice none 0 0, by rw [HE.out]; rfl, by rw [HJ.out]; exact World.ownsRow_nil _ _ _ _, Below.refl _ _⟩
      | false =>
        go_wp2
        go_roundw
        case rel => exact ⟨j + 1, hjl, by go_num, hide (anyN_take HX.out HQ.out han.out), trivial⟩
        case measure => simp [intOf]; omega
    · obtain rfl : j = lb := by omega
      have HA : Hid (anyN l = false) := by
        have := han.out
        rwa [← HLL.out, List.take_length] at this
      go_wp2_with fail
      refine (ycount_any ao len cap bs _ HN.out hlm).mono ?_
      rintro e w1 ⟨rfl, rfl⟩
      rw [HC.out]
      by_cases hne : j + c = len
      · have hok : joinOk bs l = true := by
          unfold joinOk
          rw [HA.out, HLL.out, HC.out, HNL.out, hne]
          simp
        have HE : Hid (joinE bs l = 0) := by show _ = _; unfold joinE; rw [hok]; rfl
        have HJ : Hid (joinL bs l = joinV bs l) := by show _ = _; unfold joinL; rw [hok]; rfl
        have HCF : Hid (bs.count false = j) := by
          have := count_tf bs
          rw [HC.out, HNL.out] at this
          show _ = _
          omega
        have hd : (((j : Int) + (c : Int)) != (len : Int)) = false := by rw [bne_eq_false_iff_eq]; omega
        have HNE := hide hne
        clear hok hne
        go_wp2_with fail
        go_loopw [7, 8, 9] (fun v7 v8 v9 wr => ∃ k n : Nat, k ≤ len ∧ v9 = .int .i64 k ∧ v8 = .int .i64 n ∧ Hid ((bs.take k).count false = n) ∧ Hid (OwnV wr w1.heap.size v7 (joinV (bs.take k) l)) ∧ Hid (Below w1.heap.size w1 wr)) (fun _ _ v9 _ => len - (intOf v9).toNat)
        case atStart => exact ⟨0, 0, Nat.zero_le _, rfl, rfl, hide rfl, hide (World.ownsRow_nil _ _ _ _), hide (Below.refl _ _)⟩
        case round =>
          obtain ⟨k, n, hk, rfl, rfl, hcn, ho7, hbw⟩ := hrel
          have hsz := hbw.out.size
          have HJL : Hid ((joinV (bs.take k) l).length = k) := by show _ = _; rw [joinV_length, List.length_take, HNL.out]; omega
          by_cases hkl : k < len
          · obtain ⟨b1, off1, rfl, hlt1, g1⟩ := HB.out k (by rw [HNL.out]; exact hkl)
            have f1 : wr.cell? ⟨b1, off1 + k, none⟩ = some (.bool (bs.getD k false)) := by rw [hbw.out.cell (p := ⟨b1, off1 + k, none⟩) hlt1]; exact g1
            obtain ⟨q, hq⟩ : ∃ q, bs.getD k false = q := ⟨_, rfl⟩
            rw [hq] at f1
            have HQ := hide hq
            have hkb : k < bs.length := by rw [HNL.out]; exact hkl
            have HKB := hide hkb
            clear g1 hq hkb
            cases q with
            | true =>
              go_wp2_with (at_builtin; refine wpList_appV rfl (.tmp 40) (.tmp 42) rfl w1.heap.size _ (joinV (bs.take k) l) rfl (OwnV.below ho7.out (below_one wr _)) (some ⟨wr.heap.size, 0, none⟩) 1 1 [Z.z0] rfl (slV_one wr 0 0 ⟨#[]⟩) (by rw [HJL.out]; omega) (by simp; omega) ?_)
              intro v7 w2 ho2 has _
              have hb2 : Below w1.heap.size w1 w2 := (hbw.out.alloc hsz _).trans (has.below (by simp; omega) (fun k hk => (owns_lt ho7.out hk).1))
              have HB2 := hide hb2
              have HO2 := hide ho2
              clear hb2 ho2 has
              go_wp2
              go_roundw
              case rel => exact ⟨k + 1, n, hkl, by go_num, rfl, hide (by rw [count_yes bs k HKB.out HQ.out]; exact hcn.out), hide (by rw [joinV_takeY bs l k HKB.out HQ.out]; exact HO2.out), HB2⟩
              case measure => simp [intOf]; omega
            | false =>
              have hnl : n < j := by
                have := count_lt bs k HKB.out HQ.out
                rw [hcn.out, HCF.out] at this
                exact this
              obtain ⟨⟨xk, xi, xs⟩, hx⟩ : ∃ x, l[n]? = some x := ⟨l[n]'(by rw [HLL.out]; exact hnl), List.getElem?_eq_getElem _⟩
              obtain ⟨b, off, rfl, hlt, c1, c2, c3⟩ := H3.out n _ hx
              have d1 : wr.cell? ⟨b, off + n * 3, none⟩ = some (.int .i64 xk) := by rw [hbw.out.cell (p := ⟨b, off + n * 3, none⟩) hlt]; exact c1
              have d2 : wr.cell? ⟨b, off + n * 3 + 1, none⟩ = some (.int .i64 xi) := by rw [hbw.out.cell (p := ⟨b, off + n * 3 + 1, none⟩) hlt]; exact c2
              have d3 : wr.cell? ⟨b, off + n * 3 + 2, none⟩ = some (.string xs) := by rw [hbw.out.cell (p := ⟨b, off + n * 3 + 2, none⟩) hlt]; exact c3
              have HGD : Hid (l.getD n Z.z0 = ⟨xk, xi, xs⟩) := by show _ = _; simp [List.getD, hx]
              clear c1 c2 c3 hx
              go_wp2_with (at_builtin; refine wpList_appV rfl (.tmp 44) (.tmp 49) rfl w1.heap.size _ (joinV (bs.take k) l) rfl (OwnV.below ho7.out (below_one wr _)) (some ⟨wr.heap.size, 0, none⟩) 1 1 [⟨xk, xi, xs⟩] rfl (slV_one wr xk xi xs) (by rw [HJL.out]; omega) (by simp; omega) ?_)
              intro v7 w2 ho2 has _
              have hb2 : Below w1.heap.size w1 w2 := (hbw.out.alloc hsz _).trans (has.below (by simp; omega) (fun k hk => (owns_lt ho7.out hk).1))
              have HB2 := hide hb2
              have HO2 := hide ho2
              clear hb2 ho2 has d1 d2 d3
              go_wp2
              go_roundw
              case rel => exact ⟨k + 1, n + 1, hkl, by go_num, by go_num, hide (by rw [count_no bs k HKB.out HQ.out, hcn.out]), hide (by rw [joinV_takeN bs l k HKB.out HQ.out, hcn.out, HGD.out]; exact HO2.out), HB2⟩
              case measure => simp [intOf]; omega
          · obtain rfl : k = len := by omega
            have hll : bs.take k = bs := by rw [← HNL.out, List.take_length]
            go_wp2
            go_ret2
            exact ⟨_, by rw [HE.out]; rfl, by rw [HJ.out, ← hll]; exact ho7.out, hbw.out⟩
      · have hok : joinOk bs l = false := by
          unfold joinOk
          rw [HLL.out, HC.out, HNL.out]
          have : (j + c == len) = false := by simpa using hne
          rw [this]
          rfl
        have HE : Hid (joinE bs l = 4) := by show _ = _; unfold joinE; rw [hok]; rfl
        have HJ : Hid (joinL bs l = []) := by show _ = _; unfold joinL; rw [hok]; rfl
        have hd : (((j : Int) + (c : Int)) != (len : Int)) = true := by rw [bne_iff_ne]; omega
        clear hok hne
        go_wp2
        go_ret2
        exact ⟨.slice none 0 0, by rw [HE.out]; rfl, by rw [HJ.out]; exact World.ownsRow_nil _ _ _ _, Below.refl _ _⟩
end Go.Proofs.Ytbgofbajihdjdaa

/- The numbers of a list, and of spans, told one by one. -/
import Derived.Test.YtlbchdlokimpfaaB2
namespace Go.Proofs.Ytlbchdlokimpfaa
set_option linter.unusedVariables false
set_option maxRecDepth 10000
open Go.RowKit
attribute [local go_sem] Oper.semAt_some

theorem values_any (ao : Option Addr) (len cap : Nat) (w : World) :
    Calls Try.prog 88 #[.slice ao len cap] w fun e w' => e = .returned (.func (.func 91) #[] #[.pointer (some ⟨w.heap.size, 0, none⟩)]) ∧ w' = w.alloc (.cells #[.slice ao len cap] 81) := by
  go_enter Try.func88, Try.ntmps88
  go_wp2
  go_ret
  exact ⟨rfl, rfl⟩
theorem linums_any (ao : Option Addr) (len cap : Nat) (w : World) :
    Calls Try.prog 85 #[.slice ao len cap] w fun e w' => e = .returned (.func (.func 91) #[] #[.pointer (some ⟨w.heap.size, 0, none⟩)]) ∧ w' = w.alloc (.cells #[.slice ao len cap] 81) := by
  go_enter Try.func85, Try.ntmps85
  go_wp2_with fail
  refine (values_any _ _ _ _).mono ?_
  rintro e w1 ⟨rfl, rfl⟩
  go_wp2
  go_ret
  exact ⟨rfl, rfl⟩
theorem ranums_any (ao : Option Addr) (len cap : Nat) (w : World) :
    Calls Try.prog 71 #[.slice ao len cap] w fun e w' => e = .returned (.func (.func 75) #[] #[.pointer (some ⟨w.heap.size, 0, none⟩)]) ∧ w' = w.alloc (.cells #[.slice ao len cap] 76) := by
  go_enter Try.func71, Try.ntmps71
  go_wp2
  go_ret
  exact ⟨rfl, rfl⟩
theorem binums_any (ao : Option Addr) (len cap : Nat) (w : World) :
    Calls Try.prog 78 #[.slice ao len cap] w fun e w' => e = .returned (.func (.func 81) #[] #[.pointer (some ⟨w.heap.size, 0, none⟩)]) ∧ w' = w.alloc (.cells #[.slice ao len cap] 79) := by
  go_enter Try.func78, Try.ntmps78
  go_wp2
  go_ret
  exact ⟨rfl, rfl⟩

theorem take_snocI {l : List Int} {k : Nat} (h : k < l.length) : l.take (k + 1) = l.take k ++ [l.getD k 0] := by
  rw [List.take_add_one, List.getD_eq_getElem?_getD, List.getElem?_eq_getElem h]
  rfl

set_option maxHeartbeats 1000000 in
theorem valuesC_gives (ao : Option Addr) (len cap : Nat) (l : List Int) (hm : len ≤ 1099511627776) (w : World) (h : Sl w .i64 ao len cap l) :
    Gives (.func (.func 91) #[] #[.pointer (some ⟨w.heap.size, 0, none⟩)]) (w.alloc (.cells #[.slice ao len cap] 81)) l := by
  obtain ⟨w2, hw2⟩ : ∃ w2, w.alloc (.cells #[.slice ao len cap] 81) = w2 := ⟨_, rfl⟩
  have c1 : w2.cell? ⟨w.heap.size, 0, none⟩ = some (.slice ao len cap) := by rw [← hw2]; exact (Boxed.new w 81 (.slice ao len cap)).cell
  have hsz : w2.heap.size = w.heap.size + 1 := by rw [← hw2]; simp
  have hb2 : Below w.heap.size w w2 := by rw [← hw2]; exact below_one w _
  rw [hw2]
  clear hw2
  refine ⟨_, _, w2.heap.size, rfl, Nat.le_refl _, enters_of Try.func91 (by kernel_rfl) rfl, fun q J Jx W hW hJ hJx hY h0 => ?_⟩
  have hc1 : W.cell? ⟨w.heap.size, 0, none⟩ = some (.slice ao len cap) := by rw [hW.cell (p := ⟨w.heap.size, 0, none⟩) (by simp; omega)]; exact c1
  have HC : Hid (∀ wr, Below w2.heap.size W wr → ∀ k, k < len → ∃ b off, ao = some ⟨b, off, none⟩ ∧ wr.cell? ⟨b, off + k, none⟩ = some (.int .i64 (l.getD k 0))) := fun wr hr k hk => by
    rcases h.2.2.2.2 with h5 | ⟨b, off, rfl, hlt, h5⟩
    · omega
    · refine ⟨b, off, rfl, ?_⟩
      rw [hr.cell (p := ⟨b, off + k, none⟩) (by simp; omega), hW.cell (p := ⟨b, off + k, none⟩) (by simp; omega), hb2.cell (p := ⟨b, off + k, none⟩) hlt]
      exact h5 k hk
  have HY := hide hY
  have HL := hide h.1
  clear hb2 hsz c1 hJ hJx hY hW h
  refine callsIn_of_wp Try.func91 rfl trivial ?_ rfl
  simp only [Try.ntmps91, List.size_toArray, List.length_cons, List.length_nil, Nat.reduceAdd, Nat.reduceSub, Array.replicate_succ, Array.replicate_zero, List.push_toArray, List.append_toArray, List.nil_append, List.cons_append]
  gi_wp2
  gi_loopw [7] (fun i wr => ∃ k : Nat, k ≤ len ∧ i = .int .i64 k ∧ J (l.take k) wr ∧ Below w2.heap.size W wr)
    (fun i _ => len - (intOf i).toNat)
  case atStart => exact ⟨0, Nat.zero_le _, rfl, h0, Below.refl _ _⟩
  case round =>
    obtain ⟨k, hk, rfl, hJs, hnx⟩ := hrel
    by_cases hlt : k < len
    · obtain ⟨b, off, rfl, hc2⟩ := HC.out wr hnx k hlt
      obtain ⟨fn, tmps, assign, body, hy, hR⟩ := HY.out _ (l.getD k 0) wr hJs (by rw [List.length_take, HL.out]; omega)
      try dsimp only at hy
      have HT := hide (take_snocI (l := l) (k := k) (by rw [HL.out]; exact hlt))
      obtain ⟨x, hx⟩ : ∃ x, l.getD k 0 = x := ⟨_, rfl⟩
      rw [hx] at hc2 hy hR HT
      clear hx
      gi_wp2
      refine hR.mono ?_
      rintro e W3 (⟨rfl, hJ4, hk4⟩ | ⟨rfl, hJx4⟩)
      · gi_wp2
        go_roundw
        case rel => exact ⟨k + 1, by omega, by simp, by rw [HT.out]; exact hJ4, hnx.trans hk4⟩
        case measure => simp [intOf]; omega
      · gi_wp2
        refine bodyPost_ret (results_none rfl _ _ _) rfl ?_
        exact ⟨⟨_, rfl⟩, .inr ⟨_, trivial, hJx4⟩⟩
    · obtain rfl : k = len := by omega
      gi_wp2
      go_end0
      exact ⟨⟨_, rfl⟩, .inl ⟨_, rfl, by rw [List.take_of_length_le (by rw [HL.out]; exact Nat.le_refl _)] at hJs; exact hJs⟩⟩
end Go.Proofs.Ytlbchdlokimpfaa

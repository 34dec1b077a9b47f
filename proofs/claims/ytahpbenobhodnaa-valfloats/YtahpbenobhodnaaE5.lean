/- The contracts of leb's cut, own. -/
import Derived.Test.YtahpbenobhodnaaE4
namespace Go.Proofs.Ytahpbenobhodnaa
set_option linter.unusedVariables false
open Go.RowKit

set_option maxHeartbeats 400000 in
theorem cut_some (x : Addr) (len cap i : Nat) (w : World) (h1 : i ≤ len) (h2 : len ≤ cap) (h3 : cap ≤ maxLen) :
    Calls Try.prog 63 #[.slice (some x) len cap, .int .i64 i] w fun e w' => e = .returned (.tuple #[.slice (some x) i i, .slice (some (if len = i then x else x.add i)) (len - i) (len - i)]) ∧ Kept (fun _ => False) w w' := by
  unfold maxLen at h3
  go_enter Try.func63, Try.ntmps63
  go_wp2
  go_region
  all_goals go_wp2
  all_goals
    go_ret2
    exact ⟨rfl, (Kept.refl _ _).drew⟩

set_option maxHeartbeats 400000 in
theorem cut_none (w : World) :
    Calls Try.prog 63 #[.slice none 0 0, .int .i64 0] w fun e w' => e = .returned (.tuple #[.slice none 0 0, .slice none 0 0]) ∧ Kept (fun _ => False) w w' := by
  go_enter Try.func63, Try.ntmps63
  go_wp2
  go_region
  go_wp2
  go_ret2
  exact ⟨rfl, (Kept.refl _ _).drew⟩

theorem add_block (x : Addr) (i : Nat) : (x.add i).block = x.block := by unfold Addr.add; split <;> rfl
theorem ints_take (l : List Nat) (i : Nat) : ints (l.take i) = (ints l).take i := by simp [ints]
theorem ints_drop (l : List Nat) (i : Nat) : ints (l.drop i) = (ints l).drop i := by simp [ints]

/-- A slice's head, and what lies behind it. -/
theorem Sl.head {w : World} {k : IntKind} {ao : Option Addr} {len cap : Nat} {l : List Int} (h : Sl w k ao len cap l) (i c : Nat) (hi : i ≤ len) (hc : i ≤ c) (hcc : c ≤ cap) : Sl w k ao i c (l.take i) := by
  obtain ⟨h1, h2, h3, h4, h5⟩ := h
  refine ⟨by simp; omega, hc, by omega, fun e => by have := h4 e; omega, ?_⟩
  rcases h5 with h5 | ⟨b, off, rfl, hlt, h5⟩
  · exact .inl (by omega)
  · refine .inr ⟨b, off, rfl, hlt, fun j hj => ?_⟩
    rw [h5 j (by omega)]
    simp [List.getD, hj]
theorem Sl.tail {w : World} {k : IntKind} {x : Addr} {len cap : Nat} {l : List Int} (h : Sl w k (some x) len cap l) (i c : Nat) (hi : i ≤ len) (hc : len - i ≤ c) (hcc : c ≤ cap) (y : Addr) (hy : i < len → y = x.add i) : Sl w k (some y) (len - i) c (l.drop i) := by
  obtain ⟨h1, h2, h3, h4, h5⟩ := h
  refine ⟨by rw [List.length_drop, h1], hc, Nat.le_trans hcc h3, by simp, ?_⟩
  by_cases hlt : i < len
  · rcases h5 with h5 | ⟨b, off, hx, hb, h5⟩
    · omega
    · obtain rfl := Option.some.inj hx
      rw [hy hlt]
      refine .inr ⟨b, off + i, by simp [Addr.add], hb, fun j hj => ?_⟩
      rw [Nat.add_assoc, h5 (i + j) (by omega)]
      simp [List.getD]
  · exact .inl (by omega)

/-- leb's cut: bytes in two. -/
theorem cut_any (ao : Option Addr) (len cap : Nat) (l : List Nat) (i : Nat) (w : World) (h : Sl w .u8 ao len cap (ints l)) (hi : i ≤ len) :
    Calls Try.prog 63 #[.slice ao len cap, .int .i64 i] w fun e w' => ∃ a2, e = .returned (.tuple #[.slice ao i i, .slice a2 (len - i) (len - i)]) ∧ Kept (fun _ => False) w w' ∧ Sl w' .u8 ao i i (ints (l.take i)) ∧ Sl w' .u8 a2 (len - i) (len - i) (ints (l.drop i)) ∧ (∀ y, a2 = some y → ∃ x, ao = some x ∧ y.block = x.block) := by
  have h0 := h
  obtain ⟨h1, h2, h3, h4, h5⟩ := h
  cases ao with
  | none =>
    obtain rfl := h4 rfl
    obtain rfl : len = 0 := by omega
    obtain rfl : i = 0 := by omega
    refine (cut_none w).mono ?_
    rintro e w' ⟨rfl, hk⟩
    refine ⟨none, rfl, hk, ?_, ?_, by simp⟩
    · rw [ints_take]; exact (h0.head 0 0 (by omega) (by omega) (by omega)).kept hk (by simp)
    · exact h0.kept hk (by simp)
  | some x =>
    refine (cut_some x len cap i w hi h2 h3).mono ?_
    rintro e w' ⟨rfl, hk⟩
    refine ⟨_, rfl, hk, ?_, ?_, fun y hy => ⟨x, rfl, by obtain rfl := Option.some.inj hy; split <;> simp [add_block]⟩⟩
    · rw [ints_take]; exact (h0.head i i hi (Nat.le_refl _) (by omega)).kept hk (by simp)
    · rw [ints_drop]; exact (h0.tail i (len - i) hi (Nat.le_refl _) (by omega) _ (fun hlt => by rw [if_neg (by omega)])).kept hk (by simp)

theorem cut_i (ao : Option Addr) (len cap : Nat) (l : List Nat) (i : Int) (w : World) (h : Sl w .u8 ao len cap (ints l)) (h0 : 0 ≤ i) (hi : i ≤ (len : Int)) :
    Calls Try.prog 63 #[.slice ao len cap, .int .i64 i] w fun e w' => ∃ a2, e = .returned (.tuple #[.slice ao i.toNat i.toNat, .slice a2 (len - i.toNat) (len - i.toNat)]) ∧ Kept (fun _ => False) w w' ∧ Sl w' .u8 ao i.toNat i.toNat (ints (l.take i.toNat)) ∧ Sl w' .u8 a2 (len - i.toNat) (len - i.toNat) (ints (l.drop i.toNat)) ∧ (∀ y, a2 = some y → ∃ x, ao = some x ∧ y.block = x.block) := by
  obtain ⟨n, rfl⟩ := Int.eq_ofNat_of_zero_le h0
  rw [Int.toNat_natCast]
  exact cut_any ao len cap l n w h (by omega)

theorem run_append_nothing (w : World) (ty : TypeId) (ao bo : Option Addr) (n cap c : Nat) (h : n ≤ cap) :
    (Builtin.append_ #[24, 24] ty #[.slice ao n cap, .slice bo 0 c]).run Try.prog w = .ok (.slice ao n cap) w := by
  obtain ⟨i0, hi, hz0, hz1, hz2⟩ := info_parts Try.infoU8
  cases ao <;> cases bo <;> simp [Builtin.append_, run_underlying Try.underlying24, sizeOf, typeInfo, hi, Builtin.lenOf, h, Builtin.firstCells, run_load_none, storeCells]

theorem wpList_append_nothing {w : World} {ops : Array Oper} {rest : List Oper} {o : Oper} {a : Act} {Q : Exit → Act → World → Prop} (hgd : o.guard = none) (s x : Operand)
    (ho : o.op = .call { callee := .builtin .append, args := #[s, x], argTypes := #[24, 24] })
    (ao bo : Option Addr) (n cap c : Nat) (hs : a.eval s = .slice ao n cap) (hx : a.eval x = .slice bo 0 c) (hn : n ≤ cap)
    (h : wpList Try.prog ops Q rest (a.put o.dst (.slice ao n cap)) w) : wpList Try.prog ops Q (o :: rest) a w := by
  refine wpList_plain hgd fun K hK => ?_
  have hrun := run_append_nothing w o.type ao bo n cap c hn
  unfold Oper.wp
  simp [execOp, ho, resolve, invoke, builtin, hs, hx, hrun, Result.andThen]
  exact hK _ _ h

set_option maxHeartbeats 400000 in
theorem own_zero (ao : Option Addr) (cap : Nat) (w : World) (h : Sl w .u8 ao 0 cap []) :
    Calls Try.prog 64 #[.slice ao 0 cap] w fun e w' => e = .returned (.slice ao 0 0) ∧ Kept (fun _ => False) w w' := by
  go_enter Try.func64, Try.ntmps64
  go_wp2_with fail
  refine (cut_any ao 0 cap [] 0 w h (Nat.le_refl _)).mono ?_
  rintro e w1 ⟨a2, rfl, hk, _, _, _⟩
  go_wp2_with (at_builtin; refine wpList_append_nothing rfl _ _ rfl ao ao 0 0 cap rfl rfl (Nat.le_refl _) ?_)
  go_wp2
  go_ret
  exact ⟨rfl, hk⟩

set_option maxHeartbeats 400000 in
theorem own_some (x : Addr) (len cap : Nat) (l : List Nat) (w : World) (h : Sl w .u8 (some x) len cap (ints l)) (h0 : 0 < len) (hb : len ≤ 140737488355328) :
    Calls Try.prog 64 #[.slice (some x) len cap] w fun e w' => ∃ v', e = .returned v' ∧ w'.ownsRow w.heap.size 5 1 v' len (B8 l) ∧ Below w.heap.size w w' := by
  obtain ⟨i0, hi, hz0, hz1, hz2⟩ := info_parts Try.infoU8
  go_enter Try.func64, Try.ntmps64
  go_wp2_with fail
  refine (cut_any (some x) len cap l 0 w h (by omega)).mono ?_
  rintro e w1 ⟨a2, rfl, hk, _, _, _⟩
  have h1 := h.kept hk (by simp)
  have hs := hk.size
  go_wp2_with (at_builtin; refine wpList_append_grows _ rfl _ _ 24 rfl 5 i0 (.int .u8 0) 1 1 Try.underlying24 hi hz0 hz1 hz2 rfl (by decide) (some x) 0 0 [] rfl (by simp) rfl (by simp) x len cap ((ints l).map (Value.int .u8)) rfl ?c6 ?c1 (ints_oneCell _ _) ?c2 ?c3 ?c4 ?_)
  case c6 => simpa using h.1
  case c1 => exact h1.news x rfl
  case c2 => omega
  case c3 => unfold maxLen; omega
  case c4 => omega
  intro v' w2 hown hg
  go_wp2
  go_ret
  refine ⟨v', rfl, ?_, ?_⟩
  · rw [B8_ints]
    have := owns_base (base' := w.heap.size) hown fun g hg => by have := (owns_lt hown hg).1; omega
    simpa using this
  · exact (hk.grown hg (by simp)).below (Nat.le_refl _) (by simp)

/-- leb's own: the same bytes. -/
theorem own_any (ao : Option Addr) (len cap : Nat) (l : List Nat) (w : World) (h : Sl w .u8 ao len cap (ints l)) (hb : len ≤ 140737488355328) :
    Calls Try.prog 64 #[.slice ao len cap] w fun e w' => ∃ a2 c2, e = .returned (.slice a2 len c2) ∧ Sl w' .u8 a2 len c2 (ints l) ∧ Below w.heap.size w w' := by
  have hl : l.length = len := by rw [← h.1, ints_length]
  by_cases h0 : len = 0
  · subst h0
    obtain rfl : l = [] := List.eq_nil_of_length_eq_zero hl
    refine (own_zero ao cap w h).mono ?_
    rintro e w' ⟨rfl, hk⟩
    exact ⟨ao, 0, rfl, (h.head 0 0 (by omega) (by omega) (by omega)).kept hk (by simp), hk.below (Nat.le_refl _) (by simp)⟩
  · cases ao with
    | none => have := h.2.2.2.1 rfl; have := h.2.1; omega
    | some x =>
      refine (own_some x len cap l w h (by omega) hb).mono ?_
      rintro e w' ⟨v', rfl, ho, hb⟩
      rw [← hl] at ho
      obtain ⟨a2, c2, rfl, hsl, _⟩ := Sl.of_bytes ho
      rw [hl] at hsl
      exact ⟨a2, c2, by rw [hl], hsl, hb⟩
end Go.Proofs.Ytahpbenobhodnaa

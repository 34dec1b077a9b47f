/- The contracts of leb's cut, own. -/
import Derived.Test.YtmobcabkaodjoaaE4
namespace Go.Proofs.Ytmobcabkaodjoaa
set_option linter.unusedVariables false
open Go.RowKit

theorem add_block (x : Addr) (i : Nat) : (x.add i).block = x.block := by unfold Addr.add; split <;> rfl
theorem ints_take (l : List Nat) (i : Nat) : ints (l.take i) = (ints l).take i := by simp [ints]
theorem ints_drop (l : List Nat) (i : Nat) : ints (l.drop i) = (ints l).drop i := by simp [ints]

/-- A slice's head, and what lies behind it. -/
theorem Sl.head {w : World} {k : IntKind} {ao : Option Addr} {len cap : Nat} {l : List Int} (h : Sl w k ao len cap l) (i c : Nat) (hi : i ≤ len) (hc : i ≤ c) (hcc : c ≤ cap) : Sl w k ao i c (l.take i) := by
  obtain ⟨h1, h2, h3, h4, h5⟩ := h
  refine ⟨by simp; omega, hc, by omega, fun e => by have := h4 e; omega, ?_⟩
  rcases h5 with h5 | ⟨b, off, rfl, hlt, h5⟩
  · exact .inl (by omega)
  · refine .inr ⟨b, off, rfl, hlt, fun j hj => ?_⟩
    rw [h5 j (by omega)]
    simp [List.getD, hj]
theorem Sl.tail {w : World} {k : IntKind} {x : Addr} {len cap : Nat} {l : List Int} (h : Sl w k (some x) len cap l) (i c : Nat) (hi : i ≤ len) (hc : len - i ≤ c) (hcc : c ≤ cap) (y : Addr) (hy : i < len → y = x.add i) : Sl w k (some y) (len - i) c (l.drop i) := by
  obtain ⟨h1, h2, h3, h4, h5⟩ := h
  refine ⟨by rw [List.length_drop, h1], hc, Nat.le_trans hcc h3, by simp, ?_⟩
  by_cases hlt : i < len
  · rcases h5 with h5 | ⟨b, off, hx, hb, h5⟩
    · omega
    · obtain rfl := Option.some.inj hx
      rw [hy hlt]
      refine .inr ⟨b, off + i, by simp [Addr.add], hb, fun j hj => ?_⟩
      rw [Nat.add_assoc, h5 (i + j) (by omega)]
      simp [List.getD]
  · exact .inl (by omega)

theorem run_append_nothing (w : World) (ty : TypeId) (ao bo : Option Addr) (n cap c : Nat) (h : n ≤ cap) :
    (Builtin.append_ #[22, 22] ty #[.slice ao n cap, .slice bo 0 c]).run Try.prog w = .ok (.slice ao n cap) w := by
  obtain ⟨i0, hi, hz0, hz1, hz2⟩ := info_parts Try.infoU8
  cases ao <;> cases bo <;> simp [Builtin.append_, run_underlying Try.underlying22, sizeOf, typeInfo, hi, Builtin.lenOf, h, Builtin.firstCells, run_load_none, storeCells]

theorem wpList_append_nothing {w : World} {ops : Array Oper} {rest : List Oper} {o : Oper} {a : Act} {Q : Exit → Act → World → Prop} (hgd : o.guard = none) (s x : Operand)
    (ho : o.op = .call { callee := .builtin .append, args := #[s, x], argTypes := #[22, 22] })
    (ao bo : Option Addr) (n cap c : Nat) (hs : a.eval s = .slice ao n cap) (hx : a.eval x = .slice bo 0 c) (hn : n ≤ cap)
    (h : wpList Try.prog ops Q rest (a.put o.dst (.slice ao n cap)) w) : wpList Try.prog ops Q (o :: rest) a w := by
  refine wpList_plain hgd fun K hK => ?_
  have hrun := run_append_nothing w o.type ao bo n cap c hn
  unfold Oper.wp
  simp [execOp, ho, resolve, invoke, builtin, hs, hx, hrun, Result.andThen]
  exact hK _ _ h

end Go.Proofs.Ytmobcabkaodjoaa

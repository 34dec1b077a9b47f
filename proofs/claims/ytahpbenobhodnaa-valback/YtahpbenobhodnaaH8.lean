/- Bytes appended to bytes of one's own, as a law at the operation. -/
import Derived.Test.YtahpbenobhodnaaU
namespace Go.Proofs.Ytahpbenobhodnaa
set_option linter.unusedVariables false
open Go.RowKit

theorem wpList_app {w : World} {ops : Array Oper} {rest : List Oper} {o : Oper} {a : Act} {Q : Exit → Act → World → Prop} (hgd : o.guard = none) (s x : Operand)
    (ho : o.op = .call { callee := .builtin .append, args := #[s, x], argTypes := #[24, 24] })
    (base : Nat) (v : Value) (l : List Nat) (hs : a.eval s = v) (hown : w.ownsRow base 5 1 v l.length (B8 l))
    (ao : Option Addr) (m c : Nat) (news : List Nat) (hx : a.eval x = .slice ao m c) (hsl : Sl w .u8 ao m c (ints news)) (hlim : l.length + m ≤ 140737488355328) (hbase : base ≤ w.heap.size) (r : List Nat) (hr : l ++ news = r)
    (h : ∀ v' w', w'.ownsRow base 5 1 v' r.length (B8 r) → AS w v w' v' → wpList Try.prog ops Q rest (a.put o.dst v') w') : wpList Try.prog ops Q (o :: rest) a w := by
  obtain ⟨i0, hi, hz0, hz1, hz2⟩ := info_parts Try.infoU8
  have hm : news.length = m := by rw [← hsl.1, ints_length]
  refine wpList_append_to hgd s x 24 ho base 5 i0 (.int .u8 0) 1 1 Try.underlying24 hi hz0 hz1 hz2 rfl (by decide) v l.length (B8 l) hs hown ao m c ((ints news).map (Value.int .u8)) hx ?_ (by simp [ints_length, hm]) hsl.news ?_ (by unfold maxLen; omega) (by omega) hbase ?_
  · intro e
    have h4 := hsl.2.2.2.1 e
    have h2 := hsl.2.1
    exact ⟨by omega, h4⟩
  · intro u hu
    obtain ⟨y, _, rfl⟩ := List.mem_map.1 hu
    rfl
  · intro v' w' ho' has'
    refine h v' w' ?_ has'
    rw [← hr, List.length_append, hm, B8_append, B8_ints news]
    exact ho'
/-- No bytes, in new memory. -/
theorem owns_none (w : World) : (w.alloc (.cells #[] 5)).ownsRow w.heap.size 5 1 (.slice (some ⟨w.heap.size, 0, none⟩) 0 0) ([] : List Nat).length (B8 []) :=
  World.ownsRow_lit w #[] 0 (Nat.le_refl _) (by decide) (by simp)
/-- A row of one's own, as bytes that can be read; its length under a name. -/
theorem Sl.of_own {w : World} {B : Nat} {v : Value} {l : List Nat} (h : w.ownsRow B 5 1 v l.length (B8 l)) {k : Nat} (hk : l.length = k) : ∃ a c, v = .slice a k c ∧ Sl w .u8 a k c (ints l) := by
  subst hk
  obtain ⟨a, c, h1, h2, _⟩ := Sl.of_bytes h
  exact ⟨a, c, h1, h2⟩
end Go.Proofs.Ytahpbenobhodnaa

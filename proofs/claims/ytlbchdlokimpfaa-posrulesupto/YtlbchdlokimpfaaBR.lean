/- Numbers of a list made less than k; the numbers of one's own are appended to. -/
import Derived.Test.YtlbchdlokimpfaaBO
namespace Go.Proofs.Ytlbchdlokimpfaa
set_option linter.unusedVariables false
set_option maxRecDepth 10000
open Go.RowKit

/-- Each number less than k. -/
def Z.md (k : Nat) (l : List Int) : List Int := l.map fun x => x % (k : Int)
theorem md_length (k : Nat) (l : List Int) : (Z.md k l).length = l.length := by simp [Z.md]
theorem md_snoc {k : Nat} {l : List Int} {i : Nat} (h : i < l.length) : Z.md k (l.take (i + 1)) = Z.md k (l.take i) ++ [l.getD i 0 % (k : Int)] := by
  rw [take_snocI h]
  simp [Z.md]
theorem md_in {k : Nat} {l : List Int} (hk : 0 < k) : ∀ x ∈ (Z.md k l).take 300, 0 ≤ x ∧ x < (k : Int) := by
  intro x hx
  have h1 := List.mem_of_mem_take hx
  unfold Z.md at h1
  obtain ⟨y, _, rfl⟩ := List.mem_map.1 h1
  exact ⟨Int.emod_nonneg _ (by omega), Int.emod_lt_of_pos _ (by omega)⟩
/-- A number more, to one's own row of numbers. -/
theorem wpList_appI {w : World} {ops : Array Oper} {rest : List Oper} {o : Oper} {a : Act} {Q : Exit → Act → World → Prop}
    (hgd : o.guard = none) (s x : Operand) (ho : o.op = .call { callee := .builtin .append, args := #[s, x], argTypes := #[22, 22] })
    (base : Nat) (v : Value) (l : List Int) (n : Nat) (hln : l.length = n) (hs : a.eval s = v) (hown : w.ownsRow base 3 1 v n (l.map (Value.int .i64)))
    (ao : Option Addr) (c : Nat) (r : Int) (hx : a.eval x = .slice ao 1 c) (hsl : Sl w .i64 ao 1 c [r]) (hlim : n ≤ 1000000000) (hbase : base ≤ w.heap.size)
    (h : ∀ v' w', w'.ownsRow base 3 1 v' (n + 1) ((l ++ [r]).map (Value.int .i64)) → AS w v w' v' → wpList Try.prog ops Q rest (a.put o.dst v') w') : wpList Try.prog ops Q (o :: rest) a w := by
  obtain ⟨i0, hi, hz0, hz1, hz2⟩ := info_parts Try.infoInt
  refine wpList_append_to hgd s x 22 ho base 3 i0 (.int .i64 0) 1 8 Try.underlying22 hi hz0 hz1 hz2 rfl (by decide) v n (l.map (Value.int .i64)) hs hown ao 1 c [.int .i64 r] hx (fun e => absurd (hsl.2.2.2.1 e) (by have := hsl.2.1; omega)) rfl hsl.news (by simp [Value.oneCell']) (by unfold maxLen; omega) (by omega) hbase ?_
  intro v' w' h1 h2
  refine h v' w' ?_ h2
  rw [List.map_append]
  exact h1
end Go.Proofs.Ytlbchdlokimpfaa

/- Plain facts on blocks: a number's bytes, the bytes, their sum's; nothing of the program. -/
import Derived.Test.YtmobcabkaodjoaaE1
import Derived.Test.YtmobcabkaodjoaaK1
namespace Go.Proofs.Ytmobcabkaodjoaa.K
set_option linter.unusedVariables false

/-- A sum's four bytes, the lowest first; and back. -/
def le4 (n : Nat) : List Nat := [n % 256, n / 256 % 256, n / 65536 % 256, n / 16777216 % 256]
def of4 (l : List Nat) : Nat := l.getD 0 0 + 256 * l.getD 1 0 + 65536 * l.getD 2 0 + 16777216 * l.getD 3 0
theorem le4_length (n : Nat) : (le4 n).length = 4 := rfl
theorem le4_lt (n : Nat) : ∀ x ∈ le4 n, x < 256 := by intro x hx; simp [le4] at hx; omega
theorem of4_le4 (n : Nat) (h : n < 4294967296) : of4 (le4 n) = n := by simp [of4, le4]; omega
theorem le4_inj (a b : Nat) (ha : a < 4294967296) (hb : b < 4294967296) (h : le4 a = le4 b) : a = b := by
  rw [← of4_le4 a ha, ← of4_le4 b hb, h]
def block (l : List Nat) : List Nat := E.leb l.length ++ (l ++ le4 (crc l))
theorem block_length (l : List Nat) : (block l).length = (E.leb l.length).length + l.length + 4 := by
  simp [block, le4_length]; omega
theorem block_lt (l : List Nat) (h : ∀ x ∈ l, x < 256) : ∀ x ∈ block l, x < 256 := by
  intro x hx
  rcases List.mem_append.1 hx with h1 | h1
  · exact E.leb_lt _ x h1
  · rcases List.mem_append.1 h1 with h2 | h2
    · exact h x h2
    · exact le4_lt _ x h2

/-- Open: the error; the bytes; what is left. -/
def oX (b : List Nat) : List Nat := (b.drop (E.gK b)).take (E.gN b)
def oS (b : List Nat) : List Nat := ((b.drop (E.gK b)).drop (E.gN b)).take 4
def oR (b : List Nat) : List Nat := ((b.drop (E.gK b)).drop (E.gN b)).drop 4
def oE (most : Int) (b : List Nat) : Nat := if E.gE b ≠ 0 then E.gE b else if most < 0 ∨ most < ((E.gN b : Nat) : Int) then 2 else if b.length - E.gK b < E.gN b + 4 then 3 else if oS b = le4 (crc (oX b)) then 0 else 5
theorem oE_bad {most : Int} {b : List Nat} (h : E.gE b ≠ 0) : oE most b = E.gE b := by unfold oE; rw [if_pos h]
theorem oE_range {most : Int} {b : List Nat} (h : E.gE b = 0) (h1 : most < 0 ∨ most < ((E.gN b : Nat) : Int)) : oE most b = 2 := by unfold oE; rw [if_neg (by simpa using h), if_pos h1]
theorem oE_short {most : Int} {b : List Nat} (h : E.gE b = 0) (h1 : 0 ≤ most) (h2 : ((E.gN b : Nat) : Int) ≤ most) (h3 : b.length - E.gK b < E.gN b + 4) : oE most b = 3 := by unfold oE; rw [if_neg (by simpa using h), if_neg (by omega), if_pos h3]
theorem oE_sum {most : Int} {b : List Nat} (h : E.gE b = 0) (h1 : 0 ≤ most) (h2 : ((E.gN b : Nat) : Int) ≤ most) (h3 : E.gN b + 4 ≤ b.length - E.gK b) : oE most b = if oS b = le4 (crc (oX b)) then 0 else 5 := by unfold oE; rw [if_neg (by simpa using h), if_neg (by omega), if_neg (by omega)]

/-- What stands in a block's place: its number, bytes as many, four bytes, and more. -/
theorem o_parts (n : Nat) (hn : n < 18446744073709551616) (x s more : List Nat) (hx : x.length = n) (hs : s.length = 4) :
    E.gE (E.leb n ++ (x ++ (s ++ more))) = 0 ∧ E.gN (E.leb n ++ (x ++ (s ++ more))) = n ∧ oX (E.leb n ++ (x ++ (s ++ more))) = x ∧ oS (E.leb n ++ (x ++ (s ++ more))) = s ∧ oR (E.leb n ++ (x ++ (s ++ more))) = more ∧ (E.leb n ++ (x ++ (s ++ more))).length - E.gK (E.leb n ++ (x ++ (s ++ more))) = n + 4 + more.length := by
  obtain ⟨g1, g2, g3⟩ := E.g_put n hn (x ++ (s ++ more))
  unfold oX oS oR
  rw [g1, g2, g3, List.drop_left]
  subst hx
  refine ⟨rfl, rfl, List.take_left, ?_, ?_, ?_⟩
  · rw [List.drop_left, ← hs, List.take_left]
  · rw [List.drop_left, ← hs, List.drop_left]
  · simp [hs]; omega
/-- What was a block is opened. -/
theorem o_block (l more : List Nat) (hl : l.length < 9223372036854775808) (most : Int) (hm : (l.length : Int) ≤ most) : oE most (block l ++ more) = 0 ∧ oX (block l ++ more) = l ∧ oR (block l ++ more) = more := by
  obtain ⟨p1, p2, p3, p4, p5, p6⟩ := o_parts l.length (by omega) l (le4 (crc l)) more rfl (le4_length _)
  have e : block l ++ more = E.leb l.length ++ (l ++ (le4 (crc l) ++ more)) := by simp [block]
  rw [e]
  refine ⟨?_, p3, p5⟩
  rw [oE_sum p1 (by omega) (by rw [p2]; exact hm) (by rw [p2, p6]; omega), p3, p4, if_pos rfl]
end Go.Proofs.Ytmobcabkaodjoaa.K

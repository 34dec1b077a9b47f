/- Plain facts on three rows of bytes, joined; nothing of the program. -/
import Derived.Test.YtmobcabkaodjoaaK3
namespace Go.Proofs.Ytmobcabkaodjoaa.K
set_option linter.unusedVariables false

def join3 (a b c : List Nat) : List Nat := joinL (joinL a b) c
theorem joinL_snoc : ∀ (a b : List Nat) (x y : Nat), a.length = b.length → joinL (a ++ [x]) (b ++ [y]) = joinL a b ++ [x ^^^ y]
  | [], [], x, y, _ => rfl
  | u :: r, v :: q, x, y, h => by simp only [List.cons_append, joinL]; rw [joinL_snoc r q x y (by simpa using h)]
  | [], _ :: _, _, _, h => by simp at h
  | _ :: _, [], _, _, h => by simp at h
theorem join3_snoc (a b c : List Nat) (x y z : Nat) (h1 : a.length = b.length) (h2 : a.length = c.length) : join3 (a ++ [x]) (b ++ [y]) (c ++ [z]) = join3 a b c ++ [(x ^^^ y) ^^^ z] := by
  unfold join3
  rw [joinL_snoc a b x y h1, joinL_snoc _ _ _ _ (by rw [joinL_length a b h1, h2])]
theorem joinL_lt : ∀ (a b : List Nat), (∀ x ∈ a, x < 256) → (∀ x ∈ b, x < 256) → ∀ x ∈ joinL a b, x < 256
  | u :: r, v :: q, ha, hb, x, hx => by
    simp only [joinL, List.mem_cons] at hx
    rcases hx with rfl | hx
    · exact Nat.xor_lt_two_pow (n := 8) (ha u (by simp)) (hb v (by simp))
    · exact joinL_lt r q (fun y hy => ha y (by simp [hy])) (fun y hy => hb y (by simp [hy])) x hx
  | [], _, _, _, x, hx => by simp [joinL] at hx
  | _ :: _, [], _, _, x, hx => by simp [joinL] at hx
theorem join3_length (a b c : List Nat) (h1 : a.length = b.length) (h2 : a.length = c.length) : (join3 a b c).length = a.length := by
  unfold join3; rw [joinL_length _ _ (by rw [joinL_length a b h1, h2]), joinL_length a b h1]
theorem crc_join3 (a b c : List Nat) (h1 : a.length = b.length) (h2 : a.length = c.length) : (crc a ^^^ crc b) ^^^ crc c = crc (join3 a b c) := by
  have e1 := crc_join a b h1
  have hl : (joinL a b).length = c.length := by rw [joinL_length a b h1, h2]
  have e2 := reg_xor 0 4294967295 (joinL a b) c hl
  rw [Nat.zero_xor] at e2
  rw [e1]
  unfold crc join3
  rw [not_xor _ (reg_lt _ _ (by omega)), not_xor _ (reg_lt _ _ (by omega)), e2, Nat.xor_assoc]
end Go.Proofs.Ytmobcabkaodjoaa.K

/- Plain: bytes as a value of a kind; there and back. Nothing of the program. -/
import Derived.Test.YtahpbenobhodnaaZ7
namespace Go.Proofs.Ytahpbenobhodnaa
set_option linter.unusedVariables false
open Go.RowKit

/-- Which error; which value; what stands behind it. -/
def Z.oE (l : List Nat) (kind : Int) : Nat := if kind = 0 then 0 else if kind = 1 then E.gE l else if kind = 2 then (if l.length < 8 then 3 else if D.ky (D.bt ((Z.o8 l : Nat) : Int)) = ((Z.o8 l : Nat) : Int) then 0 else 4) else if kind = 3 then E.xE 1024 l else 1
def Z.oW (l : List Nat) (kind : Int) : Z.V := if kind = 1 then ⟨1, E.zag (E.gN l), ⟨#[]⟩⟩ else if kind = 2 then ⟨2, Z.sg (D.bt ((Z.o8 l : Nat) : Int)), ⟨#[]⟩⟩ else if kind = 3 then ⟨3, 0, strOfNums (ints (E.xS l))⟩ else ⟨0, 0, ⟨#[]⟩⟩
def Z.oS (l : List Nat) (kind : Int) : List Nat := if kind = 1 then l.drop (E.gK l) else if kind = 2 then l.drop 8 else if kind = 3 then E.xR l else l
def Z.oV (l : List Nat) (kind : Int) : Z.V := if Z.oE l kind = 0 then Z.oW l kind else ⟨0, 0, ⟨#[]⟩⟩
def Z.oR (l : List Nat) (kind : Int) : List Nat := if Z.oE l kind = 0 then Z.oS l kind else []

theorem str_sb (s : ByteArray) : strOfNums (ints (sb s)) = s := by
  cases s with
  | mk d =>
    simp only [strOfNums, ints, sb, List.map_map]
    congr 1
    have : (d.toList.map ((fun n : Int => UInt8.ofNat n.toNat) ∘ (fun x : Nat => (x : Int)) ∘ UInt8.toNat)) = d.toList := by
      conv => rhs; rw [← List.map_id d.toList]
      apply List.map_congr_left
      intro x _
      simp
    rw [this]
theorem sb_str {l : List Nat} (h : ∀ x ∈ l, x < 256) : sb (strOfNums (ints l)) = l := by
  simp only [strOfNums, ints, sb, List.map_map]
  conv => rhs; rw [← List.map_id l]
  apply List.map_congr_left
  intro x hx
  have := h x hx
  simp; omega

theorem may_kind {k i : Int} {s : ByteArray} (h : Z.may ⟨k, i, s⟩ = true) : k = 0 ∨ k = 1 ∨ k = 2 ∨ k = 3 := by
  by_cases h0 : k = 0
  · exact .inl h0
  · by_cases h1 : k = 1
    · exact .inr (.inl h1)
    · by_cases h2 : k = 2
      · exact .inr (.inr (.inl h2))
      · by_cases h3 : k = 3
        · exact .inr (.inr (.inr h3))
        · rw [may_else h0 h1 h2 h3] at h; exact absurd h (by simp)
theorem isEmpty_eq {s : ByteArray} (h : s.toList.isEmpty = true) : s = ⟨#[]⟩ := by rw [empty_of] at h; exact of_decide_eq_true h
theorem ky_nat {i : Int} : (((D.ky (Z.u i)).toNat : Nat) : Int) = D.ky (Z.u i) := Int.toNat_of_nonneg (D.ky_in (Z.u_in i)).1
theorem clean_of {i : Int} {s : ByteArray} (hi : Z.I64 i) (h : Z.may ⟨2, i, s⟩ = true) : D.cl (Z.u i) = Z.u i ∧ s = ⟨#[]⟩ := by
  unfold Z.may at h
  simp at h
  exact ⟨by rw [← Z.u_sg (D.cl_in (Z.u_in i)), h.1], h.2⟩

/-- What was laid down is read. -/
theorem back_one {k i : Int} {s : ByteArray} (hi : Z.I64 i) (h : Z.may ⟨k, i, s⟩ = true) (more : List Nat) :
    Z.oE (Z.lb ⟨k, i, s⟩ ++ more) k = 0 ∧ Z.oV (Z.lb ⟨k, i, s⟩ ++ more) k = ⟨k, i, s⟩ ∧ Z.oR (Z.lb ⟨k, i, s⟩ ++ more) k = more := by
  rcases may_kind h with rfl | rfl | rfl | rfl
  · have e : Z.oE (Z.lb ⟨0, i, s⟩ ++ more) 0 = 0 := by unfold Z.oE; rw [if_pos rfl]
    have hl : Z.lb ⟨0, i, s⟩ = [] := lb_else (by decide) (by decide) (by decide)
    rw [may_null] at h
    refine ⟨e, ?_, ?_⟩
    · unfold Z.oV; rw [if_pos e]; rw [(Z.same_iff _ _).1 h]; rfl
    · unfold Z.oR; rw [if_pos e, hl]; rfl
  · rw [may_int] at h
    obtain rfl := isEmpty_eq h
    obtain ⟨g1, g2, g3⟩ := E.g_put (E.zig i) (E.zig_lt i hi.1 hi.2) more
    rw [lb_int]
    have e : Z.oE (E.leb (E.zig i) ++ more) 1 = 0 := by unfold Z.oE; rw [if_neg (by decide), if_pos rfl, g1]
    refine ⟨e, ?_, ?_⟩
    · unfold Z.oV; rw [if_pos e]; unfold Z.oW; rw [if_pos rfl, g3, E.zag_zig]
    · unfold Z.oR; rw [if_pos e]; unfold Z.oS; rw [if_pos rfl, g2, List.drop_left]
  · obtain ⟨hc, rfl⟩ := clean_of hi h
    rw [lb_float]
    have h8 : Z.o8 (Z.k8 (D.ky (Z.u i)).toNat ++ more) = (D.ky (Z.u i)).toNat := Z.o8_k8 _ _
    have hb : D.bt (D.ky (Z.u i)) = Z.u i := by rw [D.bt_ky (Z.u_in i), hc]
    have e : Z.oE (Z.k8 (D.ky (Z.u i)).toNat ++ more) 2 = 0 := by
      unfold Z.oE; rw [if_neg (by decide), if_neg (by decide), if_pos rfl, if_neg (by simp [Z.k8_length]), if_pos]
      rw [h8, ky_nat, hb]
    refine ⟨e, ?_, ?_⟩
    · unfold Z.oV; rw [if_pos e]; unfold Z.oW; rw [if_neg (by decide), if_pos rfl, h8, ky_nat, hb, Z.sg_u hi]
    · unfold Z.oR; rw [if_pos e]; unfold Z.oS; rw [if_neg (by decide), if_pos rfl]
      exact List.drop_left' (Z.k8_length _)
  · have hsz := may_size h
    rw [may_text] at h
    obtain rfl : i = 0 := by simp at h; exact h.1
    rw [lb_text]
    obtain ⟨g1, g2, g3⟩ := E.g_put s.size (by omega) (sb s ++ more)
    rw [← List.append_assoc] at g1 g2 g3
    have e0 : E.xE 1024 (E.leb s.size ++ sb s ++ more) = 0 := E.xE_ok g1 (by omega) (by rw [g3]; omega) (by rw [g2, g3]; simp [sb_length])
    have e : Z.oE (E.leb s.size ++ sb s ++ more) 3 = 0 := by unfold Z.oE; rw [if_neg (by decide), if_neg (by decide), if_neg (by decide), if_pos rfl, e0]
    have ed : (E.leb s.size ++ sb s ++ more).drop (E.leb s.size).length = sb s ++ more := by rw [List.append_assoc, List.drop_left]
    refine ⟨e, ?_, ?_⟩
    · unfold Z.oV; rw [if_pos e]; unfold Z.oW; rw [if_neg (by decide), if_neg (by decide), if_pos rfl, E.xS, g2, g3, ed, List.take_left' (sb_length s), str_sb]
    · unfold Z.oR; rw [if_pos e]; unfold Z.oS; rw [if_neg (by decide), if_neg (by decide), if_pos rfl, E.xR, g2, g3, ed, List.drop_left' (sb_length s)]
theorem bt_clean (k : Int) : D.cl (D.bt k) = D.bt k := by unfold D.bt; rw [D.cl_cl]
/-- What is read may be, and is laid down as it was. -/
theorem back_two {l : List Nat} (h256 : ∀ x ∈ l, x < 256) {kind : Int} (h : Z.oE l kind = 0) : Z.may (Z.oV l kind) = true ∧ Z.lb (Z.oV l kind) ++ Z.oR l kind = l := by
  have ev : Z.oV l kind = Z.oW l kind := by unfold Z.oV; rw [if_pos h]
  have er : Z.oR l kind = Z.oS l kind := by unfold Z.oR; rw [if_pos h]
  rw [ev, er]
  unfold Z.oE at h
  by_cases k0 : kind = 0
  · subst k0
    exact ⟨(by decide : Z.may ⟨0, 0, ⟨#[]⟩⟩ = true), rfl⟩
  · rw [if_neg k0] at h
    by_cases k1 : kind = 1
    · subst k1
      rw [if_pos rfl] at h
      have ew : Z.oW l 1 = ⟨1, E.zag (E.gN l), ⟨#[]⟩⟩ := by unfold Z.oW; rw [if_pos rfl]
      rw [ew, may_int, lb_int, E.zig_zag, E.g_ones h h256]
      refine ⟨by rw [empty_of]; decide, ?_⟩
      unfold Z.oS; rw [if_pos rfl, List.take_append_drop]
    · rw [if_neg k1] at h
      by_cases k2 : kind = 2
      · subst k2
        rw [if_pos rfl] at h
        split at h
        · exact absurd h (by decide)
        · rename_i h8
          split at h
          · rename_i hk
            have hin : D.In64 ((Z.o8 l : Nat) : Int) := by have := Z.o8_lt h256; exact ⟨by omega, by omega⟩
            have hb := D.bt_in hin
            have ew : Z.oW l 2 = ⟨2, Z.sg (D.bt ((Z.o8 l : Nat) : Int)), ⟨#[]⟩⟩ := by unfold Z.oW; rw [if_neg (by decide), if_pos rfl]
            rw [ew, lb_float, Z.u_sg hb, hk, Int.toNat_natCast]
            refine ⟨?_, ?_⟩
            · unfold Z.may; simp [Z.u_sg hb, bt_clean]
            · unfold Z.oS; rw [if_neg (by decide), if_pos rfl]; exact Z.k8_o8 h256 (by omega)
          · exact absurd h (by decide)
      · rw [if_neg k2] at h
        by_cases k3 : kind = 3
        · subst k3
          rw [if_pos rfl] at h
          have ew : Z.oW l 3 = ⟨3, 0, strOfNums (ints (E.xS l))⟩ := by unfold Z.oW; rw [if_neg (by decide), if_neg (by decide), if_pos rfl]
          have hx : E.gE l = 0 ∧ E.gN l ≤ 1024 ∧ E.gN l ≤ l.length - E.gK l := by
            unfold E.xE at h
            split at h
            · exact absurd h (by assumption)
            · rename_i hg
              split at h
              · exact absurd h (by decide)
              · split at h
                · exact absurd h (by decide)
                · refine ⟨?_, by omega, by omega⟩
                  rcases Nat.eq_zero_or_pos (E.gE l) with hz | hz
                  · exact hz
                  · exact absurd (by omega : E.gE l ≠ 0) hg
          obtain ⟨hg, hn, hn2⟩ := hx
          have hlen : (E.xS l).length = E.gN l := by unfold E.xS; simp; omega
          have hs256 : ∀ x ∈ E.xS l, x < 256 := fun x hx => h256 x (List.mem_of_mem_drop (List.mem_of_mem_take hx))
          have hsz : (strOfNums (ints (E.xS l))).size = E.gN l := by rw [← sb_length, sb_str hs256, hlen]
          rw [ew, may_text, lb_text, sb_str hs256, hsz, E.g_ones hg h256]
          refine ⟨by simp; omega, ?_⟩
          unfold Z.oS; rw [if_neg (by decide), if_neg (by decide), if_pos rfl]
          unfold E.xS E.xR
          rw [List.append_assoc, List.take_append_drop, List.take_append_drop]
        · rw [if_neg k3] at h; exact absurd h (by decide)
end Go.Proofs.Ytahpbenobhodnaa

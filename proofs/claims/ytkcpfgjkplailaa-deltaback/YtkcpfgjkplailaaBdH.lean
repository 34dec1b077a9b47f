/- The contract of val's keyBytes: a number's eight bytes, the highest first. -/
import Derived.Test.YtkcpfgjkplailaaBdF
import Derived.Test.YtkcpfgjkplailaaBdG
import Derived.Handy
namespace Go.Proofs.Ytkcpfgjkplailaa
set_option linter.unusedVariables false
open Go.RowKit

/-- Eight bytes, the highest first; and back. -/
def Z.k8 (n : Nat) : List Nat := [n / 72057594037927936, n / 281474976710656 % 256, n / 1099511627776 % 256, n / 4294967296 % 256, n / 16777216 % 256, n / 65536 % 256, n / 256 % 256, n % 256]
def Z.o8 (l : List Nat) : Nat := (((((((l.getD 0 0 * 256 + l.getD 1 0) * 256 + l.getD 2 0) * 256 + l.getD 3 0) * 256 + l.getD 4 0) * 256 + l.getD 5 0) * 256 + l.getD 6 0) * 256 + l.getD 7 0)
theorem Z.k8_length (n : Nat) : (Z.k8 n).length = 8 := rfl
theorem Z.k8_lt {n : Nat} (h : n < 18446744073709551616) : ∀ x ∈ Z.k8 n, x < 256 := by
  intro x hx
  simp [Z.k8] at hx
  omega
theorem Z.o8_k8 (n : Nat) (more : List Nat) : Z.o8 (Z.k8 n ++ more) = n := by
  simp only [Z.o8, Z.k8, List.cons_append, List.getD_cons_zero, List.getD_cons_succ]; omega
theorem Z.o8_lt {l : List Nat} (h : ∀ x ∈ l, x < 256) : Z.o8 l < 18446744073709551616 := by
  have h0 := E.getD_lt h 0; have h1 := E.getD_lt h 1; have h2 := E.getD_lt h 2; have h3 := E.getD_lt h 3
  have h4 := E.getD_lt h 4; have h5 := E.getD_lt h 5; have h6 := E.getD_lt h 6; have h7 := E.getD_lt h 7
  unfold Z.o8; omega
theorem Z.k8_o8 {l : List Nat} (h : ∀ x ∈ l, x < 256) (h8 : 8 ≤ l.length) : Z.k8 (Z.o8 l) ++ l.drop 8 = l := by
  have h0 := E.getD_lt h 0; have h1 := E.getD_lt h 1; have h2 := E.getD_lt h 2; have h3 := E.getD_lt h 3
  have h4 := E.getD_lt h 4; have h5 := E.getD_lt h 5; have h6 := E.getD_lt h 6; have h7 := E.getD_lt h 7
  match l, h8 with
  | a :: b :: c :: d :: e :: f :: g :: i :: r, _ =>
    simp only [List.getD_cons_zero, List.getD_cons_succ] at h0 h1 h2 h3 h4 h5 h6 h7
    have ev : Z.o8 (a :: b :: c :: d :: e :: f :: g :: i :: r) = (((((((a * 256 + b) * 256 + c) * 256 + d) * 256 + e) * 256 + f) * 256 + g) * 256 + i) := by
      simp only [Z.o8, List.getD_cons_zero, List.getD_cons_succ]
    rw [ev]
    simp only [Z.k8, List.cons_append, List.nil_append, List.drop_succ_cons, List.drop_zero, List.cons.injEq, and_true]
    omega
theorem made_eight : madeCells (Value.int .u8 0).cells 8 = #[.int .u8 0, .int .u8 0, .int .u8 0, .int .u8 0, .int .u8 0, .int .u8 0, .int .u8 0, .int .u8 0] := by
  apply Array.ext'
  simp [madeCells, Value.cells, List.range_succ]
theorem make_eight (w : World) : (Instr.makeSlice 23 (.int .i64 8) (.int .i64 8)).run Try.prog w = .ok (.slice (some ⟨w.heap.size, 0, none⟩) 8 8) (w.alloc (.cells #[.int .u8 0, .int .u8 0, .int .u8 0, .int .u8 0, .int .u8 0, .int .u8 0, .int .u8 0, .int .u8 0] 5)) := by
  obtain ⟨i0, hi, hz0, hz1, hz2⟩ := info_parts Try.infoU8
  have h := run_make (P := Try.prog) w 23 5 i0 (.int .u8 0) Try.underlying23 hi hz0 .i64 .i64 8 8 (by omega) (Int.le_refl _) (by rw [hz2]; omega) (by omega)
  rw [hz1, Nat.mul_one] at h
  rw [h]
  show Result.ok _ (w.alloc (.cells (madeCells (Value.int .u8 0).cells 8) 5)) = _
  rw [made_eight]; rfl
/-- Eight bytes that were made. -/
theorem Sl.eight (w : World) (t : TypeId) (b0 b1 b2 b3 b4 b5 b6 b7 : Int) : Sl (w.alloc (.cells #[.int .u8 b0, .int .u8 b1, .int .u8 b2, .int .u8 b3, .int .u8 b4, .int .u8 b5, .int .u8 b6, .int .u8 b7] t)) .u8 (some ⟨w.heap.size, 0, none⟩) 8 8 [b0, b1, b2, b3, b4, b5, b6, b7] := by
  refine ⟨rfl, Nat.le_refl _, by decide, by simp, .inr ⟨_, _, rfl, by simp, ?_⟩⟩
  intro i hi
  match i, hi with
  | 0, _ => simp
  | 1, _ => simp
  | 2, _ => simp
  | 3, _ => simp
  | 4, _ => simp
  | 5, _ => simp
  | 6, _ => simp
  | 7, _ => simp
end Go.Proofs.Ytkcpfgjkplailaa
/- The contract of val's Bytes. -/
namespace Go.Proofs.Ytkcpfgjkplailaa
set_option linter.unusedVariables false
open Go.RowKit

/-- A value's bytes; none, if it may not be; and the error. -/
def Z.lb (x : Z.V) : List Nat := if x.k = 1 then E.leb (E.zig x.i) else if x.k = 2 then Z.k8 (D.ky (Z.u x.i)).toNat else if x.k = 3 then E.leb x.s.size ++ sb x.s else []
def Z.bl (x : Z.V) : List Nat := if Z.may x then Z.lb x else []
def Z.be (x : Z.V) : Int := if Z.may x then 0 else 1
/-- What Bytes answers. -/
def BytesOf (x : Z.V) (w : World) (e : Ending) (w' : World) : Prop := ∃ a c, e = .returned (.tuple #[.slice a (Z.bl x).length c, .int .i64 (Z.be x)]) ∧ Sl w' .u8 a (Z.bl x).length c (ints (Z.bl x)) ∧ Below w.heap.size w w'
theorem BytesOf.no {x : Z.V} {w w' : World} (h : Z.may x = false) (hb : Below w.heap.size w w') : BytesOf x w (.returned (.tuple #[.slice none 0 0, .int .i64 1])) w' := by
  have e1 : Z.bl x = [] := by unfold Z.bl; rw [h]; rfl
  have e2 : Z.be x = 1 := by unfold Z.be; rw [h]; rfl
  unfold BytesOf; rw [e1, e2]
  exact ⟨none, 0, rfl, Sl.nil _ _, hb⟩
theorem BytesOf.yes {x : Z.V} {w w' : World} {l : List Nat} {a : Option Addr} {len c : Nat} (h : Z.may x = true) (hl : Z.lb x = l) (hn : l.length = len) (hs : Sl w' .u8 a len c (ints l)) (hb : Below w.heap.size w w') : BytesOf x w (.returned (.tuple #[.slice a len c, .int .i64 0])) w' := by
  have e1 : Z.bl x = l := by unfold Z.bl; rw [h]; exact hl
  have e2 : Z.be x = 0 := by unfold Z.be; rw [h]; rfl
  subst hn
  unfold BytesOf; rw [e1, e2]
  exact ⟨a, c, rfl, hs, hb⟩
theorem lb_int {i : Int} {s : ByteArray} : Z.lb ⟨1, i, s⟩ = E.leb (E.zig i) := by unfold Z.lb; simp
theorem lb_float {i : Int} {s : ByteArray} : Z.lb ⟨2, i, s⟩ = Z.k8 (D.ky (Z.u i)).toNat := by unfold Z.lb; simp
theorem lb_text {i : Int} {s : ByteArray} : Z.lb ⟨3, i, s⟩ = E.leb s.size ++ sb s := by unfold Z.lb; simp
theorem lb_else {k i : Int} {s : ByteArray} (h1 : k ≠ 1) (h2 : k ≠ 2) (h3 : k ≠ 3) : Z.lb ⟨k, i, s⟩ = [] := by unfold Z.lb; simp [h1, h2, h3]
theorem may_size {i : Int} {s : ByteArray} (h : Z.may ⟨3, i, s⟩ = true) : s.size ≤ 1024 := by
  rw [may_text] at h; simp at h; omega

end Go.Proofs.Ytkcpfgjkplailaa
/- Plain: bytes as a value of a kind; there and back. Nothing of the program. -/
namespace Go.Proofs.Ytkcpfgjkplailaa
set_option linter.unusedVariables false
open Go.RowKit

/-- Which error; which value; what stands behind it. -/
def Z.oE (l : List Nat) (kind : Int) : Nat := if kind = 0 then 0 else if kind = 1 then E.gE l else if kind = 2 then (if l.length < 8 then 3 else if D.ky (D.bt ((Z.o8 l : Nat) : Int)) = ((Z.o8 l : Nat) : Int) then 0 else 4) else if kind = 3 then E.xE 1024 l else 1
def Z.oW (l : List Nat) (kind : Int) : Z.V := if kind = 1 then ⟨1, E.zag (E.gN l), ⟨#[]⟩⟩ else if kind = 2 then ⟨2, Z.sg (D.bt ((Z.o8 l : Nat) : Int)), ⟨#[]⟩⟩ else if kind = 3 then ⟨3, 0, strOfNums (ints (E.xS l))⟩ else ⟨0, 0, ⟨#[]⟩⟩
def Z.oS (l : List Nat) (kind : Int) : List Nat := if kind = 1 then l.drop (E.gK l) else if kind = 2 then l.drop 8 else if kind = 3 then E.xR l else l
def Z.oV (l : List Nat) (kind : Int) : Z.V := if Z.oE l kind = 0 then Z.oW l kind else ⟨0, 0, ⟨#[]⟩⟩
def Z.oR (l : List Nat) (kind : Int) : List Nat := if Z.oE l kind = 0 then Z.oS l kind else []

theorem str_sb (s : ByteArray) : strOfNums (ints (sb s)) = s := by
  cases s with
  | mk d =>
    simp only [strOfNums, ints, sb, List.map_map]
    congr 1
    have : (d.toList.map ((fun n : Int => UInt8.ofNat n.toNat) ∘ (fun x : Nat => (x : Int)) ∘ UInt8.toNat)) = d.toList := by
      conv => rhs; rw [← List.map_id d.toList]
      apply List.map_congr_left
      intro x _
      simp
    rw [this]
theorem sb_str {l : List Nat} (h : ∀ x ∈ l, x < 256) : sb (strOfNums (ints l)) = l := by
  simp only [strOfNums, ints, sb, List.map_map]
  conv => rhs; rw [← List.map_id l]
  apply List.map_congr_left
  intro x hx
  have := h x hx
  simp; omega

theorem may_kind {k i : Int} {s : ByteArray} (h : Z.may ⟨k, i, s⟩ = true) : k = 0 ∨ k = 1 ∨ k = 2 ∨ k = 3 := by
  by_cases h0 : k = 0
  · exact .inl h0
  · by_cases h1 : k = 1
    · exact .inr (.inl h1)
    · by_cases h2 : k = 2
      · exact .inr (.inr (.inl h2))
      · by_cases h3 : k = 3
        · exact .inr (.inr (.inr h3))
        · rw [may_else h0 h1 h2 h3] at h; exact absurd h (by simp)
theorem isEmpty_eq {s : ByteArray} (h : s.toList.isEmpty = true) : s = ⟨#[]⟩ := by rw [empty_of] at h; exact of_decide_eq_true h
theorem ky_nat {i : Int} : (((D.ky (Z.u i)).toNat : Nat) : Int) = D.ky (Z.u i) := Int.toNat_of_nonneg (D.ky_in (Z.u_in i)).1
theorem clean_of {i : Int} {s : ByteArray} (hi : Z.I64 i) (h : Z.may ⟨2, i, s⟩ = true) : D.cl (Z.u i) = Z.u i ∧ s = ⟨#[]⟩ := by
  unfold Z.may at h
  simp at h
  exact ⟨by rw [← Z.u_sg (D.cl_in (Z.u_in i)), h.1], h.2⟩

/-- What was laid down is read. -/
theorem back_one {k i : Int} {s : ByteArray} (hi : Z.I64 i) (h : Z.may ⟨k, i, s⟩ = true) (more : List Nat) :
    Z.oE (Z.lb ⟨k, i, s⟩ ++ more) k = 0 ∧ Z.oV (Z.lb ⟨k, i, s⟩ ++ more) k = ⟨k, i, s⟩ ∧ Z.oR (Z.lb ⟨k, i, s⟩ ++ more) k = more := by
  rcases may_kind h with rfl | rfl | rfl | rfl
  · have e : Z.oE (Z.lb ⟨0, i, s⟩ ++ more) 0 = 0 := by unfold Z.oE; rw [if_pos rfl]
    have hl : Z.lb ⟨0, i, s⟩ = [] := lb_else (by decide) (by decide) (by decide)
    rw [may_null] at h
    refine ⟨e, ?_, ?_⟩
    · unfold Z.oV; rw [if_pos e]; rw [(Z.same_iff _ _).1 h]; rfl
    · unfold Z.oR; rw [if_pos e, hl]; rfl
  · rw [may_int] at h
    obtain rfl := isEmpty_eq h
    obtain ⟨g1, g2, g3⟩ := E.g_put (E.zig i) (E.zig_lt i hi.1 hi.2) more
    rw [lb_int]
    have e : Z.oE (E.leb (E.zig i) ++ more) 1 = 0 := by unfold Z.oE; rw [if_neg (by decide), if_pos rfl, g1]
    refine ⟨e, ?_, ?_⟩
    · unfold Z.oV; rw [if_pos e]; unfold Z.oW; rw [if_pos rfl, g3, E.zag_zig]
    · unfold Z.oR; rw [if_pos e]; unfold Z.oS; rw [if_pos rfl, g2, List.drop_left]
  · obtain ⟨hc, rfl⟩ := clean_of hi h
    rw [lb_float]
    have h8 : Z.o8 (Z.k8 (D.ky (Z.u i)).toNat ++ more) = (D.ky (Z.u i)).toNat := Z.o8_k8 _ _
    have hb : D.bt (D.ky (Z.u i)) = Z.u i := by rw [D.bt_ky (Z.u_in i), hc]
    have e : Z.oE (Z.k8 (D.ky (Z.u i)).toNat ++ more) 2 = 0 := by
      unfold Z.oE; rw [if_neg (by decide), if_neg (by decide), if_pos rfl, if_neg (by simp [Z.k8_length]), if_pos]
      rw [h8, ky_nat, hb]
    refine ⟨e, ?_, ?_⟩
    · unfold Z.oV; rw [if_pos e]; unfold Z.oW; rw [if_neg (by decide), if_pos rfl, h8, ky_nat, hb, Z.sg_u hi]
    · unfold Z.oR; rw [if_pos e]; unfold Z.oS; rw [if_neg (by decide), if_pos rfl]
      exact List.drop_left' (Z.k8_length _)
  · have hsz := may_size h
    rw [may_text] at h
    obtain rfl : i = 0 := by simp at h; exact h.1
    rw [lb_text]
    obtain ⟨g1, g2, g3⟩ := E.g_put s.size (by omega) (sb s ++ more)
    rw [← List.append_assoc] at g1 g2 g3
    have e0 : E.xE 1024 (E.leb s.size ++ sb s ++ more) = 0 := E.xE_ok g1 (by omega) (by rw [g3]; omega) (by rw [g2, g3]; simp [sb_length])
    have e : Z.oE (E.leb s.size ++ sb s ++ more) 3 = 0 := by unfold Z.oE; rw [if_neg (by decide), if_neg (by decide), if_neg (by decide), if_pos rfl, e0]
    have ed : (E.leb s.size ++ sb s ++ more).drop (E.leb s.size).length = sb s ++ more := by rw [List.append_assoc, List.drop_left]
    refine ⟨e, ?_, ?_⟩
    · unfold Z.oV; rw [if_pos e]; unfold Z.oW; rw [if_neg (by decide), if_neg (by decide), if_pos rfl, E.xS, g2, g3, ed, List.take_left' (sb_length s), str_sb]
    · unfold Z.oR; rw [if_pos e]; unfold Z.oS; rw [if_neg (by decide), if_neg (by decide), if_pos rfl, E.xR, g2, g3, ed, List.drop_left' (sb_length s)]
theorem bt_clean (k : Int) : D.cl (D.bt k) = D.bt k := by unfold D.bt; rw [D.cl_cl]
/-- What is read may be, and is laid down as it was. -/
theorem back_two {l : List Nat} (h256 : ∀ x ∈ l, x < 256) {kind : Int} (h : Z.oE l kind = 0) : Z.may (Z.oV l kind) = true ∧ Z.lb (Z.oV l kind) ++ Z.oR l kind = l := by
  have ev : Z.oV l kind = Z.oW l kind := by unfold Z.oV; rw [if_pos h]
  have er : Z.oR l kind = Z.oS l kind := by unfold Z.oR; rw [if_pos h]
  rw [ev, er]
  unfold Z.oE at h
  by_cases k0 : kind = 0
  · subst k0
    exact ⟨(by decide : Z.may ⟨0, 0, ⟨#[]⟩⟩ = true), rfl⟩
  · rw [if_neg k0] at h
    by_cases k1 : kind = 1
    · subst k1
      rw [if_pos rfl] at h
      have ew : Z.oW l 1 = ⟨1, E.zag (E.gN l), ⟨#[]⟩⟩ := by unfold Z.oW; rw [if_pos rfl]
      rw [ew, may_int, lb_int, E.zig_zag, E.g_ones h h256]
      refine ⟨by rw [empty_of]; decide, ?_⟩
      unfold Z.oS; rw [if_pos rfl, List.take_append_drop]
    · rw [if_neg k1] at h
      by_cases k2 : kind = 2
      · subst k2
        rw [if_pos rfl] at h
        split at h
        · exact absurd h (by decide)
        · rename_i h8
          split at h
          · rename_i hk
            have hin : D.In64 ((Z.o8 l : Nat) : Int) := by have := Z.o8_lt h256; exact ⟨by omega, by omega⟩
            have hb := D.bt_in hin
            have ew : Z.oW l 2 = ⟨2, Z.sg (D.bt ((Z.o8 l : Nat) : Int)), ⟨#[]⟩⟩ := by unfold Z.oW; rw [if_neg (by decide), if_pos rfl]
            rw [ew, lb_float, Z.u_sg hb, hk, Int.toNat_natCast]
            refine ⟨?_, ?_⟩
            · unfold Z.may; simp [Z.u_sg hb, bt_clean]
            · unfold Z.oS; rw [if_neg (by decide), if_pos rfl]; exact Z.k8_o8 h256 (by omega)
          · exact absurd h (by decide)
      · rw [if_neg k2] at h
        by_cases k3 : kind = 3
        · subst k3
          rw [if_pos rfl] at h
          have ew : Z.oW l 3 = ⟨3, 0, strOfNums (ints (E.xS l))⟩ := by unfold Z.oW; rw [if_neg (by decide), if_neg (by decide), if_pos rfl]
          have hx : E.gE l = 0 ∧ E.gN l ≤ 1024 ∧ E.gN l ≤ l.length - E.gK l := by
            unfold E.xE at h
            split at h
            · exact absurd h (by assumption)
            · rename_i hg
              split at h
              · exact absurd h (by decide)
              · split at h
                · exact absurd h (by decide)
                · refine ⟨?_, by omega, by omega⟩
                  rcases Nat.eq_zero_or_pos (E.gE l) with hz | hz
                  · exact hz
                  · exact absurd (by omega : E.gE l ≠ 0) hg
          obtain ⟨hg, hn, hn2⟩ := hx
          have hlen : (E.xS l).length = E.gN l := by unfold E.xS; simp; omega
          have hs256 : ∀ x ∈ E.xS l, x < 256 := fun x hx => h256 x (List.mem_of_mem_drop (List.mem_of_mem_take hx))
          have hsz : (strOfNums (ints (E.xS l))).size = E.gN l := by rw [← sb_length, sb_str hs256, hlen]
          rw [ew, may_text, lb_text, sb_str hs256, hsz, E.g_ones hg h256]
          refine ⟨by simp; omega, ?_⟩
          unfold Z.oS; rw [if_neg (by decide), if_neg (by decide), if_pos rfl]
          unfold E.xS E.xR
          rw [List.append_assoc, List.take_append_drop, List.take_append_drop]
        · rw [if_neg k3] at h; exact absurd h (by decide)
end Go.Proofs.Ytkcpfgjkplailaa
/- Plain facts on columns: values laid down one behind the other, and read. -/
namespace Go.Proofs.Ytkcpfgjkplailaa
set_option linter.unusedVariables false
open Go.RowKit

/-- A column's bytes. -/
def Z.pb (l : List Z.V) : List Nat := l.flatMap Z.lb
theorem pb_cons (x : Z.V) (l : List Z.V) : Z.pb (x :: l) = Z.lb x ++ Z.pb l := rfl
theorem pb_append (l m : List Z.V) : Z.pb (l ++ m) = Z.pb l ++ Z.pb m := by simp [Z.pb]
theorem pb_snoc (l : List Z.V) (x : Z.V) : Z.pb (l ++ [x]) = Z.pb l ++ Z.lb x := by simp [Z.pb]
/-- So many values read: the error, the values, what stands behind. -/
def Z.pE (kind : Int) : Nat → List Nat → Nat
  | 0, _ => 0
  | n + 1, b => if Z.oE b kind = 0 then Z.pE kind n (Z.oR b kind) else Z.oE b kind
def Z.pL (kind : Int) : Nat → List Nat → List Z.V
  | 0, _ => []
  | n + 1, b => Z.oV b kind :: Z.pL kind n (Z.oR b kind)
def Z.pR (kind : Int) : Nat → List Nat → List Nat
  | 0, b => b
  | n + 1, b => Z.pR kind n (Z.oR b kind)
theorem pR_succ (kind : Int) : ∀ (n : Nat) (b : List Nat), Z.pR kind (n + 1) b = Z.oR (Z.pR kind n b) kind
  | 0, b => rfl
  | n + 1, b => pR_succ kind n (Z.oR b kind)
theorem pL_succ (kind : Int) : ∀ (n : Nat) (b : List Nat), Z.pL kind (n + 1) b = Z.pL kind n b ++ [Z.oV (Z.pR kind n b) kind]
  | 0, b => rfl
  | n + 1, b => by
    have := pL_succ kind n (Z.oR b kind)
    rw [Z.pL, this]
    rfl
theorem pL_length (kind : Int) : ∀ (n : Nat) (b : List Nat), (Z.pL kind n b).length = n
  | 0, _ => rfl
  | n + 1, b => by rw [Z.pL, List.length_cons, pL_length kind n]
theorem pE_succ (kind : Int) : ∀ (n : Nat) (b : List Nat), Z.pE kind n b = 0 → Z.pE kind (n + 1) b = Z.oE (Z.pR kind n b) kind
  | 0, b, _ => by
    show (if Z.oE b kind = 0 then 0 else Z.oE b kind) = Z.oE b kind
    split <;> simp_all
  | n + 1, b, h => by
    have h0 : Z.oE b kind = 0 := by
      rw [Z.pE] at h
      split at h
      · assumption
      · contradiction
    have h1 : Z.pE kind n (Z.oR b kind) = 0 := by rwa [Z.pE, if_pos h0] at h
    have ih := pE_succ kind n (Z.oR b kind) h1
    rw [Z.pE, if_pos h0]
    exact ih
theorem pE_more (kind : Int) : ∀ (n m : Nat) (b : List Nat), Z.pE kind n b ≠ 0 → Z.pE kind (n + m) b = Z.pE kind n b
  | 0, m, b, h => absurd rfl h
  | n + 1, m, b, h => by
    rw [show n + 1 + m = (n + m) + 1 by omega, Z.pE, Z.pE]
    rw [Z.pE] at h
    split
    · rename_i h0
      rw [if_pos h0] at h
      exact pE_more kind n m _ h
    · rfl
/-- Where the j-th value can't be read, that is the error. -/
theorem pE_stop {kind : Int} {j n : Nat} {b : List Nat} (h : Z.pE kind j b = 0) (hj : j < n) (hg : Z.oE (Z.pR kind j b) kind ≠ 0) : Z.pE kind n b = Z.oE (Z.pR kind j b) kind := by
  have h1 := pE_succ kind j b h
  have h2 := pE_more kind (j + 1) (n - (j + 1)) b (by rw [h1]; exact hg)
  rw [show j + 1 + (n - (j + 1)) = n by omega] at h2
  rw [h2, h1]
/-- A value of a column of such a kind. -/
def Z.Fit (kind : Int) (x : Z.V) : Prop := x.k = kind ∧ Z.may x = true ∧ Z.I64 x.i
theorem p_back (kind : Int) (more : List Nat) : ∀ l : List Z.V, (∀ x ∈ l, Z.Fit kind x) → Z.pE kind l.length (Z.pb l ++ more) = 0 ∧ Z.pL kind l.length (Z.pb l ++ more) = l ∧ Z.pR kind l.length (Z.pb l ++ more) = more
  | [], _ => ⟨rfl, rfl, rfl⟩
  | ⟨k, i, s⟩ :: l, h => by
    obtain ⟨hk, hm, hi⟩ := h _ List.mem_cons_self
    have hk' : k = kind := hk
    subst hk'
    obtain ⟨e1, e2, e3⟩ := back_one hi hm (Z.pb l ++ more)
    obtain ⟨f1, f2, f3⟩ := p_back k more l fun x hx => h x (List.mem_cons_of_mem _ hx)
    rw [pb_cons, List.append_assoc, List.length_cons]
    refine ⟨?_, ?_, ?_⟩
    · rw [Z.pE, if_pos e1, e3]; exact f1
    · rw [Z.pL, e2, e3, f2]
    · rw [Z.pR, e3]; exact f3
theorem oR_lt {b : List Nat} (h : ∀ x ∈ b, x < 256) (kind : Int) : ∀ x ∈ Z.oR b kind, x < 256 := by
  intro x hx
  unfold Z.oR at hx
  split at hx
  · unfold Z.oS at hx
    split at hx
    · exact h x (List.mem_of_mem_drop hx)
    · split at hx
      · exact h x (List.mem_of_mem_drop hx)
      · split at hx
        · exact h x (List.mem_of_mem_drop (List.mem_of_mem_drop hx))
        · exact h x hx
  · simp at hx
theorem pR_lt {kind : Int} : ∀ (n : Nat) (b : List Nat), (∀ x ∈ b, x < 256) → ∀ x ∈ Z.pR kind n b, x < 256
  | 0, _, h => h
  | n + 1, b, h => pR_lt n _ (oR_lt h kind)
theorem oW_k {b : List Nat} {kind : Int} (h : kind = 1 ∨ kind = 2 ∨ kind = 3) : (Z.oW b kind).k = kind := by
  unfold Z.oW
  rcases h with rfl | rfl | rfl <;> rfl
/-- What is read is laid down as the very bytes. -/
theorem p_two {kind : Int} (hkind : kind = 1 ∨ kind = 2 ∨ kind = 3) : ∀ (n : Nat) (b : List Nat), (∀ x ∈ b, x < 256) → Z.pE kind n b = 0 → (∀ x ∈ Z.pL kind n b, x.k = kind ∧ Z.may x = true) ∧ Z.pb (Z.pL kind n b) ++ Z.pR kind n b = b
  | 0, b, _, _ => ⟨by simp [Z.pL], rfl⟩
  | n + 1, b, h256, h => by
    have h0 : Z.oE b kind = 0 := by
      rw [Z.pE] at h
      split at h
      · assumption
      · contradiction
    rw [Z.pE, if_pos h0] at h
    obtain ⟨g1, g2⟩ := back_two h256 h0
    obtain ⟨f1, f2⟩ := p_two hkind n _ (oR_lt h256 kind) h
    refine ⟨fun x hx => ?_, ?_⟩
    · rw [Z.pL] at hx
      rcases List.mem_cons.1 hx with rfl | hx
      · exact ⟨by unfold Z.oV; rw [if_pos h0]; exact oW_k hkind, g1⟩
      · exact f1 x hx
    · rw [Z.pL, pb_cons, Z.pR, List.append_assoc, f2]
      exact g2
/-- A value's bytes, cut ahead of their end, are too short. -/
theorem lb_cut {k i : Int} {s : ByteArray} (hi : Z.I64 i) (hm : Z.may ⟨k, i, s⟩ = true) (c : Nat) (hc : c < (Z.lb ⟨k, i, s⟩).length) : Z.oE ((Z.lb ⟨k, i, s⟩).take c) k = 3 := by
  rcases may_kind hm with rfl | rfl | rfl | rfl
  · rw [lb_else (by decide) (by decide) (by decide)] at hc
    simp at hc
  · rw [lb_int] at hc ⊢
    unfold Z.oE
    rw [if_neg (by decide), if_pos rfl]
    exact E.g_cut _ (E.zig_lt i hi.1 hi.2) c hc
  · rw [lb_float] at hc ⊢
    unfold Z.oE
    rw [if_neg (by decide), if_neg (by decide), if_pos rfl]
    rw [Z.k8_length] at hc
    rw [if_pos (by rw [List.length_take, Z.k8_length]; omega)]
  · have hsz := may_size hm
    rw [lb_text] at hc ⊢
    unfold Z.oE
    rw [if_neg (by decide), if_neg (by decide), if_neg (by decide), if_pos rfl]
    by_cases h1 : c < (E.leb s.size).length
    · have h2 : (E.leb s.size ++ sb s).take c = (E.leb s.size).take c := by rw [List.take_append_of_le_length (by omega)]
      rw [h2, E.xE_bad (by rw [E.g_cut _ (by omega) c h1]; decide)]
      exact E.g_cut _ (by omega) c h1
    · have h2 : (E.leb s.size ++ sb s).take c = E.leb s.size ++ (sb s).take (c - (E.leb s.size).length) := by
        rw [List.take_append, List.take_of_length_le (by omega)]
      have h3 := E.g_put s.size (by omega) ((sb s).take (c - (E.leb s.size).length))
      rw [List.length_append] at hc
      have hsb : (sb s).length = s.size := by
        unfold sb
        simp
      rw [h2]
      refine E.xE_short h3.1 (by decide) (by rw [h3.2.2]; omega) ?_
      rw [h3.2.1, h3.2.2, List.length_append, List.length_take, hsb]
      omega
/-- A column's bytes, cut ahead of their end, are not as many values. -/
theorem p_cut (kind : Int) : ∀ (l : List Z.V), (∀ x ∈ l, Z.Fit kind x) → ∀ c, c < (Z.pb l).length → Z.pE kind l.length ((Z.pb l).take c) = 3
  | [], _, c, hc => by simp [Z.pb] at hc
  | ⟨k, i, s⟩ :: l, h, c, hc => by
    obtain ⟨hk, hm, hi⟩ := h _ List.mem_cons_self
    have hk' : k = kind := hk
    subst hk'
    rw [pb_cons] at hc ⊢
    rw [List.length_cons]
    by_cases h1 : c < (Z.lb ⟨k, i, s⟩).length
    · rw [List.take_append_of_le_length (by omega), Z.pE, if_neg (by rw [lb_cut hi hm c h1]; decide)]
      exact lb_cut hi hm c h1
    · rw [List.length_append] at hc
      rw [List.take_append, List.take_of_length_le (by omega)]
      obtain ⟨e1, e2, e3⟩ := back_one hi hm ((Z.pb l).take (c - (Z.lb ⟨k, i, s⟩).length))
      rw [Z.pE, if_pos e1, e3]
      exact p_cut k l (fun x hx => h x (List.mem_cons_of_mem _ hx)) _ (by omega)
/-- What is wrong with a column. -/
def Z.kindOk (kind : Int) : Bool := kind == 1 || kind == 2 || kind == 3
def Z.chk (l : List Z.V) (kind : Int) : Int := if Z.kindOk kind = false then 1 else if 4096 < l.length then 2 else if (l.any fun x => x.k != kind) = true then 7 else if (l.any fun x => !Z.may x) = true then 1 else 0
theorem chk_zero {l : List Z.V} {kind : Int} (h : Z.chk l kind = 0) : (kind = 1 ∨ kind = 2 ∨ kind = 3) ∧ l.length ≤ 4096 ∧ (∀ x ∈ l, x.k = kind) ∧ (∀ x ∈ l, Z.may x = true) := by
  unfold Z.chk at h
  split at h
  · exact absurd h (by decide)
  · rename_i h1
    split at h
    · exact absurd h (by decide)
    · rename_i h2
      split at h
      · exact absurd h (by decide)
      · rename_i h3
        split at h
        · exact absurd h (by decide)
        · rename_i h4
          refine ⟨?_, by omega, ?_, ?_⟩
          · have h5 : Z.kindOk kind = true := by simpa using h1
            unfold Z.kindOk at h5
            simp only [Bool.or_eq_true, beq_iff_eq] at h5
            rcases h5 with (h5 | h5) | h5
            · exact .inl h5
            · exact .inr (.inl h5)
            · exact .inr (.inr h5)
          · intro x hx
            have h5 : ∀ x : Z.V, x ∈ l → x.k = kind := by simpa using h3
            exact h5 x hx
          · intro x hx
            have h5 : ∀ x : Z.V, x ∈ l → Z.may x = true := by simpa using h4
            exact h5 x hx
theorem chk_of {l : List Z.V} {kind : Int} (hk : kind = 1 ∨ kind = 2 ∨ kind = 3) (hl : l.length ≤ 4096) (h1 : ∀ x ∈ l, x.k = kind) (h2 : ∀ x ∈ l, Z.may x = true) : Z.chk l kind = 0 := by
  have e1 : Z.kindOk kind = true := by rcases hk with rfl | rfl | rfl <;> rfl
  have e2 : (l.any fun x => x.k != kind) = false := List.any_eq_false.2 fun x hx => by simp [h1 x hx]
  have e3 : (l.any fun x => !Z.may x) = false := List.any_eq_false.2 fun x hx => by simp [h2 x hx]
  unfold Z.chk
  rw [e1, if_neg (by decide), if_neg (by omega), e2, if_neg (by decide), e3, if_neg (by decide)]
end Go.Proofs.Ytkcpfgjkplailaa

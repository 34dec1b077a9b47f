/- The contracts of Ints, Text; the reference's Same; the statements' own head: 'shown'. -/
import Derived.Test.YtahpbenobhodnaaE8
import Derived.Test.YtahpbenobhodnaaE9
import Derived.Lib.SlBytesConst
namespace Go.Proofs.Ytahpbenobhodnaa
set_option linter.unusedVariables false
open Go.RowKit

theorem take_snocI (l : List Int) (k : Nat) (h : k < l.length) : l.take (k + 1) = l.take k ++ [l.getD k 0] := by
  rw [List.take_succ_eq_append_getElem h]; simp [List.getD, h]
theorem In_getD {l : List Int} (h : E.In l) (j : Nat) : -9223372036854775808 ≤ l.getD j 0 ∧ l.getD j 0 < 9223372036854775808 := by
  by_cases hj : j < l.length
  · have : l.getD j 0 = l[j] := by simp [List.getD, hj]
    rw [this]; exact h _ (List.getElem_mem hj)
  · simp [List.getD, hj]
theorem In_take {l : List Int} (h : E.In l) (j : Nat) : E.In (l.take j) := fun x hx => h x (List.mem_of_mem_take hx)
theorem lebs_take_le (l : List Int) (h : E.In l) (j : Nat) : (E.lebs (l.take j)).length ≤ 10 * l.length := by
  have h1 := E.lebs_le (l.take j) (In_take h j)
  have h2 : (l.take j).length ≤ l.length := by simp; omega
  omega

/-- A text's bytes. -/
def sb (s : ByteArray) : List Nat := s.data.toList.map UInt8.toNat
theorem sb_length (s : ByteArray) : (sb s).length = s.size := by simp [sb]
theorem sb_lt (s : ByteArray) : ∀ x ∈ sb s, x < 256 := by
  intro x hx
  obtain ⟨y, _, rfl⟩ := List.mem_map.1 hx
  exact y.toNat_lt
theorem strCells_sb (s : ByteArray) : Lib.strCells s = B8 (sb s) := by
  simp [Lib.strCells, B8, sb]

/-- Text. -/
theorem text_any (s : ByteArray) (w : World) (hs : s.size + 10 ≤ 140737488355328) :
    Calls Try.prog 23 #[.string s] w fun e w' => ∃ v, e = .returned v ∧ w'.ownsRow w.heap.size 5 1 v (E.leb s.size ++ sb s).length (B8 (E.leb s.size ++ sb s)) ∧ Below w.heap.size w w' := by
  obtain ⟨i0, hi, hz0, hz1, hz2⟩ := info_parts Try.infoU8
  have hl := E.leb_ten s.size (by omega)
  go_enter Try.func23, Try.ntmps23
  go_wp2_with fail
  refine (put_any _ w (by omega) (by omega)).mono ?_
  rintro e w1 ⟨v1, rfl, ho1, hb1⟩
  rw [Int.toNat_natCast] at ho1
  go_wp2_with (at_builtin; refine Lib.wpList_append_own_string w1 rfl _ _ 24 9 rfl w.heap.size 5 i0 Try.underlying24 Try.underlying9 hi hz0 hz1 hz2 _ _ _ rfl ho1 s rfl ?c1 ?c2 ?c3 ?_)
  case c1 => unfold maxLen; omega
  case c2 => omega
  case c3 => exact hb1.size
  intro v2 w2 ho2 hg2 _
  go_wp2
  go_ret
  refine ⟨v2, rfl, ?_, hb1.trans ?_⟩
  · rw [B8_append, List.length_append, sb_length, ← strCells_sb]; exact ho2
  · exact (((Kept.refl (fun k => w.heap.size ≤ k) w1).grown hg2 (fun k hk => .inl (owns_lt ho1 hk).1))).below hb1.size (fun k hk => hk)
theorem Sl.four (w : World) (t : TypeId) (fr : Nat × Nat) (a b c d : Int) : Sl (w.alloc (.cells #[.int .u8 a, .int .u8 b, .int .u8 c, .int .u8 d] t fr)) .u8 (some ⟨w.heap.size, 0, none⟩) 4 4 [a, b, c, d] := by
  have hb := heap_alloc_new w (.cells #[.int .u8 a, .int .u8 b, .int .u8 c, .int .u8 d] t fr)
  refine ⟨rfl, Nat.le_refl _, by decide, by simp, .inr ⟨_, _, rfl, by simp, ?_⟩⟩
  intro i hi
  generalize w.alloc (.cells #[.int .u8 a, .int .u8 b, .int .u8 c, .int .u8 d] t fr) = w' at hb
  match i, hi with
  | 0, _ => simp [World.cell?, hb]
  | 1, _ => simp [World.cell?, hb]
  | 2, _ => simp [World.cell?, hb]
  | 3, _ => simp [World.cell?, hb]
theorem leb_300 : E.leb 300 = [172, 2] := by rw [E.leb_big _ (by omega), E.leb_small _ (by omega)]
theorem str_300 : strOfNums (ints [172, 2]) = ⟨#[172, 2]⟩ := by decide
theorem xE_abc : E.xE 9 [2, 97, 98, 99] = 0 := by decide
theorem yS_abc : strOfNums (ints (E.yS 9 [2, 97, 98, 99])) = ⟨#[97, 98]⟩ := by decide
theorem yR_abc : E.yR 9 [2, 97, 98, 99] = [99] := by decide
theorem str_99 : strOfNums (ints [99]) = ⟨#[99]⟩ := by decide
theorem zig_1 : E.zig (-1) = 1 := by decide

end Go.Proofs.Ytahpbenobhodnaa

/- The contract of val's Bytes. -/
import Derived.Test.YtahpbenobhodnaaZ6
namespace Go.Proofs.Ytahpbenobhodnaa
set_option linter.unusedVariables false
open Go.RowKit

/-- A value's bytes; none, if it may not be; and the error. -/
def Z.lb (x : Z.V) : List Nat := if x.k = 1 then E.leb (E.zig x.i) else if x.k = 2 then Z.k8 (D.ky (Z.u x.i)).toNat else if x.k = 3 then E.leb x.s.size ++ sb x.s else []
def Z.bl (x : Z.V) : List Nat := if Z.may x then Z.lb x else []
def Z.be (x : Z.V) : Int := if Z.may x then 0 else 1
/-- What Bytes answers. -/
def BytesOf (x : Z.V) (w : World) (e : Ending) (w' : World) : Prop := ∃ a c, e = .returned (.tuple #[.slice a (Z.bl x).length c, .int .i64 (Z.be x)]) ∧ Sl w' .u8 a (Z.bl x).length c (ints (Z.bl x)) ∧ Below w.heap.size w w'
theorem BytesOf.no {x : Z.V} {w w' : World} (h : Z.may x = false) (hb : Below w.heap.size w w') : BytesOf x w (.returned (.tuple #[.slice none 0 0, .int .i64 1])) w' := by
  have e1 : Z.bl x = [] := by unfold Z.bl; rw [h]; rfl
  have e2 : Z.be x = 1 := by unfold Z.be; rw [h]; rfl
  unfold BytesOf; rw [e1, e2]
  exact ⟨none, 0, rfl, Sl.nil _ _, hb⟩
theorem BytesOf.yes {x : Z.V} {w w' : World} {l : List Nat} {a : Option Addr} {len c : Nat} (h : Z.may x = true) (hl : Z.lb x = l) (hn : l.length = len) (hs : Sl w' .u8 a len c (ints l)) (hb : Below w.heap.size w w') : BytesOf x w (.returned (.tuple #[.slice a len c, .int .i64 0])) w' := by
  have e1 : Z.bl x = l := by unfold Z.bl; rw [h]; exact hl
  have e2 : Z.be x = 0 := by unfold Z.be; rw [h]; rfl
  subst hn
  unfold BytesOf; rw [e1, e2]
  exact ⟨a, c, rfl, hs, hb⟩
theorem lb_int {i : Int} {s : ByteArray} : Z.lb ⟨1, i, s⟩ = E.leb (E.zig i) := by unfold Z.lb; simp
theorem lb_float {i : Int} {s : ByteArray} : Z.lb ⟨2, i, s⟩ = Z.k8 (D.ky (Z.u i)).toNat := by unfold Z.lb; simp
theorem lb_text {i : Int} {s : ByteArray} : Z.lb ⟨3, i, s⟩ = E.leb s.size ++ sb s := by unfold Z.lb; simp
theorem lb_else {k i : Int} {s : ByteArray} (h1 : k ≠ 1) (h2 : k ≠ 2) (h3 : k ≠ 3) : Z.lb ⟨k, i, s⟩ = [] := by unfold Z.lb; simp [h1, h2, h3]
theorem may_size {i : Int} {s : ByteArray} (h : Z.may ⟨3, i, s⟩ = true) : s.size ≤ 1024 := by
  rw [may_text] at h; simp at h; omega

set_option maxHeartbeats 1000000 in
theorem vbytes_any (k i : Int) (s : ByteArray) (w : World) (hi : Z.I64 i) :
    Calls Try.prog 10 #[.agg #[.int .i64 k, .int .i64 i, .string s]] w (BytesOf ⟨k, i, s⟩ w) := by
  have hA := At.new w k i s
  have b0 := hide (below_one w (.cells #[.int .i64 k, .int .i64 i, .string s] 23))
  cases hm : Z.may ⟨k, i, s⟩ with
  | false =>
    have HM := hide hm
    go_enter Try.func10, Try.ntmps10
    go_wp2_with fail
    refine (may_any _ _ _ _ hi).mono ?_
    rintro e w1 ⟨rfl, hb⟩
    rw [HM.out]
    replace b0 := hide (bthen b0.out hb)
    clear hb hA hm
    go_wp2
    go_ret2
    exact BytesOf.no HM.out b0.out
  | true =>
    have HM := hide hm
    clear hm
    by_cases k1 : k = 1
    · subst k1
      go_enter Try.func10, Try.ntmps10
      go_wp2_with fail
      refine (may_any _ _ _ _ hi).mono ?_
      rintro e w1 ⟨rfl, hb⟩
      rw [HM.out]
      replace b0 := hide (bthen b0.out hb)
      replace hA := hA.below hb
      obtain ⟨a1, a2, a3⟩ := hA.cells
      clear hb
      replace hA := hide hA
      go_wp2_with fail
      refine (zig_any _ _ hi.1 hi.2).mono ?_
      rintro e w2 ⟨rfl, rfl⟩
      go_wp2_with fail
      refine (put_any _ _ (by omega) (by have := E.zig_lt i hi.1 hi.2; omega)).mono ?_
      rintro e w3 ⟨v3, rfl, ho3, hb⟩
      rw [Int.toNat_natCast] at ho3
      obtain ⟨q1, q2, rfl, hs, _⟩ := Sl.of_bytes ho3
      replace b0 := hide (bthen b0.out hb)
      replace hs := hide hs
      clear hb ho3 a1 a2 a3 hA
      go_wp2
      go_ret2
      exact BytesOf.yes HM.out lb_int rfl hs.out b0.out
    · by_cases k2 : k = 2
      · subst k2
        have HU : Hid (IntKind.u64.wrap i = Z.u i) := u64_wrap i
        have HI := Z.u_in i
        have HK := D.ky_in HI
        go_enter Try.func10, Try.ntmps10
        go_wp2_with fail
        refine (may_any _ _ _ _ hi).mono ?_
        rintro e w1 ⟨rfl, hb⟩
        rw [HM.out]
        replace b0 := hide (bthen b0.out hb)
        replace hA := hA.below hb
        obtain ⟨a1, a2, a3⟩ := hA.cells
        clear hb
        replace hA := hide hA
        go_wp2_with fail
        rw [HU.out]
        refine (key_any _ _ HI.1 HI.2).mono ?_
        rintro e w2 ⟨rfl, rfl⟩
        go_wp2_with fail
        refine (keybytes_any _ _ HK.1 HK.2).mono ?_
        rintro e w3 ⟨rfl, hs, hb⟩
        replace b0 := hide (bthen b0.out hb)
        replace hs := hide hs
        clear hb a1 a2 a3 hA
        go_wp2
        go_ret2
        exact BytesOf.yes HM.out lb_float rfl hs.out b0.out
      · by_cases k3 : k = 3
        · subst k3
          have hsz := may_size HM.out
          go_enter Try.func10, Try.ntmps10
          go_wp2_with fail
          refine (may_any _ _ _ _ hi).mono ?_
          rintro e w1 ⟨rfl, hb⟩
          rw [HM.out]
          replace b0 := hide (bthen b0.out hb)
          replace hA := hA.below hb
          obtain ⟨a1, a2, a3⟩ := hA.cells
          clear hb
          replace hA := hide hA
          go_wp2_with fail
          refine (text_any _ _ (by omega)).mono ?_
          rintro e w3 ⟨v3, rfl, ho3, hb⟩
          obtain ⟨q1, q2, rfl, hs, _⟩ := Sl.of_bytes ho3
          replace b0 := hide (bthen b0.out hb)
          replace hs := hide hs
          clear hb ho3 a1 a2 a3 hA
          go_wp2
          go_ret2
          exact BytesOf.yes HM.out lb_text List.length_append (by rw [← List.length_append]; exact hs.out) b0.out
        · go_enter Try.func10, Try.ntmps10
          go_wp2_with fail
          refine (may_any _ _ _ _ hi).mono ?_
          rintro e w1 ⟨rfl, hb⟩
          rw [HM.out]
          replace b0 := hide (bthen b0.out hb)
          replace hA := hA.below hb
          obtain ⟨a1, a2, a3⟩ := hA.cells
          clear hb
          replace hA := hide hA
          go_wp2
          go_ret2
          exact BytesOf.yes HM.out (lb_else k1 k2 k3) rfl (Sl.nil _ _) b0.out
end Go.Proofs.Ytahpbenobhodnaa

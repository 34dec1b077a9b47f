/- The document's Of; the statements' own 'shown' and 'few'. -/
import Derived.Test.YtfggfmcbinhigaaBdU
import Derived.Test.YtfggfmcbinhigaaBdA
import Derived.ProofKit
import Derived.OpenShut
import Derived.ShutString
import Derived.ChangeOld
import Derived.Below
import Derived.SizedLaws
namespace Go.Proofs.Ytfggfmcbinhigaa
set_option linter.unusedVariables false
open Go.RowKit

theorem slV_two (w : World) (x y : Z.V) : SlV (w.alloc (.cells #[.int .i64 x.k, .int .i64 x.i, .string x.s, .int .i64 y.k, .int .i64 y.i, .string y.s] 47)) (some ⟨w.heap.size, 0, none⟩) 2 2 [x, y] := by
  refine ⟨rfl, Nat.le_refl _, by decide, by simp, .inr ⟨w.heap.size, 0, rfl, by simp, fun j u hu => ?_⟩⟩
  match j, hu with
  | 0, hu => simp at hu; subst hu; simp
  | 1, hu => simp at hu; subst hu; simp
def exP : List Z.V := [⟨1, -1, ⟨#[]⟩⟩, ⟨1, 2, ⟨#[]⟩⟩]
theorem exP_chk : Z.chk exP 1 = 0 := by decide
theorem exP_cb : Z.cb exP 1 = [1, 4] := by decide
/-- 'few' tells that there are few. -/
def FewAns (len : Nat) (w : World) (e : Ending) (w' : World) : Prop := ∃ q, e = .returned (.bool q) ∧ (q = true → len ≤ 1000) ∧ w' = w
theorem FewAns.mk {len : Nat} {w : World} {v : Value} (q : Bool) (h0 : v = .bool q) (h : q = true → len ≤ 1000) : FewAns len w (.returned v) w := ⟨q, by rw [h0], h, rfl⟩
end Go.Proofs.Ytfggfmcbinhigaa
/- The statements' own 'shown', 'few', 'same'. -/
namespace Go.Proofs.Ytfggfmcbinhigaa
set_option linter.unusedVariables false
open Go.RowKit

theorem rfew_some (b off len cap : Nat) (l : List Z.V) (w : World) (hl : l.length = len) (hm : len ≤ 140737488355328) (hlt : b < w.heap.size)
    (hc : ∀ j x, l[j]? = some x → w.cell? ⟨b, off + j * 3, none⟩ = some (.int .i64 x.k) ∧ w.cell? ⟨b, off + j * 3 + 1, none⟩ = some (.int .i64 x.i) ∧ w.cell? ⟨b, off + j * 3 + 2, none⟩ = some (.string x.s)) :
    Calls Try.prog 10 #[.slice (some ⟨b, off, none⟩) len cap] w (FewAns len w) := by
  have HC := hide hc
  have HL := hide hl
  clear hc hl
  go_enter Try.func10, Try.ntmps10
  go_wp2_with fail
  go_loopw [3, 4] (fun n i wr => ∃ (j : Nat) (x : Int), j ≤ len ∧ i = .int .i64 j ∧ n = .int .i64 x ∧ wr = w) (fun _ i _ => len - (intOf i).toNat)
  case atStart => exact ⟨0, 0, Nat.zero_le _, rfl, rfl, rfl⟩
  case round =>
    obtain ⟨j, x, hj, rfl, rfl, rfl⟩ := hrel
    by_cases hx : x ≤ 100000
    · have hxd : decide (x ≤ 100000) = true := by simpa using hx
      by_cases hjl : j < len
      · obtain ⟨⟨xk, xi, xs⟩, hx⟩ : ∃ x, l[j]? = some x := ⟨l[j]'(by rw [HL.out]; exact hjl), List.getElem?_eq_getElem _⟩
        obtain ⟨c1, c2, c3⟩ := HC.out j _ hx
        clear hx
        go_wp2
        go_roundw
        case rel => exact ⟨j + 1, _, hjl, by go_num, rfl, trivial⟩
        case measure => simp [intOf]; omega
      · obtain rfl : j = len := by omega
        by_cases h1 : j ≤ 1000
        · go_wp2
          go_ret
          exact FewAns.mk _ rfl fun _ => h1
        · go_wp2
          go_ret
          exact FewAns.mk _ rfl fun h => by simp at h
    · have hxd : decide (x ≤ 100000) = false := by simpa using hx
      by_cases h1 : len ≤ 1000
      · by_cases hjl : j < len
        · go_wp2
          go_ret
          exact FewAns.mk _ rfl fun _ => h1
        · go_wp2
          go_ret
          exact FewAns.mk _ rfl fun _ => h1
      · by_cases hjl : j < len
        · go_wp2
          go_ret
          exact FewAns.mk _ rfl fun h => by simp at h
        · go_wp2
          go_ret
          exact FewAns.mk _ rfl fun h => by simp at h
theorem rfew_none (ao : Option Addr) (cap : Nat) (w : World) :
    Calls Try.prog 10 #[.slice ao 0 cap] w (FewAns 0 w) := by
  go_enter Try.func10, Try.ntmps10
  go_wp2_with fail
  go_rounds 1
  go_ret
  exact FewAns.mk _ rfl fun _ => by omega
theorem rfew_any (ao : Option Addr) (len cap : Nat) (l : List Z.V) (w : World) (h : SlV w ao len cap l) (hm : len ≤ 140737488355328) :
    Calls Try.prog 10 #[.slice ao len cap] w (FewAns len w) := by
  rcases h.2.2.2.2 with h5 | ⟨b, off, rfl, hlt, h5⟩
  · subst h5
    exact rfew_none ao cap w
  · exact rfew_some b off len cap l w h.1 hm hlt h5

theorem slV_three (w : World) (x y z : Z.V) : SlV (w.alloc (.cells #[.int .i64 x.k, .int .i64 x.i, .string x.s, .int .i64 y.k, .int .i64 y.i, .string y.s, .int .i64 z.k, .int .i64 z.i, .string z.s] 47)) (some ⟨w.heap.size, 0, none⟩) 3 3 [x, y, z] := by
  refine ⟨rfl, Nat.le_refl _, by decide, by simp, .inr ⟨w.heap.size, 0, rfl, by simp, fun j u hu => ?_⟩⟩
  match j, hu with
  | 0, hu => simp at hu; subst hu; simp
  | 1, hu => simp at hu; subst hu; simp
  | 2, hu => simp at hu; subst hu; simp
def exA : List Z.V := [⟨1, 5, ⟨#[]⟩⟩, ⟨1, 5, ⟨#[]⟩⟩, ⟨1, 7, ⟨#[]⟩⟩]
def exB : List Z.V := [⟨1, 5, ⟨#[]⟩⟩, ⟨1, 5, ⟨#[]⟩⟩]
theorem exA_runs : Z.runs exA = [⟨2, ⟨1, 5, ⟨#[]⟩⟩⟩, ⟨1, ⟨1, 7, ⟨#[]⟩⟩⟩] := by
  have h : Z.Neat none [⟨2, ⟨1, 5, ⟨#[]⟩⟩⟩, ⟨1, ⟨1, 7, ⟨#[]⟩⟩⟩] := ⟨by decide, by simp, by decide, by simp, trivial⟩
  exact runs_sp h
theorem exB_runs : Z.runs exB = [⟨2, ⟨1, 5, ⟨#[]⟩⟩⟩] := by
  have h : Z.Neat none [⟨2, ⟨1, 5, ⟨#[]⟩⟩⟩] := ⟨by decide, by simp, trivial⟩
  exact runs_sp h
theorem exB_chk : Z.chk exB 1 = 0 := by decide
theorem exB_rcb : Z.rcb exB 1 = [2, 10] := by rw [rcb_ok exB_chk, exB_runs]; decide
theorem rshown_any (w : World) : Calls Try.prog 9 #[] w fun e w' => e = .returned (.bool true) ∧ Below w.heap.size w w' := by
  obtain ⟨a0, a1, a2⟩ := (At.new w 1 5 ⟨#[]⟩).cells
  have HA := hide (At.new w 1 5 ⟨#[]⟩)
  have b1 := below_one w (.cells #[.int .i64 1, .int .i64 5, .string ⟨#[]⟩] 47)
  have HSL : Hid (SlV ((w.alloc (.cells #[.int .i64 1, .int .i64 5, .string ⟨#[]⟩] 47)).alloc (.cells #[.int .i64 1, .int .i64 5, .string ⟨#[]⟩, .int .i64 1, .int .i64 5, .string ⟨#[]⟩, .int .i64 1, .int .i64 7, .string ⟨#[]⟩] 47)) (some ⟨w.heap.size + 1, 0, none⟩) 3 3 exA) := by
    have := slV_three (w.alloc (.cells #[.int .i64 1, .int .i64 5, .string ⟨#[]⟩] 47)) ⟨1, 5, ⟨#[]⟩⟩ ⟨1, 5, ⟨#[]⟩⟩ ⟨1, 7, ⟨#[]⟩⟩
    rw [World.size_alloc] at this
    exact this
  have b2 := below_one (w.alloc (.cells #[.int .i64 1, .int .i64 5, .string ⟨#[]⟩] 47)) (.cells #[.int .i64 1, .int .i64 5, .string ⟨#[]⟩, .int .i64 1, .int .i64 5, .string ⟨#[]⟩, .int .i64 1, .int .i64 7, .string ⟨#[]⟩] 47)
  have HB2 := hide (bthen b1 b2)
  have HA2 := hide (HA.out.below b2)
  have HR := hide (runs_any _ 3 3 exA _ HSL.out (by decide))
  clear b1 b2 HSL
  go_enter Try.func9, Try.ntmps9
  go_wp2_with fail
  refine HR.out.mono ?_
  rintro e w1 ⟨v, rfl, ho, hb⟩
  obtain ⟨ra, rc, rfl, hsl, _⟩ := SlR.of_own ho
  rw [exA_runs] at hsl
  rw [exA_runs]
  have HA3 := hide (HA2.out.below hb)
  have HB3 := hide (bthen HB2.out hb)
  have HSR := hide hsl
  clear HR ho hb hsl HA HA2 HB2 a0 a1 a2
  obtain ⟨a0, a1, a2⟩ := HA3.out.cells
  have b4 := below_one w1 (.cells #[.int .i64 1, .int .i64 5, .string ⟨#[]⟩, .int .i64 1, .int .i64 5, .string ⟨#[]⟩] 47)
  have HB := hide (rlbytes_any (some ⟨w1.heap.size, 0, none⟩) 2 2 exB 1 _ (slV_two w1 ⟨1, 5, ⟨#[]⟩⟩ ⟨1, 5, ⟨#[]⟩⟩) (by simp [exB, Z.I64]))
  have HB4 := hide (bthen HB3.out b4)
  have HA4 := hide (HA3.out.below b4)
  have HS4 := hide (HSR.out.below b4)
  clear b4
  go_wp2_with fail
  refine HB.out.mono ?_
  rintro e w2 ⟨qa, qc, rfl, hs, hb⟩
  rw [exB_chk, exB_rcb]
  rw [exB_rcb] at hs
  have HB5 := hide (bthen HB4.out hb)
  clear a0 a1 a2
  obtain ⟨a0, a1, a2⟩ := (HA4.out.below hb).cells
  rcases (HS4.out.below hb).2.2.2.2 with h5 | ⟨g, off, rfl, hlt, h5⟩
  · exact absurd h5 (by decide)
  obtain ⟨c0, c1, c2, c3⟩ := h5 0 _ rfl
  obtain ⟨d0, d1, d2, d3⟩ := h5 1 _ rfl
  have hst : ∀ (n k : Nat), n = 2 → (convert 23 9 (.slice qa n qc)).run Try.prog (w2.drewN k) = .ok (.string ⟨#[2, 10]⟩) (w2.drewN k) := by
    rintro n k rfl
    have h := str_of (hs.below (below_drewN (Below.refl _ _) k))
    rw [show strOfNums (ints [2, 10]) = ⟨#[2, 10]⟩ from by decide] at h
    exact h
  have hst0 := hst 2 0 rfl
  have hst2 := fun k => hst 2 k rfl
  have hv := fun w => veq_run 1 5 ⟨#[]⟩ 1 5 ⟨#[]⟩ w
  rw [Z.same_self] at hv
  clear hb hs h5 HB hst
  replace c0 : w2.cell? ⟨g, off, none⟩ = some (.int .i64 2) := c0
  replace c1 : w2.cell? ⟨g, off + 1, none⟩ = some (.int .i64 1) := c1
  replace c2 : w2.cell? ⟨g, off + 2, none⟩ = some (.int .i64 5) := c2
  replace c3 : w2.cell? ⟨g, off + 3, none⟩ = some (.string ⟨#[]⟩) := c3
  replace d0 : w2.cell? ⟨g, off + 4, none⟩ = some (.int .i64 1) := d0
  clear d1 d2 d3
  go_wp2_with fail
  go_quiet (fail)
  have HB6 := hide (below_drewN HB5.out nq)
  go_wp2
  go_ret
  exact ⟨rfl, HB6.out⟩

set_option maxHeartbeats 1000000 in
theorem rsame_some (b1 o1 b2 o2 len ca cb : Nat) (rs : List Z.R) (w : World) (hl : rs.length = len) (hm : len ≤ 100000000) (hlt1 : b1 < w.heap.size) (hlt2 : b2 < w.heap.size)
    (hc1 : ∀ j x, rs[j]? = some x → w.cell? ⟨b1, o1 + j * 4, none⟩ = some (.int .i64 x.n) ∧ w.cell? ⟨b1, o1 + j * 4 + 1, none⟩ = some (.int .i64 x.v.k) ∧ w.cell? ⟨b1, o1 + j * 4 + 2, none⟩ = some (.int .i64 x.v.i) ∧ w.cell? ⟨b1, o1 + j * 4 + 3, none⟩ = some (.string x.v.s))
    (hc2 : ∀ j x, rs[j]? = some x → w.cell? ⟨b2, o2 + j * 4, none⟩ = some (.int .i64 x.n) ∧ w.cell? ⟨b2, o2 + j * 4 + 1, none⟩ = some (.int .i64 x.v.k) ∧ w.cell? ⟨b2, o2 + j * 4 + 2, none⟩ = some (.int .i64 x.v.i) ∧ w.cell? ⟨b2, o2 + j * 4 + 3, none⟩ = some (.string x.v.s)) :
    Calls Try.prog 17 #[.slice (some ⟨b1, o1, none⟩) len ca, .slice (some ⟨b2, o2, none⟩) len cb] w fun e w' => e = .returned (.bool true) ∧ Below w.heap.size w w' := by
  have HC1 := hide hc1
  have HC2 := hide hc2
  have HL := hide hl
  clear hc1 hc2 hl
  go_enter Try.func17, Try.ntmps17
  go_wp2_with fail
  go_loopw [5] (fun i wr => ∃ j : Nat, j ≤ len ∧ i = .int .i64 j ∧ Hid (Below w.heap.size w wr)) (fun i _ => len - (intOf i).toNat)
  case atStart => exact ⟨0, Nat.zero_le _, rfl, hide (Below.refl _ _)⟩
  case round =>
    obtain ⟨j, hj, rfl, hbw⟩ := hrel
    by_cases hjl : j < len
    · obtain ⟨⟨n, ⟨xk, xi, xs⟩⟩, hx⟩ : ∃ x, rs[j]? = some x := ⟨rs[j]'(by rw [HL.out]; exact hjl), List.getElem?_eq_getElem _⟩
      obtain ⟨c1, c2, c3, c4⟩ := HC1.out j _ hx
      obtain ⟨g1, g2, g3, g4⟩ := HC2.out j _ hx
      have d1 : wr.cell? ⟨b1, o1 + j * 4, none⟩ = some (.int .i64 n) := by rw [hbw.out.cell (p := ⟨b1, o1 + j * 4, none⟩) hlt1]; exact c1
      have d2 : wr.cell? ⟨b1, o1 + j * 4 + 1, none⟩ = some (.int .i64 xk) := by rw [hbw.out.cell (p := ⟨b1, o1 + j * 4 + 1, none⟩) hlt1]; exact c2
      have d3 : wr.cell? ⟨b1, o1 + j * 4 + 2, none⟩ = some (.int .i64 xi) := by rw [hbw.out.cell (p := ⟨b1, o1 + j * 4 + 2, none⟩) hlt1]; exact c3
      have d4 : wr.cell? ⟨b1, o1 + j * 4 + 3, none⟩ = some (.string xs) := by rw [hbw.out.cell (p := ⟨b1, o1 + j * 4 + 3, none⟩) hlt1]; exact c4
      have e1 : wr.cell? ⟨b2, o2 + j * 4, none⟩ = some (.int .i64 n) := by rw [hbw.out.cell (p := ⟨b2, o2 + j * 4, none⟩) hlt2]; exact g1
      have e2 : wr.cell? ⟨b2, o2 + j * 4 + 1, none⟩ = some (.int .i64 xk) := by rw [hbw.out.cell (p := ⟨b2, o2 + j * 4 + 1, none⟩) hlt2]; exact g2
      have e3 : wr.cell? ⟨b2, o2 + j * 4 + 2, none⟩ = some (.int .i64 xi) := by rw [hbw.out.cell (p := ⟨b2, o2 + j * 4 + 2, none⟩) hlt2]; exact g3
      have e4 : wr.cell? ⟨b2, o2 + j * 4 + 3, none⟩ = some (.string xs) := by rw [hbw.out.cell (p := ⟨b2, o2 + j * 4 + 3, none⟩) hlt2]; exact g4
      have hv := fun w => vne_run xk xi xs xk xi xs w
      rw [Z.same_self] at hv
      have hji : (j : Int) < (len : Int) := by omega
      clear c1 c2 c3 c4 g1 g2 g3 g4 hx
      go_wp2_with fail
      go_quiet (fail)
      have HB2 := hide (below_drewN hbw.out nq)
      go_wp2
      go_roundw
      case rel => exact ⟨j + 1, hjl, by go_num, HB2⟩
      case measure => simp [intOf]; omega
    · obtain rfl : j = len := by omega
      go_wp2
      go_ret
      exact ⟨rfl, hbw.out⟩
theorem rsame_none (ao bo : Option Addr) (ca cb : Nat) (w : World) : Calls Try.prog 17 #[.slice ao 0 ca, .slice bo 0 cb] w fun e w' => e = .returned (.bool true) ∧ Below w.heap.size w w' := by
  go_enter Try.func17, Try.ntmps17
  go_wp2_with fail
  go_rounds 1
  go_ret
  exact ⟨rfl, Below.refl _ _⟩
theorem rsame_any (ao bo : Option Addr) (len ca cb : Nat) (rs : List Z.R) (w : World) (h1 : SlR w ao len ca rs) (h2 : SlR w bo len cb rs) (hm : len ≤ 100000000) :
    Calls Try.prog 17 #[.slice ao len ca, .slice bo len cb] w fun e w' => e = .returned (.bool true) ∧ Below w.heap.size w w' := by
  by_cases h0 : len = 0
  · subst h0; exact rsame_none ao bo ca cb w
  · rcases h1.2.2.2.2 with h | ⟨b1, o1, rfl, hb1, hc1⟩
    · omega
    · rcases h2.2.2.2.2 with h | ⟨b2, o2, rfl, hb2, hc2⟩
      · omega
      · exact rsame_some b1 o1 b2 o2 len ca cb rs w h1.1 hm hb1 hb2 hc1 hc2
end Go.Proofs.Ytfggfmcbinhigaa
/- What a row's step hands to the walks: slices of numbers that came in. -/
namespace Go.Proofs.Ytfggfmcbinhigaa
set_option linter.unusedVariables false
open Go.ChangeShapes Go.WideShapes Go.ChangeAt Go.RowKit

theorem own : ownKnob Try.prog.godebug = none := by kernel_rfl
theorem laidOut : laidOutB Try.prog = true := by kernel_rfl

/-- A slice of numbers that came in: its elements, each of its kind; how many bytes it takes. -/
def Came (k : IntKind) (w : World) (a : Option Addr) (len cap : Nat) (l : List Int) : Prop := Sl w k a len cap l ∧ ∀ n ∈ l, (Lit.int k n).wf = true

theorem wf_u8 {n : Int} (h : (Lit.int .u8 n).wf = true) : 0 ≤ n ∧ n < 256 := by
  have := bounds_u8 h; omega
theorem wf_u64 {n : Int} (h : (Lit.int .u64 n).wf = true) : 0 ≤ n ∧ n < 18446744073709551616 := by
  have := bounds_u64 h; omega
theorem wf_i64 {n : Int} (h : (Lit.int .i64 n).wf = true) : -9223372036854775808 ≤ n ∧ n < 9223372036854775808 := by
  have := bounds_i64 h; omega
theorem wf_u16 {n : Int} (h : (Lit.int .u16 n).wf = true) : 0 ≤ n ∧ n < 65536 := by
  have := bounds_u16 h; omega

theorem came_of_cells {k : IntKind} {w : World} {x : Addr} {len cap : Nat} {zs : List Int} (hl : len ≤ cap) (hm : cap ≤ maxLen) (hz : zs.length = cap) (hc : ∀ i, i < zs.length → w.cell? (x.add i) = some (.int k (zs.getD i 0))) (hw : ∀ n ∈ zs, (Lit.int k n).wf = true) :
    Came k w (some x) len cap (zs.take len) := by
  refine ⟨⟨by simp; omega, hl, hm, by simp, ?_⟩, fun n hn => hw n (List.mem_of_mem_take hn)⟩
  by_cases h0 : len = 0
  · exact .inl h0
  · obtain ⟨b, off, spot⟩ := x
    have h1 := hc 0 (by omega)
    have hspot : spot = none := by simpa [Addr.add] using World.cell?_spot h1
    subst hspot
    refine .inr ⟨b, off, rfl, ?_, fun i hi => ?_⟩
    · have := cell_lt h1
      simpa [Addr.add] using this
    · have h2 := hc i (by omega)
      rw [Addr.add_lit] at h2
      rw [h2]
      simp [List.getD, hi]

/-- What the reading of such a slice weighs. -/
def Heavy {H : Type} (d : DataW H) (cap : Nat) : Prop := cap = 0 ∨ ∃ elems spare, d = .slice elems spare ∧ elems.length + spare.length = cap

/-- A slice of numbers that came in, opened. -/
theorem open_came {H : Type} {enc : TypeId × Value → H} {W : World} {t e : TypeId} {k : IntKind} {a : Option Addr} {len cap : Nat} {d : DataW H} {p : List MemPlace}
    (ht : Try.prog.underlying t = some (.slice e)) (he : Try.prog.underlying e = some (.int k)) (hc : Try.prog.cellsOf e = 1)
    (h : DataW.Trod enc Try.prog W 0 (fun _ => true) true t (.slice a len cap) d p) : (∃ l, Came k W a len cap l) ∧ Heavy d cap := by
  obtain ⟨fuel, hf⟩ := h
  rcases open_ints ht he hc hf with ⟨hcs, _⟩ | ⟨x, l, c, zs, hcs, _, hl, hm, hz, hd, hcell, hwz⟩
  · simp [Value.cells] at hcs
    obtain ⟨rfl, rfl, rfl⟩ := hcs
    exact ⟨⟨[], ⟨rfl, Nat.le_refl _, by decide, fun _ => rfl, .inl rfl⟩, by simp⟩, .inl rfl⟩
  · simp [Value.cells] at hcs
    obtain ⟨rfl, rfl, rfl⟩ := hcs
    have hz' : zs.length = cap := by simpa using hz
    refine ⟨⟨zs.take len, came_of_cells hl hm hz' hcell hwz⟩, .inr ⟨_, _, (Prod.mk.inj hd).1, ?_⟩⟩
    simp [lits]; omega

theorem reach_came {H : Type} {ts : List TypeId} {ds : List (DataW H)} {j : Nat} {t e : TypeId} {d : DataW H} {cap : Nat} (hsz : (DataW.weightsEach Try.prog ts ds).all (· ≤ reachBytes) = true)
    (ht : ts[j]? = some t) (hdj : ds[j]? = some d) (hu : Try.prog.underlying t = some (.slice e)) (hd : Heavy d cap) : cap * Try.prog.bytesOf e ≤ 140737488351232 := by
  rcases hd with rfl | ⟨el, sp, rfl, rfl⟩
  · simp
  · have := sized_slice hsz ht hdj hu
    simpa [reachBytes] using this
/-- Bytes that came in. -/
theorem came_bytes {w : World} {a : Option Addr} {len cap : Nat} {z : List Int} (h : Came .u8 w a len cap z) : ∃ l : List Nat, z = ints l ∧ (∀ x ∈ l, x < 256) := by
  refine ⟨z.map Int.toNat, ?_, ?_⟩
  · simp only [ints, List.map_map]
    conv => lhs; rw [← List.map_id z]
    apply List.map_congr_left
    intro x hx
    have := wf_u8 (h.2 x hx)
    simp; omega
  · intro x hx
    obtain ⟨y, hy, rfl⟩ := List.mem_map.1 hx
    have := wf_u8 (h.2 y hy)
    omega

end Go.Proofs.Ytfggfmcbinhigaa

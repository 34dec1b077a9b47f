/- The document's Of; the statements' own 'shown' and 'few'. -/
import Derived.Test.YthcnfbjljkighaaBdR
import Derived.Test.YthcnfbjljkighaaBdA
import Derived.ProofKit
import Derived.OpenShut
import Derived.ShutString
import Derived.ChangeOld
import Derived.Below
import Derived.SizedLaws
import Derived.Test.YthcnfbjljkighaaBdE
import Derived.Lib.SmallJoins
import Derived.JoinedCond
import Derived.Test.YthcnfbjljkighaaBdF
import Derived.Deep.SlicePairs
namespace Go.Proofs.Ythcnfbjljkighaa
set_option linter.unusedVariables false
open Go.RowKit

theorem rof_any (ao : Option Addr) (len cap : Nat) (b : List Nat) (n kind : Int) (w : World) (h : Sl w .u8 ao len cap (ints b)) (h256 : ∀ x ∈ b, x < 256) (hm : len ≤ 140737488355328) :
    Calls Try.prog 13 #[.slice ao len cap, .int .i64 n, .int .i64 kind] w (ColOf b n kind w) := by
  cases hk : Z.kindOk kind with
  | false =>
    have HK := hide hk
    clear hk h h256
    go_enter Try.func13, Try.ntmps13
    go_wp2_with fail
    refine (kinds_any _ _).mono ?_
    rintro e w2 ⟨rfl, rfl⟩
    rw [HK.out]
    go_wp2
    go_ret2
    exact ColOf.no (cE_kind HK.out) (by decide) (Below.refl _ _)
  | true =>
    have HK := hide hk
    by_cases hn : n < 0 ∨ 4096 < n
    · have HN := hide hn
      clear hk h h256
      rcases hn with hn | hn
      · have hd1 : decide (n < 0) = true := by simpa using hn
        go_enter Try.func13, Try.ntmps13
        go_wp2_with fail
        refine (kinds_any _ _).mono ?_
        rintro e w2 ⟨rfl, rfl⟩
        rw [HK.out]
        go_wp2
        go_ret2
        exact ColOf.no (cE_many HK.out HN.out) (by decide) (Below.refl _ _)
      · have hd1 : decide (n < 0) = false := by simp; omega
        have hd2 : decide (4096 < n) = true := by simpa using hn
        go_enter Try.func13, Try.ntmps13
        go_wp2_with fail
        refine (kinds_any _ _).mono ?_
        rintro e w2 ⟨rfl, rfl⟩
        rw [HK.out]
        go_wp2
        go_ret2
        exact ColOf.no (cE_many HK.out HN.out) (by decide) (Below.refl _ _)
    · obtain ⟨N, rfl⟩ : ∃ N : Nat, n = (N : Int) := ⟨n.toNat, by omega⟩
      have hN : N ≤ 4096 := by omega
      have hd1 : decide ((N : Int) < 0) = false := by simp
      have hd2 : decide ((4096 : Int) < (N : Int)) = false := by simp; omega
      have HS := hide (some_any ao len cap b N kind w h h256 hm hN)
      have hlm : (Z.pR kind N b).length ≤ 140737488355328 := by
        have h1 := pR_len kind N b
        have h2 : b.length = len := by rw [← h.1, ints_length]
        omega
      clear hk h h256 hn
      go_enter Try.func13, Try.ntmps13
      go_wp2_with fail
      refine (kinds_any _ _).mono ?_
      rintro e w2 ⟨rfl, rfl⟩
      rw [HK.out]
      go_wp2_with fail
      refine HS.out.mono ?_
      rintro e w3 ⟨hb, h1⟩
      have HB := hide hb
      clear hb HS
      rcases h1 with ⟨h1, v, a, c, rfl, ho⟩ | ⟨h1, rfl⟩
      · obtain ⟨m, hm2⟩ : ∃ m, (Z.pR kind N b).length = m := ⟨_, rfl⟩
        rw [hm2] at hlm ⊢
        by_cases h0 : m = 0
        · subst h0
          have HP := hide (cE_ok HK.out hN h1 (List.eq_nil_of_length_eq_zero hm2))
          have HO := hide ho
          clear h1 hm2 ho
          go_wp2
          go_ret2
          exact ColOf.yes HP.out HO.out HB.out
        · have HP := hide (cE_behind HK.out hN h1 (fun e => by rw [e] at hm2; exact h0 hm2.symm))
          have hpos : ((m : Int) != 0) = true := by simp; omega
          clear h1 hm2 ho
          go_wp2
          go_ret2
          exact ColOf.no HP.out (by decide) HB.out
      · obtain ⟨E, hE⟩ : ∃ E : Int, ((Z.pE kind N b : Nat) : Int) = E := ⟨_, rfl⟩
        have hE0 : E ≠ 0 := by omega
        have HP : Hid (Z.cE b (N : Int) kind = E) := (cE_bad HK.out hN h1).trans hE
        rw [hE]
        have HE0 := hide hE0
        have hEb : (E != 0) = true := by simpa using hE0
        clear h1 hE
        go_wp2
        go_ret2
        exact ColOf.no HP.out HE0.out HB.out

theorem slV_two (w : World) (x y : Z.V) : SlV (w.alloc (.cells #[.int .i64 x.k, .int .i64 x.i, .string x.s, .int .i64 y.k, .int .i64 y.i, .string y.s] 41)) (some ⟨w.heap.size, 0, none⟩) 2 2 [x, y] := by
  refine ⟨rfl, Nat.le_refl _, by decide, by simp, .inr ⟨w.heap.size, 0, rfl, by simp, fun j u hu => ?_⟩⟩
  match j, hu with
  | 0, hu => simp at hu; subst hu; simp
  | 1, hu => simp at hu; subst hu; simp
def exP : List Z.V := [⟨1, -1, ⟨#[]⟩⟩, ⟨1, 2, ⟨#[]⟩⟩]
theorem exP_chk : Z.chk exP 1 = 0 := by decide
theorem exP_cb : Z.cb exP 1 = [1, 4] := by decide
theorem plshown_any (w : World) : Calls Try.prog 8 #[] w fun e w' => e = .returned (.bool true) ∧ Below w.heap.size w w' := by
  have HSL := hide (slV_two w ⟨1, -1, ⟨#[]⟩⟩ ⟨1, 2, ⟨#[]⟩⟩)
  go_enter Try.func8, Try.ntmps8
  go_wp2_with fail
  refine (pbytes_any (some ⟨w.heap.size, 0, none⟩) 2 2 exP 1 _ HSL.out (by simp [exP, Z.I64])).mono ?_
  rintro e w1 ⟨a, c, rfl, hs, hb⟩
  rw [exP_chk, exP_cb]
  rw [exP_cb] at hs
  have hb1 := bthen (below_one w _) hb
  have HB := hide hb1
  have hst : ∀ n, n = 2 → (convert 23 9 (.slice a n c)).run Try.prog w1 = .ok (.string ⟨#[1, 4]⟩) w1 := by
    rintro n rfl
    have h := str_of hs
    rw [show strOfNums (ints [1, 4]) = ⟨#[1, 4]⟩ from by decide] at h
    exact h
  have hst2 := hst 2 rfl
  clear hb hs hb1 hst HSL
  go_wp2
  go_ret
  exact ⟨rfl, HB.out⟩

/-- 'few' tells that there are few. -/
def FewAns (len : Nat) (w : World) (e : Ending) (w' : World) : Prop := ∃ q, e = .returned (.bool q) ∧ (q = true → len ≤ 1000) ∧ w' = w
theorem FewAns.mk {len : Nat} {w : World} {v : Value} (q : Bool) (h0 : v = .bool q) (h : q = true → len ≤ 1000) : FewAns len w (.returned v) w := ⟨q, by rw [h0], h, rfl⟩
theorem few_some (b off len cap : Nat) (l : List Z.V) (w : World) (hl : l.length = len) (hm : len ≤ 140737488355328) (hlt : b < w.heap.size)
    (hc : ∀ j x, l[j]? = some x → w.cell? ⟨b, off + j * 3, none⟩ = some (.int .i64 x.k) ∧ w.cell? ⟨b, off + j * 3 + 1, none⟩ = some (.int .i64 x.i) ∧ w.cell? ⟨b, off + j * 3 + 2, none⟩ = some (.string x.s)) :
    Calls Try.prog 9 #[.slice (some ⟨b, off, none⟩) len cap] w (FewAns len w) := by
  have HC := hide hc
  have HL := hide hl
  clear hc hl
  go_enter Try.func9, Try.ntmps9
  go_wp2_with fail
  go_loopw [3, 4] (fun n i wr => ∃ (j : Nat) (x : Int), j ≤ len ∧ i = .int .i64 j ∧ n = .int .i64 x ∧ wr = w) (fun _ i _ => len - (intOf i).toNat)
  case atStart => exact ⟨0, 0, Nat.zero_le _, rfl, rfl, rfl⟩
  case round =>
    obtain ⟨j, x, hj, rfl, rfl, rfl⟩ := hrel
    by_cases hx : x ≤ 100000
    · have hxd : decide (x ≤ 100000) = true := by simpa using hx
      by_cases hjl : j < len
      · obtain ⟨⟨xk, xi, xs⟩, hx⟩ : ∃ x, l[j]? = some x := ⟨l[j]'(by rw [HL.out]; exact hjl), List.getElem?_eq_getElem _⟩
        obtain ⟨c1, c2, c3⟩ := HC.out j _ hx
        clear hx
        go_wp2
        go_roundw
        case rel => exact ⟨j + 1, _, hjl, by go_num, rfl, trivial⟩
        case measure => simp [intOf]; omega
      · obtain rfl : j = len := by omega
        by_cases h1 : j ≤ 1000
        · go_wp2
          go_ret
          exact FewAns.mk _ rfl fun _ => h1
        · go_wp2
          go_ret
          exact FewAns.mk _ rfl fun h => by simp at h
    · have hxd : decide (x ≤ 100000) = false := by simpa using hx
      by_cases h1 : len ≤ 1000
      · by_cases hjl : j < len
        · go_wp2
          go_ret
          exact FewAns.mk _ rfl fun _ => h1
        · go_wp2
          go_ret
          exact FewAns.mk _ rfl fun _ => h1
      · by_cases hjl : j < len
        · go_wp2
          go_ret
          exact FewAns.mk _ rfl fun h => by simp at h
        · go_wp2
          go_ret
          exact FewAns.mk _ rfl fun h => by simp at h
theorem few_none (ao : Option Addr) (cap : Nat) (w : World) :
    Calls Try.prog 9 #[.slice ao 0 cap] w (FewAns 0 w) := by
  go_enter Try.func9, Try.ntmps9
  go_wp2_with fail
  go_rounds 1
  go_ret
  exact FewAns.mk _ rfl fun _ => by omega
theorem few_any (ao : Option Addr) (len cap : Nat) (l : List Z.V) (w : World) (h : SlV w ao len cap l) (hm : len ≤ 140737488355328) :
    Calls Try.prog 9 #[.slice ao len cap] w (FewAns len w) := by
  rcases h.2.2.2.2 with h5 | ⟨b, off, rfl, hlt, h5⟩
  · subst h5
    exact few_none ao cap w
  · exact few_some b off len cap l w h.1 hm hlt h5
end Go.Proofs.Ythcnfbjljkighaa
/- What a row's step hands to the walks: slices of numbers that came in. -/
namespace Go.Proofs.Ythcnfbjljkighaa
set_option linter.unusedVariables false
open Go.ChangeShapes Go.WideShapes Go.ChangeAt Go.RowKit

theorem own : ownKnob Try.prog.godebug = none := by kernel_rfl
theorem laidOut : laidOutB Try.prog = true := by kernel_rfl

/-- A slice of numbers that came in: its elements, each of its kind; how many bytes it takes. -/
def Came (k : IntKind) (w : World) (a : Option Addr) (len cap : Nat) (l : List Int) : Prop := Sl w k a len cap l ∧ ∀ n ∈ l, (Lit.int k n).wf = true

theorem wf_u8 {n : Int} (h : (Lit.int .u8 n).wf = true) : 0 ≤ n ∧ n < 256 := by
  have := bounds_u8 h; omega
theorem wf_u64 {n : Int} (h : (Lit.int .u64 n).wf = true) : 0 ≤ n ∧ n < 18446744073709551616 := by
  have := bounds_u64 h; omega
theorem wf_i64 {n : Int} (h : (Lit.int .i64 n).wf = true) : -9223372036854775808 ≤ n ∧ n < 9223372036854775808 := by
  have := bounds_i64 h; omega
theorem wf_u16 {n : Int} (h : (Lit.int .u16 n).wf = true) : 0 ≤ n ∧ n < 65536 := by
  have := bounds_u16 h; omega

theorem came_of_cells {k : IntKind} {w : World} {x : Addr} {len cap : Nat} {zs : List Int} (hl : len ≤ cap) (hm : cap ≤ maxLen) (hz : zs.length = cap) (hc : ∀ i, i < zs.length → w.cell? (x.add i) = some (.int k (zs.getD i 0))) (hw : ∀ n ∈ zs, (Lit.int k n).wf = true) :
    Came k w (some x) len cap (zs.take len) := by
  refine ⟨⟨by simp; omega, hl, hm, by simp, ?_⟩, fun n hn => hw n (List.mem_of_mem_take hn)⟩
  by_cases h0 : len = 0
  · exact .inl h0
  · obtain ⟨b, off, spot⟩ := x
    have h1 := hc 0 (by omega)
    have hspot : spot = none := by simpa [Addr.add] using World.cell?_spot h1
    subst hspot
    refine .inr ⟨b, off, rfl, ?_, fun i hi => ?_⟩
    · have := cell_lt h1
      simpa [Addr.add] using this
    · have h2 := hc i (by omega)
      rw [Addr.add_lit] at h2
      rw [h2]
      simp [List.getD, hi]

/-- What the reading of such a slice weighs. -/
def Heavy {H : Type} (d : DataW H) (cap : Nat) : Prop := cap = 0 ∨ ∃ elems spare, d = .slice elems spare ∧ elems.length + spare.length = cap

/-- A slice of numbers that came in, opened. -/
theorem open_came {H : Type} {enc : TypeId × Value → H} {W : World} {t e : TypeId} {k : IntKind} {a : Option Addr} {len cap : Nat} {d : DataW H} {p : List MemPlace}
    (ht : Try.prog.underlying t = some (.slice e)) (he : Try.prog.underlying e = some (.int k)) (hc : Try.prog.cellsOf e = 1)
    (h : DataW.Trod enc Try.prog W 0 (fun _ => true) true t (.slice a len cap) d p) : (∃ l, Came k W a len cap l) ∧ Heavy d cap := by
  obtain ⟨fuel, hf⟩ := h
  rcases open_ints ht he hc hf with ⟨hcs, _⟩ | ⟨x, l, c, zs, hcs, _, hl, hm, hz, hd, hcell, hwz⟩
  · simp [Value.cells] at hcs
    obtain ⟨rfl, rfl, rfl⟩ := hcs
    exact ⟨⟨[], ⟨rfl, Nat.le_refl _, by decide, fun _ => rfl, .inl rfl⟩, by simp⟩, .inl rfl⟩
  · simp [Value.cells] at hcs
    obtain ⟨rfl, rfl, rfl⟩ := hcs
    have hz' : zs.length = cap := by simpa using hz
    refine ⟨⟨zs.take len, came_of_cells hl hm hz' hcell hwz⟩, .inr ⟨_, _, (Prod.mk.inj hd).1, ?_⟩⟩
    simp [lits]; omega

theorem reach_came {H : Type} {ts : List TypeId} {ds : List (DataW H)} {j : Nat} {t e : TypeId} {d : DataW H} {cap : Nat} (hsz : (DataW.weightsEach Try.prog ts ds).all (· ≤ reachBytes) = true)
    (ht : ts[j]? = some t) (hdj : ds[j]? = some d) (hu : Try.prog.underlying t = some (.slice e)) (hd : Heavy d cap) : cap * Try.prog.bytesOf e ≤ 140737488351232 := by
  rcases hd with rfl | ⟨el, sp, rfl, rfl⟩
  · simp
  · have := sized_slice hsz ht hdj hu
    simpa [reachBytes] using this
/-- Bytes that came in. -/
theorem came_bytes {w : World} {a : Option Addr} {len cap : Nat} {z : List Int} (h : Came .u8 w a len cap z) : ∃ l : List Nat, z = ints l ∧ (∀ x ∈ l, x < 256) := by
  refine ⟨z.map Int.toNat, ?_, ?_⟩
  · simp only [ints, List.map_map]
    conv => lhs; rw [← List.map_id z]
    apply List.map_congr_left
    intro x hx
    have := wf_u8 (h.2 x hx)
    simp; omega
  · intro x hx
    obtain ⟨y, hy, rfl⟩ := List.mem_map.1 hx
    have := wf_u8 (h.2 y hy)
    omega

end Go.Proofs.Ythcnfbjljkighaa
/- What a row's step hands to the walks: a value that came in. -/
namespace Go.Proofs.Ythcnfbjljkighaa
set_option linter.unusedVariables false
open Go.ChangeShapes Go.WideShapes Go.ChangeAt Go.RowKit

theorem Try.cellsVal : Try.prog.cellsOf 41 = 3 := by kernel_rfl
theorem open_val {H : Type} {enc : TypeId × Value → H} {W : World} {base : Nat} {v : Value} {d : DataW H} {p : List MemPlace}
    (hv : Value.okWide Try.prog W .any base 41 v) (h : DataW.Trod enc Try.prog W 0 (fun _ => true) true 41 v d p) :
    ∃ (k i : Int) (s : ByteArray), v = .agg #[.int .i64 k, .int .i64 i, .string s] ∧ Z.I64 k ∧ Z.I64 i ∧ s.size ≤ maxLen ∧ d = .agg [.lit (.int .i64 k), .lit (.int .i64 i), .lit (.string s.data.toList)] := by
  obtain ⟨c0, c1, c2, y0, y1, y2, m, rfl, rfl, rfl, hy0, hy1, hy2⟩ := Joins.open_agg3 Try.underlying41 (by kernel_rfl) Try.cellsVal hv h
  obtain ⟨x, e0, rfl, wx⟩ := DataW.trod_int Try.underlying3 hy0
  obtain ⟨y, e1, rfl, wy⟩ := DataW.trod_int Try.underlying2 hy1
  obtain ⟨s, e2, rfl, ws⟩ := DataW.trod_string Try.underlying9 hy2
  simp at e0 e1 e2
  subst e0 e1 e2
  have h1 := wf_i64 wx
  have h2 := wf_i64 wy
  exact ⟨x, y, s, rfl, h1, h2, ws, rfl⟩
end Go.Proofs.Ythcnfbjljkighaa
/- What the bound of the second statements gives: how much an argument holds. -/
namespace Go.Proofs.Ythcnfbjljkighaa
set_option linter.unusedVariables false
open Go.ChangeShapes Go.WideShapes Go.ChangeAt Go.RowKit

/-- Whatever is read weighs something. -/
theorem bulk_pos {H : Type} (d : DataW H) : 0 < Rows.uptoBulk d := by
  cases d with
  | lit x => cases x <;> exact Nat.succ_pos _
  | _ => exact Nat.succ_pos _
theorem bulk_count {H : Type} : ∀ l : List (DataW H), l.length ≤ Rows.uptoBulkAll l
  | [] => Nat.le_refl _
  | d :: r => by
    have h1 := bulk_pos d
    have h2 := bulk_count r
    show r.length + 1 ≤ Rows.uptoBulk d + Rows.uptoBulkAll r
    omega
theorem bulk_among {H : Type} {d : DataW H} : ∀ {l : List (DataW H)}, d ∈ l → Rows.uptoBulk d ≤ Rows.uptoBulkAll l
  | x :: r, h => by
    show _ ≤ Rows.uptoBulk x + Rows.uptoBulkAll r
    rcases List.mem_cons.1 h with rfl | h
    · exact Nat.le_add_right _ _
    · exact Nat.le_trans (bulk_among h) (Nat.le_add_left _ _)
theorem bulk_slice {H : Type} {d : DataW H} {cap : Nat} (h : Heavy d cap) : cap ≤ Rows.uptoBulk d := by
  rcases h with rfl | ⟨el, sp, rfl, rfl⟩
  · omega
  · have h1 := bulk_count el
    have h2 := bulk_count sp
    show _ ≤ Rows.uptoBulkAll el + Rows.uptoBulkAll sp + 1
    omega
theorem bulk_string {H : Type} (s : ByteArray) : s.size ≤ Rows.uptoBulk (DataW.lit (H := H) (.string s.data.toList)) := by
  have e : s.data.toList.length = s.size := by simp
  simp only [Rows.uptoBulk]; omega
/-- Each argument is of at most so many values and letters. -/
theorem bulk_le {H : Type} {l : List (DataW H)} (hk : Rows.uptoSmall H l = true) {d : DataW H} (h : d ∈ l) : Rows.uptoBulk d ≤ 1048576 := by
  have h1 : Rows.uptoBulkAll l ≤ 1048576 := of_decide_eq_true hk
  exact Nat.le_trans (bulk_among h) h1
end Go.Proofs.Ythcnfbjljkighaa
/- What a row's step hands to the walks: a slice of values that came in. -/
namespace Go.Proofs.Ythcnfbjljkighaa
set_option linter.unusedVariables false
open Go.ChangeShapes Go.WideShapes Go.ChangeAt Go.RowKit Go.Deep

theorem open_vals {H : Type} {enc : TypeId × Value → H} {W : World} {a : Option Addr} {len cap : Nat} {d : DataW H} {p : List MemPlace}
    (h : DataW.Trod enc Try.prog W 0 (fun _ => true) true 22 (.slice a len cap) d p) : (∃ l : List Z.V, SlV W a len cap l) ∧ Heavy d cap := by
  obtain ⟨fuel, hf⟩ := h
  rcases open_slice Try.underlying22 hf with ⟨hcs, _⟩ | ⟨x, l, c, m, n, D, Pl, hcs, _, hl, hm, hmm, hd, hx⟩
  · simp [Value.cells] at hcs
    obtain ⟨rfl, rfl, rfl⟩ := hcs
    exact ⟨⟨[], rfl, Nat.le_refl _, by decide, fun _ => rfl, .inl rfl⟩, .inl rfl⟩
  · simp [Value.cells] at hcs
    obtain ⟨rfl, rfl, rfl⟩ := hcs
    simp only [if_true] at hmm
    subst hmm
    have each : ∀ i, i < m → ∃ q : Z.V, W.cell? (x.add (i * 3)) = some (.int .i64 q.k) ∧ W.cell? (x.add (i * 3 + 1)) = some (.int .i64 q.i) ∧ W.cell? (x.add (i * 3 + 2)) = some (.string q.s) := by
      intro i hi
      obtain ⟨cs', h1, h2⟩ := hx i hi
      rw [Try.cellsVal] at h1
      obtain ⟨_, hlen, hcell⟩ := World.cells?_some h1
      obtain ⟨xs, k, hk, hxy, _, hxl, hf⟩ := DataW.trod_struct Try.underlying41 h2
      match xs, hxl, cs', hlen with
      | [y0, y1, y2], _, [v0, v1, v2], _ =>
        have k0 : Try.prog.cellsOf 3 = 1 := by kernel_rfl
        have k1 : Try.prog.cellsOf 2 = 1 := by kernel_rfl
        have k2 : Try.prog.cellsOf 9 = 1 := by kernel_rfl
        have g0 := hf 0 _ rfl
        have g1 := hf 1 _ rfl
        have g2 := hf 2 _ rfl
        simp [k0, k1, k2] at g0 g1 g2
        obtain ⟨n0, e0, _, _⟩ := DataW.trod_int Try.underlying3 g0
        obtain ⟨n1, e1, _, _⟩ := DataW.trod_int Try.underlying2 g1
        obtain ⟨s2, e2, _, _⟩ := DataW.trod_string Try.underlying9 g2
        simp at e0 e1 e2
        subst e0 e1 e2
        have c0 := hcell 0 (by omega)
        have c1 := hcell 1 (by omega)
        have c2 := hcell 2 (by omega)
        rw [add_add] at c0 c1 c2
        exact ⟨⟨n0, n1, s2⟩, by simpa using c0, by simpa using c1, by simpa using c2⟩
    obtain ⟨q, hq⟩ := @choose_lt Z.V ⟨⟨0, 0, ⟨#[]⟩⟩⟩ _ _ each
    refine ⟨⟨(List.range len).map q, by simp, hl, hm, by simp, ?_⟩, .inr ⟨_, _, (Prod.mk.inj hd).1, by simp; omega⟩⟩
    by_cases h0 : len = 0
    · exact .inl h0
    · obtain ⟨b, off, spot⟩ := x
      have h1 := (hq 0 (by omega)).1
      have hspot : spot = none := by simpa [Addr.add] using World.cell?_spot h1
      subst hspot
      refine .inr ⟨b, off, rfl, ?_, fun j y hy => ?_⟩
      · have := cell_lt h1
        simpa [Addr.add] using this
      · have hj : j < len := by have := (List.getElem?_eq_some_iff.1 hy).1; simpa using this
        obtain rfl : q j = y := by simpa [hj] using hy
        obtain ⟨c0, c1, c2⟩ := hq j (by omega)
        rw [Addr.add_lit] at c0 c1 c2
        exact ⟨c0, by rw [← Nat.add_assoc] at c1; exact c1, by rw [← Nat.add_assoc] at c2; exact c2⟩
end Go.Proofs.Ythcnfbjljkighaa
/- What a row's step hands to the walks: a slice of values that came in, whose parts are numbers and texts of the machine. -/
namespace Go.Proofs.Ythcnfbjljkighaa
set_option linter.unusedVariables false
open Go.ChangeShapes Go.WideShapes Go.ChangeAt Go.RowKit Go.Deep

/-- A value whose parts are numbers and a text of the machine. -/
def Z.Wf (x : Z.V) : Prop := Z.I64 x.k ∧ Z.I64 x.i ∧ x.s.size ≤ maxLen
theorem open_valsI {H : Type} {enc : TypeId × Value → H} {W : World} {a : Option Addr} {len cap : Nat} {d : DataW H} {p : List MemPlace}
    (h : DataW.Trod enc Try.prog W 0 (fun _ => true) true 22 (.slice a len cap) d p) : (∃ l : List Z.V, SlV W a len cap l ∧ ∀ x ∈ l, Z.Wf x) ∧ Heavy d cap := by
  obtain ⟨fuel, hf⟩ := h
  rcases open_slice Try.underlying22 hf with ⟨hcs, _⟩ | ⟨x, l, c, m, n, D, Pl, hcs, _, hl, hm, hmm, hd, hx⟩
  · simp [Value.cells] at hcs
    obtain ⟨rfl, rfl, rfl⟩ := hcs
    exact ⟨⟨[], ⟨rfl, Nat.le_refl _, by decide, fun _ => rfl, .inl rfl⟩, by simp⟩, .inl rfl⟩
  · simp [Value.cells] at hcs
    obtain ⟨rfl, rfl, rfl⟩ := hcs
    simp only [if_true] at hmm
    subst hmm
    have each : ∀ i, i < m → ∃ q : Z.V, W.cell? (x.add (i * 3)) = some (.int .i64 q.k) ∧ W.cell? (x.add (i * 3 + 1)) = some (.int .i64 q.i) ∧ W.cell? (x.add (i * 3 + 2)) = some (.string q.s) ∧ Z.Wf q := by
      intro i hi
      obtain ⟨cs', h1, h2⟩ := hx i hi
      rw [Try.cellsVal] at h1
      obtain ⟨_, hlen, hcell⟩ := World.cells?_some h1
      obtain ⟨xs, k, hk, hxy, _, hxl, hf⟩ := DataW.trod_struct Try.underlying41 h2
      match xs, hxl, cs', hlen with
      | [y0, y1, y2], _, [v0, v1, v2], _ =>
        have k0 : Try.prog.cellsOf 3 = 1 := by kernel_rfl
        have k1 : Try.prog.cellsOf 2 = 1 := by kernel_rfl
        have k2 : Try.prog.cellsOf 9 = 1 := by kernel_rfl
        have g0 := hf 0 _ rfl
        have g1 := hf 1 _ rfl
        have g2 := hf 2 _ rfl
        simp [k0, k1, k2] at g0 g1 g2
        obtain ⟨n0, e0, _, wx⟩ := DataW.trod_int Try.underlying3 g0
        obtain ⟨n1, e1, _, wy⟩ := DataW.trod_int Try.underlying2 g1
        obtain ⟨s2, e2, _, ws⟩ := DataW.trod_string Try.underlying9 g2
        simp at e0 e1 e2
        subst e0 e1 e2
        have c0 := hcell 0 (by omega)
        have c1 := hcell 1 (by omega)
        have c2 := hcell 2 (by omega)
        rw [add_add] at c0 c1 c2
        exact ⟨⟨n0, n1, s2⟩, by simpa using c0, by simpa using c1, by simpa using c2, wf_i64 wx, wf_i64 wy, ws⟩
    obtain ⟨q, hq⟩ := @choose_lt Z.V ⟨⟨0, 0, ⟨#[]⟩⟩⟩ _ _ each
    refine ⟨⟨(List.range len).map q, ⟨by simp, hl, hm, by simp, ?_⟩, fun y hy => ?_⟩, .inr ⟨_, _, (Prod.mk.inj hd).1, by simp; omega⟩⟩
    rotate_left
    · obtain ⟨j, hj, rfl⟩ := List.mem_map.1 hy
      exact (hq j (by have := List.mem_range.1 hj; omega)).2.2.2
    by_cases h0 : len = 0
    · exact .inl h0
    · obtain ⟨b, off, spot⟩ := x
      have h1 := (hq 0 (by omega)).1
      have hspot : spot = none := by simpa [Addr.add] using World.cell?_spot h1
      subst hspot
      refine .inr ⟨b, off, rfl, ?_, fun j y hy => ?_⟩
      · have := cell_lt h1
        simpa [Addr.add] using this
      · have hj : j < len := by have := (List.getElem?_eq_some_iff.1 hy).1; simpa using this
        obtain rfl : q j = y := by simpa [hj] using hy
        obtain ⟨c0, c1, c2, _⟩ := hq j (by omega)
        rw [Addr.add_lit] at c0 c1 c2
        exact ⟨c0, by rw [← Nat.add_assoc] at c1; exact c1, by rw [← Nat.add_assoc] at c2; exact c2⟩
end Go.Proofs.Ythcnfbjljkighaa
/- The walk of the statement: bytes of a column, cut anywhere ahead of their end, are not as many values. -/
namespace Go.Proofs.Ythcnfbjljkighaa
set_option linter.unusedVariables false
open Go.RowKit

theorem fits {l : List Z.V} {kind : Int} (h : Z.chk l kind = 0) (hwf : ∀ x ∈ l, Z.Wf x) : ∀ x ∈ l, Z.Fit kind x := fun x hx => ⟨(chk_zero h).2.2.1 x hx, (chk_zero h).2.2.2 x hx, (hwf x hx).2.1⟩
theorem kindOk_of {l : List Z.V} {kind : Int} (h : Z.chk l kind = 0) : Z.kindOk kind = true := by
  rcases (chk_zero h).1 with rfl | rfl | rfl <;> rfl
theorem lb_lt {x : Z.V} (hi : Z.I64 x.i) : ∀ y ∈ Z.lb x, y < 256 := by
  obtain ⟨k, i, s⟩ := x
  by_cases h1 : k = 1
  · subst h1; rw [lb_int]; exact E.leb_lt _
  · by_cases h2 : k = 2
    · subst h2; rw [lb_float]
      have hk := D.ky_in (Z.u_in i)
      have hk2 : (D.ky (Z.u i)).toNat < 18446744073709551616 := by have := hk.1; have := hk.2; omega
      exact Z.k8_lt hk2
    · by_cases h3 : k = 3
      · subst h3; rw [lb_text]
        intro y hy
        rcases List.mem_append.1 hy with hy | hy
        · exact E.leb_lt _ y hy
        · exact sb_lt s y hy
      · rw [lb_else h1 h2 h3]; simp
theorem pb_lt {l : List Z.V} (h : ∀ x ∈ l, Z.Wf x) : ∀ y ∈ Z.pb l, y < 256 := by
  intro y hy
  obtain ⟨x, hx, hy⟩ := List.mem_flatMap.1 hy
  exact lb_lt (h x hx).2.1 y hy
theorem cb_lt {l : List Z.V} {kind : Int} (h : ∀ x ∈ l, Z.Wf x) : ∀ y ∈ Z.cb l kind, y < 256 := by
  unfold Z.cb
  split
  · exact pb_lt h
  · simp
theorem cb_len {l : List Z.V} {kind : Int} (h : ∀ x ∈ l, Z.Wf x) : (Z.cb l kind).length ≤ 4235264 := by
  unfold Z.cb
  split
  · rename_i h0
    have h1 := pb_le l (fun x hx => (h x hx).2.1) (chk_zero h0).2.2.2
    have h2 := (chk_zero h0).2.1
    omega
  · simp

set_option maxHeartbeats 4000000 in
theorem plainCuts_walk (w : World) (a : Option Addr) (len cap : Nat) (l : List Z.V) (hs : SlV w a len cap l) (hwf : ∀ x ∈ l, Z.Wf x) (hr : cap * 32 ≤ 140737488351232) (kind : Int) (wk : (Lit.int .i64 kind).wf = true) (cut : Int) (wc : (Lit.int .u16 cut).wf = true) :
    Calls Try.prog 7 #[.slice a len cap, .int .i64 kind, .int .u16 cut] w fun e w' => e = .returned (.bool true) ∧ Below w.heap.size w w' := by
  have hlen : len ≤ 140737488351232 := by have := hs.2.1; omega
  have hcut := wf_u16 wc
  have HS := hide hs
  have HWF := hide hwf
  have HLL := hide hs.1
  clear hs hwf hr wk wc
  go_enter Try.func7, Try.ntmps7
  go_wp2_with fail
  refine (plshown_any _).mono ?_
  rintro e w1 ⟨rfl, hb⟩
  have b0 := hide hb
  clear hb
  go_wp2_with fail
  refine (few_any a len cap l _ (HS.out.below b0.out) (by omega)).mono ?_
  rintro e w2 ⟨q, rfl, hq, rfl⟩
  cases q with
  | false =>
    go_wp2
    go_ret
    exact ⟨rfl, b0.out⟩
  | true =>
    have hl1 := hq rfl
    clear hq
    go_wp2_with fail
    refine (pbytes_any a len cap l kind _ (HS.out.below b0.out) (fun x hx => (HWF.out x hx).2.1)).mono ?_
    rintro e w3 ⟨pa, pc, rfl, hs3, hb⟩
    have b3 := hide (bthen b0.out hb)
    have HS3 := hide hs3
    clear hb hs3
    by_cases h0 : Z.chk l kind = 0
    · have HE := hide h0
      rw [h0]
      obtain ⟨K, hK⟩ : ∃ K, (Z.cb l kind).length = K := ⟨_, rfl⟩
      have hKl : K ≤ 4235264 := by rw [← hK]; exact cb_len HWF.out
      rw [hK] at HS3 ⊢
      have HK := hide hK
      clear h0 hK
      by_cases hK0 : K = 0
      · subst hK0
        go_wp2
        go_ret
        exact ⟨rfl, b3.out⟩
      · have hKb : ((K : Int) == 0) = false := by simp; omega
        have hKn : (K : Int) ≠ 0 := by omega
        have hm0 := Int.emod_nonneg cut hKn
        have hm1 := Int.emod_lt_of_pos cut (show (0 : Int) < (K : Int) by omega)
        obtain ⟨D, hD⟩ : ∃ D : Nat, cut % (K : Int) = (D : Int) := ⟨(cut % (K : Int)).toNat, by omega⟩
        have hDK : D < K := by omega
        obtain ⟨qa, hqs, hr1, hr2⟩ := head_of HS3.out (Nat.le_of_lt hDK)
        rw [← hD] at hr1 hr2
        have HQ := hide hqs
        have HC : Hid (Z.cE ((Z.cb l kind).take D) (len : Int) kind = 3) := by
          show _ = _
          have h1 := p_cut kind l (fits HE.out HWF.out) D (by rw [← cb_ok HE.out, HK.out]; exact hDK)
          rw [HLL.out] at h1
          rw [cb_ok HE.out, cE_bad (kindOk_of HE.out) (by omega) (by rw [h1]; decide), h1]
          rfl
        clear hqs hD hm0 hm1
        go_wp2_with fail
        refine (pof_any qa D pc ((Z.cb l kind).take D) (len : Int) kind _ HQ.out (fun y hy => cb_lt HWF.out y (List.mem_of_mem_take hy)) (by omega)).mono ?_
        rintro e w4 ⟨va, vc, rfl, _, hb⟩
        have b4 := hide (bthen b3.out hb)
        rw [HC.out]
        generalize (Z.cL ((Z.cb l kind).take D) (len : Int) kind).length = n4
        clear hb
        go_wp2
        go_ret
        exact ⟨rfl, b4.out⟩
    · obtain ⟨E, hE⟩ : ∃ E, Z.chk l kind = E := ⟨_, rfl⟩
      rw [hE] at h0 ⊢
      have hEb : (E != 0) = true := by simpa using h0
      generalize (Z.cb l kind).length = K
      clear hE
      go_wp2
      go_ret
      exact ⟨rfl, b3.out⟩
end Go.Proofs.Ythcnfbjljkighaa

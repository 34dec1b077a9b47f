/- Check: may values be a column's? The program's answer, and the document's. -/
import Derived.Test.YthcnfbjljkighaaBdL
import Derived.Test.YthcnfbjljkighaaBdK
import Derived.Lib.SliceRun
import Derived.Test.YthcnfbjljkighaaBdH
namespace Go.Proofs.Ythcnfbjljkighaa
set_option linter.unusedVariables false
open Go.RowKit

theorem iscol_any (kind : Int) (w : World) : Calls Try.prog 19 #[.int .i64 kind] w fun e w' => e = .returned (.bool (Z.kindOk kind)) ∧ w' = w := by
  by_cases k1 : kind = 1
  · subst k1
    go_enter Try.func19, Try.ntmps19
    go_wp2
    go_ret
    exact ⟨rfl, rfl⟩
  · by_cases k2 : kind = 2
    · subst k2
      go_enter Try.func19, Try.ntmps19
      go_wp2
      go_ret
      exact ⟨rfl, rfl⟩
    · by_cases k3 : kind = 3
      · subst k3
        go_enter Try.func19, Try.ntmps19
        go_wp2
        go_ret
        exact ⟨rfl, rfl⟩
      · have HK : Hid (Z.kindOk kind = false) := by show _ = _; unfold Z.kindOk; simp [k1, k2, k3]
        have e1 : (kind == 1) = false := by simpa using k1
        have e2 : (kind == 2) = false := by simpa using k2
        have e3 : (kind == 3) = false := by simpa using k3
        go_enter Try.func19, Try.ntmps19
        go_wp2
        go_ret
        exact ⟨by rw [HK.out]; rfl, rfl⟩
theorem kinds_any (kind : Int) (w : World) : Calls Try.prog 23 #[.int .i64 kind] w fun e w' => e = .returned (.bool (Z.kindOk kind)) ∧ w' = w := by
  by_cases k1 : kind = 1
  · subst k1
    go_enter Try.func23, Try.ntmps23
    go_wp2
    go_ret
    exact ⟨rfl, rfl⟩
  · by_cases k2 : kind = 2
    · subst k2
      go_enter Try.func23, Try.ntmps23
      go_wp2
      go_ret
      exact ⟨rfl, rfl⟩
    · by_cases k3 : kind = 3
      · subst k3
        go_enter Try.func23, Try.ntmps23
        go_wp2
        go_ret
        exact ⟨rfl, rfl⟩
      · have HK : Hid (Z.kindOk kind = false) := by show _ = _; unfold Z.kindOk; simp [k1, k2, k3]
        have e1 : (kind == 1) = false := by simpa using k1
        have e2 : (kind == 2) = false := by simpa using k2
        have e3 : (kind == 3) = false := by simpa using k3
        go_enter Try.func23, Try.ntmps23
        go_wp2
        go_ret
        exact ⟨by rw [HK.out]; rfl, rfl⟩
theorem chk_kind {l : List Z.V} {kind : Int} (h : Z.kindOk kind = false) : Z.chk l kind = 1 := by unfold Z.chk; rw [if_pos h]
theorem chk_many {l : List Z.V} {kind : Int} (h : Z.kindOk kind = true) (h1 : 4096 < l.length) : Z.chk l kind = 2 := by unfold Z.chk; rw [h, if_neg (by decide), if_pos h1]
theorem chk_other {l : List Z.V} {kind : Int} (h : Z.kindOk kind = true) (h1 : l.length ≤ 4096) (h2 : l.any (Z.isOther kind) = true) : Z.chk l kind = 7 := by
  unfold Z.chk; rw [h, if_neg (by decide), if_neg (by omega)]
  exact if_pos h2
theorem chk_mayNot {l : List Z.V} {kind : Int} (h : Z.kindOk kind = true) (h1 : l.length ≤ 4096) (h2 : l.any (Z.isOther kind) = false) (h3 : l.any Z.mayNot = true) : Z.chk l kind = 1 := by
  unfold Z.chk; rw [h, if_neg (by decide), if_neg (by omega)]
  exact (if_neg (by show ¬ l.any (Z.isOther kind) = true; rw [h2]; decide)).trans (if_pos h3)
theorem chk_yes {l : List Z.V} {kind : Int} (h : Z.kindOk kind = true) (h1 : l.length ≤ 4096) (h2 : l.any (Z.isOther kind) = false) (h3 : l.any Z.mayNot = false) : Z.chk l kind = 0 := by
  unfold Z.chk; rw [h, if_neg (by decide), if_neg (by omega)]
  exact (if_neg (by show ¬ l.any (Z.isOther kind) = true; rw [h2]; decide)).trans (if_neg (by show ¬ l.any Z.mayNot = true; rw [h3]; decide))

set_option maxHeartbeats 1000000 in
theorem check_any (ao : Option Addr) (len cap : Nat) (l : List Z.V) (kind : Int) (w : World) (h : SlV w ao len cap l) (hI : ∀ x ∈ l, Z.I64 x.i) :
    Calls Try.prog 14 #[.slice ao len cap, .int .i64 kind] w fun e w' => e = .returned (.int .i64 (Z.chk l kind)) ∧ Below w.heap.size w w' := by
  have hmf : ∀ (fn : Fn) (first cap : Array Value) (w : World), (Instr.makeFunc fn first cap).run Try.prog w = .ok (.func fn first cap) w := fun _ _ _ _ => rfl
  have hb := heap_alloc_new w (.cells #[.int .i64 kind] 3)
  have b0 := hide (below_one w (.cells #[.int .i64 kind] 3))
  have HS := hide (h.below b0.out)
  have HI := hide hI
  have HL := hide h.1
  obtain ⟨c1, _⟩ := cell_of_heap hb
  have HB := hide hb
  clear h hI hb
  obtain ⟨q, hq⟩ : ∃ q, Z.kindOk kind = q := ⟨_, rfl⟩
  have HQ := hide hq
  clear hq
  go_enter Try.func14, Try.ntmps14
  go_wp2_with fail
  refine (iscol_any _ _).mono ?_
  rintro e w1 ⟨rfl, rfl⟩
  rw [HQ.out]
  cases q with
  | false =>
    go_wp2
    go_ret
    exact ⟨by rw [chk_kind HQ.out]; rfl, b0.out⟩
  | true =>
    by_cases hm : 4096 < len
    · go_wp2
      go_ret
      exact ⟨by rw [chk_many HQ.out (by rw [HL.out]; exact hm)]; rfl, b0.out⟩
    · go_wp2_with fail
      refine (contains_other _ _ _ l w.heap.size kind _ HS.out (by omega) HB.out).mono ?_
      rintro e w1 ⟨rfl, hb1⟩
      replace b0 := hide (bthen b0.out hb1)
      replace HS := hide (HS.out.below hb1)
      obtain ⟨q2, hq2⟩ : ∃ q, l.any (Z.isOther kind) = q := ⟨_, rfl⟩
      have HQ2 := hide hq2
      rw [hq2]
      clear hq2 hb1
      cases q2 with
      | true =>
        go_wp2
        go_ret
        exact ⟨by rw [chk_other HQ.out (by rw [HL.out]; omega) HQ2.out]; rfl, b0.out⟩
      | false =>
        go_wp2_with fail
        refine (contains_mayNot _ _ _ l _ HS.out (by omega) HI.out).mono ?_
        rintro e w2 ⟨rfl, hb2⟩
        replace b0 := hide (bthen b0.out hb2)
        obtain ⟨q3, hq3⟩ : ∃ q, l.any Z.mayNot = q := ⟨_, rfl⟩
        have HQ3 := hide hq3
        rw [hq3]
        clear hq3 hb2
        cases q3 with
        | true =>
          go_wp2
          go_ret
          exact ⟨by rw [chk_mayNot HQ.out (by rw [HL.out]; omega) HQ2.out HQ3.out]; rfl, b0.out⟩
        | false =>
          go_wp2
          go_ret
          exact ⟨by rw [chk_yes HQ.out (by rw [HL.out]; omega) HQ2.out HQ3.out]; rfl, b0.out⟩
end Go.Proofs.Ythcnfbjljkighaa
/- The document's Check. -/
namespace Go.Proofs.Ythcnfbjljkighaa
set_option linter.unusedVariables false
open Go.RowKit

set_option maxHeartbeats 1000000 in
theorem rcheck_some (b off len cap : Nat) (l : List Z.V) (kind : Int) (w : World) (hl : l.length = len) (hm : len ≤ 4096) (hlt : b < w.heap.size) (hk : Z.kindOk kind = true) (hI : ∀ x ∈ l, Z.I64 x.i)
    (hc : ∀ j x, l[j]? = some x → w.cell? ⟨b, off + j * 3, none⟩ = some (.int .i64 x.k) ∧ w.cell? ⟨b, off + j * 3 + 1, none⟩ = some (.int .i64 x.i) ∧ w.cell? ⟨b, off + j * 3 + 2, none⟩ = some (.string x.s)) :
    Calls Try.prog 15 #[.slice (some ⟨b, off, none⟩) len cap, .int .i64 kind] w fun e w' => e = .returned (.int .i64 (Z.chk l kind)) ∧ Below w.heap.size w w' := by
  have HC := hide hc
  have HL := hide hl
  have HI := hide hI
  have HK := hide hk
  clear hc hl hI hk
  go_enter Try.func15, Try.ntmps15
  go_wp2_with fail
  refine (kinds_any _ _).mono ?_
  rintro e w1 ⟨rfl, rfl⟩
  rw [HK.out]
  go_wp2_with fail
  go_loopw [5] (fun i wr => ∃ j : Nat, j ≤ len ∧ i = .int .i64 j ∧ Hid ((l.take j).any (Z.isOther kind) = false) ∧ Hid (Below w1.heap.size w1 wr)) (fun i _ => len - (intOf i).toNat)
  case atStart => exact ⟨0, Nat.zero_le _, rfl, hide rfl, hide (Below.refl _ _)⟩
  case round =>
    obtain ⟨j, hj, rfl, han, hbw⟩ := hrel
    by_cases hjl : j < len
    · obtain ⟨⟨xk, xi, xs⟩, hx⟩ : ∃ x, l[j]? = some x := ⟨l[j]'(by rw [HL.out]; exact hjl), List.getElem?_eq_getElem _⟩
      obtain ⟨c1, c2, c3⟩ := HC.out j _ hx
      have d1 : wr.cell? ⟨b, off + j * 3, none⟩ = some (.int .i64 xk) := by rw [hbw.out.cell (p := ⟨b, off + j * 3, none⟩) hlt]; exact c1
      obtain ⟨q, hq⟩ : ∃ q, (xk != kind) = q := ⟨_, rfl⟩
      have HQ : Hid (Z.isOther kind ⟨xk, xi, xs⟩ = q) := hq
      have HX := hide hx
      clear c1 c2 c3 hx
      cases q with
      | true =>
        go_wp2
        go_ret
        exact ⟨by rw [chk_other HK.out (by rw [HL.out]; exact hm) (any_get HX.out HQ.out)]; rfl, hbw.out⟩
      | false =>
        go_wp2
        go_roundw
        case rel => exact ⟨j + 1, hjl, by go_num, hide (any_take HX.out HQ.out han.out), hbw⟩
        case measure => simp [intOf]; omega
    · obtain rfl : j = len := by omega
      have HE : Hid (l.any (Z.isOther kind) = false) := by
        have := han.out
        rwa [← HL.out, List.take_length] at this
      have HB0 := hide hbw.out.size
      clear han
      go_wp2_with fail
      go_loopw [6] (fun i wq => ∃ k : Nat, k ≤ j ∧ i = .int .i64 k ∧ Hid ((l.take k).any Z.mayNot = false) ∧ Hid (Below w1.heap.size w1 wq)) (fun i _ => j - (intOf i).toNat)
      case atStart => exact ⟨0, Nat.zero_le _, rfl, hide rfl, hbw⟩
      case round =>
        obtain ⟨k, hkj, rfl, han, hbq⟩ := hrel
        by_cases hjl : k < j
        · obtain ⟨⟨xk, xi, xs⟩, hx⟩ : ∃ x, l[k]? = some x := ⟨l[k]'(by rw [HL.out]; exact hjl), List.getElem?_eq_getElem _⟩
          obtain ⟨c1, c2, c3⟩ := HC.out k _ hx
          have d1 : wr.cell? ⟨b, off + k * 3, none⟩ = some (.int .i64 xk) := by rw [hbq.out.cell (p := ⟨b, off + k * 3, none⟩) hlt]; exact c1
          have d2 : wr.cell? ⟨b, off + k * 3 + 1, none⟩ = some (.int .i64 xi) := by rw [hbq.out.cell (p := ⟨b, off + k * 3 + 1, none⟩) hlt]; exact c2
          have d3 : wr.cell? ⟨b, off + k * 3 + 2, none⟩ = some (.string xs) := by rw [hbq.out.cell (p := ⟨b, off + k * 3 + 2, none⟩) hlt]; exact c3
          have HX := hide hx
          have HXI := hide (HI.out _ (List.mem_of_getElem? hx))
          clear c1 c2 c3 hx
          go_wp2_with fail
          refine (umay_any _ _ _ _ HXI.out).mono ?_
          rintro e w2 ⟨rfl, hw2⟩
          have HBN := hide (bthen hbq.out hw2)
          obtain ⟨q, hq⟩ : ∃ q, Z.may ⟨xk, xi, xs⟩ = q := ⟨_, rfl⟩
          have HQ := hide hq
          rw [hq]
          clear hw2 hq d1 d2 d3
          cases q with
          | false =>
            go_wp2
            go_ret
            exact ⟨by rw [chk_mayNot HK.out (by rw [HL.out]; exact hm) HE.out (any_get HX.out (show Z.mayNot _ = true by unfold Z.mayNot; rw [HQ.out]; rfl))]; rfl, HBN.out⟩
          | true =>
            go_wp2
            go_roundw
            case rel => exact ⟨k + 1, hjl, by go_num, hide (any_take HX.out (show Z.mayNot _ = false by unfold Z.mayNot; rw [HQ.out]; rfl) han.out), HBN⟩
            case measure => simp [intOf]; omega
        · obtain rfl : k = j := by omega
          have HE2 : Hid (l.any Z.mayNot = false) := by
            have := han.out
            rwa [← HL.out, List.take_length] at this
          go_wp2
          go_ret
          exact ⟨by rw [chk_yes HK.out (by rw [HL.out]; exact hm) HE.out HE2.out]; rfl, hbq.out⟩
theorem rcheck_none (ao : Option Addr) (cap : Nat) (kind : Int) (w : World) (hk : Z.kindOk kind = true) :
    Calls Try.prog 15 #[.slice ao 0 cap, .int .i64 kind] w fun e w' => e = .returned (.int .i64 (Z.chk [] kind)) ∧ Below w.heap.size w w' := by
  have HK := hide hk
  clear hk
  go_enter Try.func15, Try.ntmps15
  go_wp2_with fail
  refine (kinds_any _ _).mono ?_
  rintro e w1 ⟨rfl, rfl⟩
  rw [HK.out]
  go_wp2_with fail
  go_rounds 1
  go_wp2_with fail
  go_rounds 1
  go_ret
  exact ⟨by rw [chk_yes HK.out (by simp) rfl rfl]; rfl, Below.refl _ _⟩
theorem rcheck_any (ao : Option Addr) (len cap : Nat) (l : List Z.V) (kind : Int) (w : World) (h : SlV w ao len cap l) (hI : ∀ x ∈ l, Z.I64 x.i) :
    Calls Try.prog 15 #[.slice ao len cap, .int .i64 kind] w fun e w' => e = .returned (.int .i64 (Z.chk l kind)) ∧ Below w.heap.size w w' := by
  cases hk : Z.kindOk kind with
  | false =>
    have HK := hide hk
    clear hk
    go_enter Try.func15, Try.ntmps15
    go_wp2_with fail
    refine (kinds_any _ _).mono ?_
    rintro e w1 ⟨rfl, rfl⟩
    rw [HK.out]
    go_wp2
    go_ret
    exact ⟨by rw [chk_kind HK.out]; rfl, Below.refl _ _⟩
  | true =>
    have HK := hide hk
    by_cases hm : 4096 < len
    · have HL := hide h.1
      clear hk h
      go_enter Try.func15, Try.ntmps15
      go_wp2_with fail
      refine (kinds_any _ _).mono ?_
      rintro e w1 ⟨rfl, rfl⟩
      rw [HK.out]
      go_wp2
      go_ret
      exact ⟨by rw [chk_many HK.out (by rw [HL.out]; exact hm)]; rfl, Below.refl _ _⟩
    · rcases h.2.2.2.2 with h5 | ⟨b, off, rfl, hlt, h5⟩
      · subst h5
        obtain rfl : l = [] := List.eq_nil_of_length_eq_zero h.1
        exact rcheck_none ao cap kind w hk
      · exact rcheck_some b off len cap l kind w h.1 (by omega) hlt hk hI h5
end Go.Proofs.Ythcnfbjljkighaa
/- The contracts of slices.Clone at bytes, of val's toInt, toText. -/
namespace Go.Proofs.Ythcnfbjljkighaa
set_option linter.unusedVariables false
open Go.RowKit

set_option maxHeartbeats 400000 in
theorem clone_nil (w : World) : Calls Try.prog 39 #[.slice none 0 0] w fun e w' => e = .returned (.slice none 0 0) ∧ w' = w := by
  have hq := fun (w : World) (a : Option Addr) (n c : Nat) => Lib.run_eql_slice_nil (P := Try.prog) w 23 5 a n c 0 0 Try.underlying23
  go_enter Try.func39, Try.ntmps39
  go_wp2
  go_ret
  exact ⟨rfl, rfl⟩
set_option maxHeartbeats 400000 in
theorem clone_some (x : Addr) (len cap : Nat) (l : List Int) (w : World) (h : Sl w .u8 (some x) len cap l) (hb : len ≤ 140737488355328) :
    Calls Try.prog 39 #[.slice (some x) len cap] w fun e w' => ∃ v', e = .returned v' ∧ w'.ownsRow w.heap.size 5 1 v' len (l.map (Value.int .u8)) ∧ Below w.heap.size w w' := by
  obtain ⟨i0, hi, hz0, hz1, hz2⟩ := info_parts Try.infoU8
  have hq := fun (w : World) (a : Option Addr) (n c : Nat) => Lib.run_eql_slice_nil (P := Try.prog) w 23 5 a n c 0 0 Try.underlying23
  go_enter Try.func39, Try.ntmps39
  go_wp2_with (at_builtin; refine wpList_append_to rfl _ _ 23 rfl w.heap.size 5 i0 (.int .u8 0) 1 1 Try.underlying23 hi hz0 hz1 hz2 rfl (by decide) _ 0 [] rfl (World.ownsRow_lit w #[] 0 (Nat.le_refl _) (by decide) rfl) (some x) len cap (l.map (Value.int .u8)) rfl ?c0 ?c6 ?c1 ?c2 ?c3 ?c4 ?c5 ?_)
  case c0 => simp
  case c6 => simpa using h.1
  case c1 => exact (h.below ((Below.refl _ _).alloc (Nat.le_refl _) _)).news
  case c2 => intro u hu; obtain ⟨y, _, rfl⟩ := List.mem_map.1 hu; rfl
  case c3 => have := h.2.1; have := h.2.2.1; omega
  case c4 => omega
  case c5 => simp
  intro v' w1 hown has
  go_wp2
  go_ret
  refine ⟨v', rfl, by simpa using hown, ?_⟩
  have hk := Kept.below (((Kept.refl _ w).alloc _).trans' (F := fun k => w.heap.size ≤ k) has.1 (fun k hk => ?_)) (Nat.le_refl _) (fun k hk => hk)
  · exact hk
  · exact .inl (owns_lt (World.ownsRow_lit (base := w.heap.size) (e := 5) (size := 1) w #[] 0 (Nat.le_refl _) (by decide) rfl) hk).1
/-- slices.Clone at bytes. -/
theorem clone_any (ao : Option Addr) (len cap : Nat) (l : List Nat) (w : World) (h : Sl w .u8 ao len cap (ints l)) (hb : len ≤ 140737488355328) :
    Calls Try.prog 39 #[.slice ao len cap] w fun e w' => ∃ a c, e = .returned (.slice a len c) ∧ Sl w' .u8 a len c (ints l) ∧ Below w.heap.size w w' := by
  have hl : l.length = len := by rw [← h.1, ints_length]
  cases ao with
  | some x =>
    refine (clone_some x len cap (ints l) w h hb).mono ?_
    rintro e w' ⟨v, rfl, ho, hb1⟩
    subst hl
    rw [← B8_ints] at ho
    obtain ⟨a, c, rfl, hs, _⟩ := Sl.of_bytes ho
    exact ⟨a, c, rfl, hs, hb1⟩
  | none =>
    obtain ⟨h1, h2, h3, h4, h5⟩ := h
    obtain rfl := h4 rfl
    obtain rfl : len = 0 := by omega
    obtain rfl : l = [] := List.eq_nil_of_length_eq_zero hl
    refine (clone_nil w).mono ?_
    rintro e w' ⟨rfl, rfl⟩
    exact ⟨_, _, rfl, Sl.nil _ _, Below.refl _ _⟩

/-- A value written anew. -/
def putV (w : World) (b : Nat) (k i : Int) (s : ByteArray) : World := ((w.setCell ⟨b, 0, none⟩ (.int .i64 k)).setCell ⟨b, 1, none⟩ (.int .i64 i)).setCell ⟨b, 2, none⟩ (.string s)
theorem At.set {w : World} {b : Nat} {k i : Int} {s : ByteArray} (h : At w b k i s) (k' i' : Int) (s' : ByteArray) : At (putV w b k' i' s') b k' i' s' := by
  unfold At putV at *
  simp only [World.setCell, Array.getElem?_modify, h]; simp
theorem putV_kept (w : World) (b : Nat) (k i : Int) (s : ByteArray) : Kept (fun x => x = b) w (putV w b k i s) :=
  Kept.setCell (F := fun x => x = b) (p := ⟨b, 2, none⟩) (Kept.setCell (F := fun x => x = b) (p := ⟨b, 1, none⟩) (Kept.setCell (F := fun x => x = b) (p := ⟨b, 0, none⟩) (Kept.refl _ w) (.inl rfl) _) (.inl rfl) _) (.inl rfl) _
theorem putV_below {w w1 : World} {b : Nat} (k i : Int) (s : ByteArray) (h : Below w.heap.size w w1) (hb : w.heap.size ≤ b) : Below w.heap.size w (putV w1 b k i s) :=
  ((h.setCell (p := ⟨b, 0, none⟩) hb _).setCell (p := ⟨b, 1, none⟩) hb _).setCell (p := ⟨b, 2, none⟩) hb _
/-- Bytes do not lie in a value. -/
theorem Sl.putV {w : World} {a : Option Addr} {n c : Nat} {l : List Int} (h : Sl w .u8 a n c l) {b : Nat} {k i : Int} {s : ByteArray} (hA : At w b k i s) (k' i' : Int) (s' : ByteArray) : Sl (putV w b k' i' s') .u8 a n c l := by
  refine h.kept0 (putV_kept w b k' i' s') ?_
  by_cases h0 : n = 0
  · exact .inl h0
  · refine .inr fun x hx hB => ?_
    rcases h.2.2.2.2 with h5 | ⟨B, off, hao, hlt, h5⟩
    · exact h0 h5
    · rw [hao] at hx
      obtain rfl := Option.some.inj hx
      have h6 := h5 0 (by omega)
      have hB' : B = b := hB
      subst hB'
      unfold At at hA
      simp only [World.cell?, hA, Nat.add_zero] at h6
      match off, h6 with
      | 0, h6 => simp at h6
      | 1, h6 => simp at h6
      | 2, h6 => simp at h6
      | n + 3, h6 => simp at h6
/-- A value, and two more, told. -/
theorem results_val {fn : Func} {p u v : Tmp} (h : fn.results = #[.cell p 41, .tmp u, .tmp v]) (tmps : Array Value) (w : World) (g : Nat) {k i : Int} {s : ByteArray} (hp : tmps.getD p undef = .pointer (some ⟨g, 0, none⟩)) (hA : At w g k i s) :
    (results fn tmps).run Try.prog w = .ok (.tuple #[.agg #[.int .i64 k, .int .i64 i, .string s], tmps.getD u undef, tmps.getD v undef]) w := by
  have hp' : tmps[p]?.getD undef = .pointer (some ⟨g, 0, none⟩) := by simpa using hp
  unfold At at hA
  simp [results, h, hp', asAddr, run_loadVar_row w g 41 41 _ (0, 0) _ hA Try.underlying41 rfl (by kernel_rfl)]

/-- What Of answers. -/
def OfAns (l : List Nat) (kind : Int) (w : World) (e : Ending) (w' : World) : Prop := ∃ a c, e = .returned (.tuple #[(Z.oV l kind).v, .slice a (Z.oR l kind).length c, .int .i64 ((Z.oE l kind : Nat) : Int)]) ∧ Sl w' .u8 a (Z.oR l kind).length c (ints (Z.oR l kind)) ∧ Below w.heap.size w w'
theorem OfAns.no {l : List Nat} {kind : Int} {w w' : World} {E : Nat} (h : Z.oE l kind = E) (h0 : E ≠ 0) (hb : Below w.heap.size w w') : OfAns l kind w (.returned (.tuple #[.agg #[.int .i64 0, .int .i64 0, .string ⟨#[]⟩], .slice none 0 0, .int .i64 ((E : Nat) : Int)])) w' := by
  subst h
  have e1 : Z.oV l kind = ⟨0, 0, ⟨#[]⟩⟩ := by unfold Z.oV; rw [if_neg h0]
  have e2 : Z.oR l kind = [] := by unfold Z.oR; rw [if_neg h0]
  unfold OfAns; rw [e1, e2]
  exact ⟨none, 0, rfl, Sl.nil _ _, hb⟩
theorem OfAns.yes {l r : List Nat} {kind k i : Int} {s : ByteArray} {w w' : World} {a : Option Addr} {n c : Nat} (h : Z.oE l kind = 0) (hw : Z.oW l kind = ⟨k, i, s⟩) (hr : Z.oS l kind = r) (hn : r.length = n) (hs : Sl w' .u8 a n c (ints r)) (hb : Below w.heap.size w w') : OfAns l kind w (.returned (.tuple #[.agg #[.int .i64 k, .int .i64 i, .string s], .slice a n c, .int .i64 0])) w' := by
  have e1 : Z.oV l kind = ⟨k, i, s⟩ := by unfold Z.oV; rw [if_pos h]; exact hw
  have e2 : Z.oR l kind = r := by unfold Z.oR; rw [if_pos h]; exact hr
  subst hn
  unfold OfAns; rw [e1, e2, h]
  exact ⟨a, c, rfl, hs, hb⟩
theorem oE_int (l : List Nat) : Z.oE l 1 = E.gE l := by unfold Z.oE; rw [if_neg (by decide), if_pos rfl]
theorem oE_text (l : List Nat) : Z.oE l 3 = E.xE 1024 l := by unfold Z.oE; rw [if_neg (by decide), if_neg (by decide), if_neg (by decide), if_pos rfl]
theorem iE_one (l : List Nat) : E.iE 1 l = E.gE l := by
  rw [E.iE_pos (by omega)]
  show E.tE 1 l = _
  unfold E.tE
  split
  · rename_i h; rw [h]; rfl
  · rfl
theorem iL_one {l : List Nat} (h : E.gE l = 0) : E.iL 1 l = [E.zag (E.gN l)] := by
  unfold E.iL; rw [if_pos (by rw [iE_one, h])]; rfl
theorem iR_one {l : List Nat} (h : E.gE l = 0) : E.iR 1 l = l.drop (E.gK l) := by
  unfold E.iR; rw [if_pos (by rw [iE_one, h])]; rfl
theorem oW_int (l : List Nat) : Z.oW l 1 = ⟨1, E.zag (E.gN l), ⟨#[]⟩⟩ := by unfold Z.oW; rw [if_pos rfl]
theorem oS_int (l : List Nat) : Z.oS l 1 = l.drop (E.gK l) := by unfold Z.oS; rw [if_pos rfl]
theorem oW_text (l : List Nat) : Z.oW l 3 = ⟨3, 0, strOfNums (ints (E.xS l))⟩ := by unfold Z.oW; rw [if_neg (by decide), if_neg (by decide), if_pos rfl]
theorem oS_text (l : List Nat) : Z.oS l 3 = E.xR l := by unfold Z.oS; rw [if_neg (by decide), if_neg (by decide), if_pos rfl]
theorem vtoint_any (ao : Option Addr) (len cap : Nat) (l : List Nat) (w : World) (h : Sl w .u8 ao len cap (ints l)) (h256 : ∀ x ∈ l, x < 256) (hm : len ≤ 140737488355328) :
    Calls Try.prog 40 #[.slice ao len cap] w (OfAns l 1 w) := by
  have hA := At.new w 0 0 ⟨#[]⟩
  have b0 := hide (below_one w (.cells #[.int .i64 0, .int .i64 0, .string ⟨#[]⟩] 41))
  have HT := hide (toints_anyN ao len cap l 1 _ (h.below b0.out) h256 ⟨hm, .inr (by omega)⟩ (by omega) (by omega))
  clear h
  by_cases hg : E.gE l = 0
  · have HL := hide (iL_one hg)
    have HR := hide (iR_one hg)
    have HE := hide ((iE_one l).trans hg)
    have HO := hide ((oE_int l).trans hg)
    clear hg
    go_enter Try.func40, Try.ntmps40
    go_wp2_with fail
    refine HT.out.mono ?_
    rintro e w1 ⟨v1, v2, rfl, ⟨⟨q1, c1, rfl, hs1, _⟩, q2, c2, rfl, hs2⟩, hb⟩
    rw [HE.out, HL.out, HR.out]
    rw [HL.out] at hs1
    rw [HR.out] at hs2
    rcases hs1.2.2.2.2 with h5 | ⟨B, off, rfl, hlt, h5⟩
    · simp at h5
    have hc := h5 0 (by simp)
    simp only [List.getD_cons_zero, Nat.add_zero] at hc
    replace hA := hA.below hb
    replace b0 := hide (bthen b0.out hb)
    replace hs2 := hide hs2
    obtain ⟨x, hx⟩ : ∃ x, E.zag (E.gN l) = x := ⟨_, rfl⟩
    obtain ⟨n2, hn2⟩ : ∃ n2, (l.drop (E.gK l)).length = n2 := ⟨_, rfl⟩
    rw [hx] at hc
    rw [hn2]
    rw [hn2] at hs2
    have HX := hide hx
    have HN2 := hide hn2
    clear hb h5 hs1 hlt hx hn2 HT h256 HL HR HE
    obtain ⟨a1, a2, a3⟩ := hA.cells
    obtain ⟨f1, f2, f3⟩ := hA.thawed
    replace hA := hide hA
    go_wp2
    refine bodyPost_ret (results_val Try.results40 _ _ w.heap.size rfl (hA.out.set 1 x ⟨#[]⟩)) rfl ?_
    exact OfAns.yes HO.out (by rw [oW_int, HX.out]) (oS_int l) HN2.out (hs2.out.putV hA.out 1 x ⟨#[]⟩) (putV_below 1 x ⟨#[]⟩ b0.out (Nat.le_refl _))
  · have HE := hide (iE_one l)
    have HO := hide (oE_int l)
    obtain ⟨G, hG⟩ : ∃ G : Nat, E.gE l = G := ⟨_, rfl⟩
    rw [hG] at hg HE HO
    clear hG
    have hg2 : ((G : Nat) : Int) ≠ 0 := by omega
    obtain ⟨e, he⟩ : ∃ e : Int, ((G : Nat) : Int) = e := ⟨_, rfl⟩
    have hg3 : e ≠ 0 := by omega
    have HEE := hide he
    go_enter Try.func40, Try.ntmps40
    go_wp2_with fail
    refine HT.out.mono ?_
    rintro e' w1 ⟨v1, v2, rfl, ⟨⟨q1, c1, rfl, _, _⟩, q2, c2, rfl, _⟩, hb⟩
    rw [HE.out, HEE.out]
    replace hA := hA.below hb
    replace b0 := hide (bthen b0.out hb)
    generalize (E.iL 1 l).length = n1
    generalize (E.iR 1 l).length = n2
    clear hb HT h256 HE he hg2
    obtain ⟨a1, a2, a3⟩ := hA.cells
    obtain ⟨f1, f2, f3⟩ := hA.thawed
    replace hA := hide hA
    go_wp2
    refine bodyPost_ret (results_val Try.results40 _ _ w.heap.size rfl (hA.out.set 0 0 ⟨#[]⟩)) rfl ?_
    have := OfAns.no HO.out hg (putV_below 0 0 ⟨#[]⟩ b0.out (Nat.le_refl _))
    rw [HEE.out] at this
    exact this
end Go.Proofs.Ythcnfbjljkighaa
/- The contracts of the reference's Zig, Zag, Put. -/
namespace Go.Proofs.Ythcnfbjljkighaa
set_option linter.unusedVariables false
open Go.RowKit

theorem rzig_neg (n : Int) (h0 : -9223372036854775808 ≤ n) (h : n < 0) : 2 * -(n + 1) + 1 = ((E.zig n : Nat) : Int) := by
  unfold E.zig; rw [if_pos h]; omega
theorem rzig_pos (n : Int) (h : 0 ≤ n) : 2 * n = ((E.zig n : Nat) : Int) := by
  unfold E.zig; rw [if_neg (by omega)]; omega

set_option maxHeartbeats 400000 in
theorem rzig_any (n : Int) (w : World) (h0 : -9223372036854775808 ≤ n) (h1 : n < 9223372036854775808) :
    Calls Try.prog 36 #[.int .i64 n] w fun e w' => e = .returned (.int .u64 ((E.zig n : Nat) : Int)) ∧ w' = w := by
  by_cases hn : n < 0
  · go_enter Try.func36, Try.ntmps36
    go_wp2
    go_ret
    exact ⟨ret_int (rzig_neg n h0 hn), rfl⟩
  · go_enter Try.func36, Try.ntmps36
    go_wp2
    go_ret
    exact ⟨ret_int (rzig_pos n (by omega)), rfl⟩

set_option maxHeartbeats 400000 in
theorem rzag_any (n : Int) (w : World) (h0 : 0 ≤ n) (h1 : n < 18446744073709551616) :
    Calls Try.prog 54 #[.int .u64 n] w fun e w' => e = .returned (.int .i64 (E.zag n.toNat)) ∧ w' = w := by
  by_cases hn : n % 2 = 1
  · have hb : (n % 2 == 1) = true := by simpa using hn
    clear hn
    go_enter Try.func54, Try.ntmps54
    go_wp2
    go_ret
    exact ⟨ret_int (zag_odd n h0 (by simpa using hb)), rfl⟩
  · have hb : (n % 2 == 1) = false := by simpa using hn
    clear hn
    go_enter Try.func54, Try.ntmps54
    go_wp2
    go_ret
    exact ⟨ret_int (zag_even n h0 (by simpa using hb)), rfl⟩

set_option maxHeartbeats 400000 in
theorem rput_any (n : Int) (w : World) (hn0 : 0 ≤ n) (hn1 : n < 18446744073709551616) :
    Calls Try.prog 35 #[.int .u64 n] w fun e w' => ∃ v', e = .returned v' ∧ w'.ownsRow w.heap.size 5 1 v' (E.leb n.toNat).length (B8 (E.leb n.toNat)) ∧ Below w.heap.size w w' := by
  obtain ⟨i0, hi, hz0, hz1, hz2⟩ := info_parts Try.infoU8
  have h10 := E.leb_ten n.toNat (by omega)
  go_enter Try.func35, Try.ntmps35
  go_wp2_with fail
  go_loopw [0, 3] (fun m b wr => ∃ (pre : List Nat) (k : Int), m = .int .u64 k ∧ 0 ≤ k ∧ k < 18446744073709551616 ∧ pre ++ E.leb k.toNat = E.leb n.toNat ∧ wr.ownsRow w.heap.size 5 1 b pre.length (B8 pre) ∧ AS w (.slice none 0 0) wr b) (fun m _ _ => (intOf m).toNat)
  case atStart => exact ⟨[], n, rfl, hn0, hn1, rfl, World.ownsRow_nil _ _ _ _, AS.refl _ _⟩
  case round =>
    obtain ⟨pre, k, rfl, hk0, hk1, hpre, hown, has⟩ := hrel
    have hlen : pre.length + (E.leb k.toNat).length = (E.leb n.toNat).length := by
      have := congrArg List.length hpre
      simpa using this
    have hlp := E.leb_pos k.toNat
    have hsz := has.1.size
    have HP := hide hpre
    have hpl : pre.length + 1 ≤ 140737488355328 := by omega
    by_cases hk : 127 < k
    · have HB := hide (E.leb_big k.toNat (by omega))
      clear hpre hlen h10 hlp
      go_wp2_with (at_builtin; refine wpList_append_to rfl _ _ 23 rfl w.heap.size 5 i0 (.int .u8 0) 1 1 Try.underlying23 hi hz0 hz1 hz2 rfl (by decide) _ _ _ rfl (hown.alloc _) (some ⟨wr.heap.size, 0, none⟩) 1 1 [.int .u8 (128 + k % 128)] rfl (by simp) rfl (Sl.news1 _ _) (one_oneCell _ _) (by unfold maxLen; omega) (by omega) (by simp; omega) ?_)
      intro v' w1 ho1 has1
      go_wp2
      go_roundw
      case rel =>
        refine ⟨pre ++ [k.toNat % 128 + 128], k / 128, rfl, by omega, by omega, ?_, ?_, has.trans (AS.pre ((Kept.refl _ wr).alloc _) has1)⟩
        · rw [← HP.out, HB.out, List.append_assoc, show (k / 128).toNat = k.toNat / 128 by omega]; rfl
        · rw [show (128 + k % 128 : Int) = ((k.toNat % 128 + 128 : Nat) : Int) by omega] at ho1
          rw [B8_append, List.length_append]; exact ho1
      case measure => simp [intOf]; omega
    · have HB := hide (E.leb_small k.toNat (by omega))
      clear hpre hlen h10 hlp
      go_wp2_with (at_builtin; refine wpList_append_to rfl _ _ 23 rfl w.heap.size 5 i0 (.int .u8 0) 1 1 Try.underlying23 hi hz0 hz1 hz2 rfl (by decide) _ _ _ rfl (hown.alloc _) (some ⟨wr.heap.size, 0, none⟩) 1 1 [.int .u8 k] rfl (by simp) rfl (Sl.news1 _ _) (one_oneCell _ _) (by unfold maxLen; omega) (by omega) (by simp; omega) ?_)
      intro v' w1 ho1 has1
      go_wp2
      go_ret
      refine ⟨v', rfl, ?_, (has.trans (AS.pre ((Kept.refl _ wr).alloc _) has1)).below (Nat.le_refl _) (by simp [Value.ownBlock])⟩
      rw [← HP.out, HB.out, B8_append, List.length_append, show B8 [k.toNat] = [Value.int .u8 k] by simp [B8]; omega]
      exact ho1
end Go.Proofs.Ythcnfbjljkighaa

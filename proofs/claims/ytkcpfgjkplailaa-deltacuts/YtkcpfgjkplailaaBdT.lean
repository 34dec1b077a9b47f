/- The contract of the document's answer for bits: Unpack, where the bytes are as many as needed. -/
import Derived.Test.YtkcpfgjkplailaaBdS
import Derived.Test.YtkcpfgjkplailaaBdA
import Derived.ProofKit
import Derived.OpenShut
import Derived.ShutString
import Derived.ChangeOld
import Derived.Below
import Derived.SizedLaws
import Derived.Test.YtkcpfgjkplailaaBdB
import Derived.Test.YtkcpfgjkplailaaBdR
namespace Go.Proofs.Ytkcpfgjkplailaa
set_option linter.unusedVariables false
set_option maxRecDepth 10000
open Go.RowKit

theorem getV_drop (l : List Nat) (pos k : Nat) : A.valOf (((A.bitsB l).drop pos).take k) = getV l pos k := rfl

/-- What stands from a place on. -/
theorem Sb.cut_end {w : World} {ao : Option Addr} {n M : Nat} {bs : List Bool} (h : Sb w ao n M bs) : Sb w ao (n - M) 0 (bs.drop M) := by
  obtain ⟨h1, h2, h3, h4, h5⟩ := h
  exact ⟨by rw [List.length_drop]; omega, by omega, by simp [maxLen], fun _ => rfl, .inl (by omega)⟩
theorem Sb.cut_in {w : World} {ao : Option Addr} {n cap M : Nat} {bs : List Bool} (h : Sb w ao n cap bs) (hM : M ≤ n) : Sb w (Option.map (fun x => x.add M) ao) (n - M) (cap - M) (bs.drop M) := by
  obtain ⟨h1, h2, h3, h4, h5⟩ := h
  refine ⟨by rw [List.length_drop]; omega, by omega, by omega, by intro h; cases ao with | none => have := h4 rfl; omega | some x => simp at h, ?_⟩
  by_cases h0 : n - M = 0
  · exact .inl h0
  · rcases h5 with h5 | ⟨b, off, rfl, hlt, h5⟩
    · omega
    · refine .inr ⟨b, off + M, by simp [Addr.add], hlt, fun i hi => ?_⟩
      rw [Nat.add_assoc, h5 (M + i) (by omega)]
      simp [List.getD]

set_option maxHeartbeats 1000000 in
theorem runpack_rest (ao : Option Addr) (len cap : Nat) (l : List Nat) (n k : Nat) (w : World) (h : Sl w .u8 ao len cap (ints l)) (h256 : ∀ x ∈ l, x < 256) (hm0 : len ≤ 140737488355328) (hn : n ≤ 1048576) (hk : k ≤ 64) (hlen : len = (n * k + 7) / 8) :
    Calls Try.prog 37 #[.slice ao len cap, .int .i64 n, .int .i64 k] w fun e w' =>
      (jb l (n * k) = 0 ∧ ∃ v', e = .returned (.tuple #[v', .int .i64 0]) ∧ w'.ownsRow w.heap.size 48 1 v' n ((nums l n k).map (Value.int .u64)) ∧ Below w.heap.size w w') ∨
      (jb l (n * k) = 4 ∧ e = .returned (.tuple #[.slice none 0 0, .int .i64 4]) ∧ Below w.heap.size w w') := by
  obtain ⟨i0, hi0, hz0, hz1, hz2⟩ := info_parts Try.infoU64
  have hnk : n * k ≤ 1048576 * 64 := Nat.mul_le_mul hn hk
  have hm : len ≤ 1099511627776 := by omega
  have hll : l.length = len := by rw [← h.1, ints_length]
  have HJ : Hid (∀ j, j < n → j * k + k ≤ n * k) := by
    intro j hj
    have : (j + 1) * k ≤ n * k := Nat.mul_le_mul_right k hj
    rw [Nat.add_mul] at this
    omega
  have hd : decide ((n : Int) < 0) = false := by simp
  have hd2 : decide ((1048576 : Int) < (n : Int)) = false := by simp; omega
  have hd3 : decide ((k : Int) < 0) = false := by simp
  have hi : (n : Int) * (k : Int) = ((n * k : Nat) : Int) := (Int.natCast_mul n k).symm
  obtain ⟨N, hN⟩ : ∃ N, n * k = N := ⟨_, rfl⟩
  rw [hN] at hnk HJ hlen hi ⊢
  have H := hide h
  have H2 := hide h256
  have HLL := hide hll
  have HN := hide hN
  have HT0 : Hid (∀ j, j < n → j * k + k ≤ 8 * len) := fun j hj => by have := HJ.out j hj; omega
  have hge : N ≤ 8 * len := by omega
  have hle : 8 * len < N + 8 := by omega
  have HLEN := hide hlen
  clear h h256 hll hN hlen
  go_enter Try.func37, Try.ntmps37
  go_wp2_with fail
  refine (brbits_any _ _ _ l _ H.out hm H2.out).mono ?_
  rintro e w1 ⟨vR, rfl, hoR, hb1⟩
  have hbl : (A.bitsB l).length = 8 * len := by rw [A.bitsB_length, HLL.out]
  obtain ⟨aoR, capR, hvR, hsbR, _⟩ := Sb.of_owns hoR
  rw [hbl] at hvR hsbR hoR
  have HBL := hide hbl
  have hcm := hsbR.2.2.1
  have hcl := hsbR.2.1
  clear hsbR hbl
  subst hvR
  go_wp2_with fail
  go_loopw [9, 10] (fun v9 v10 wr => ∃ j : Nat, j ≤ n ∧ v10 = .int .i64 j ∧ wr.ownsRow w.heap.size 48 1 v9 j ((nums l j k).map (Value.int .u64)) ∧ wr.ownsRow w.heap.size 4 1 (.slice aoR (8 * len) capR) (8 * len) (Vb (A.bitsB l)) ∧ Below w.heap.size w wr) (fun _ v10 _ => n - (intOf v10).toNat)
  case atStart => exact ⟨0, Nat.zero_le _, rfl, World.ownsRow_nil _ _ _ _, hoR, hb1⟩
  case round =>
    obtain ⟨j, hj, rfl, hown, hoR2, hbr⟩ := hrel
    have hsz := hbr.size
    by_cases hlt : j < n
    · have hM := HT0.out j hlt
      have hij : (j : Int) * (k : Int) = ((j * k : Nat) : Int) := (Int.natCast_mul j k).symm
      obtain ⟨M, hMe⟩ : ∃ M, j * k = M := ⟨_, rfl⟩
      rw [hMe] at hM hij
      have HM := hide hMe
      have HSB := hide (Sb.of_slice HBL.out hoR2)
      have HO := hide hown
      have HOR := hide hoR2
      have HB := hide hbr
      clear hMe hown hoR2 hbr hoR hb1
      have hkM : k ≤ 8 * len - M := by omega
      have HNS := hide (nums_succ l j k)
      by_cases hcM : capR = M
      case pos =>
        subst hcM
        have hz : 8 * len - capR = 0 := by omega
        have HC := hide (Sb.cut_end HSB.out)
        rw [hz] at HC hkM
        clear hz
        go_wp2_with fail
        refine (brget_any _ _ _ _ k _ HC.out HC.out.2.2.1 hk hkM).mono ?_
        rintro e w2 ⟨aoG, capG, rfl, _, _, _, hkp⟩
        have ho2 := owns_of_block HO.out (fun g hg => hkp.block g (owns_lt HO.out hg).2 (by simp))
        have hoR3 := owns_of_block HOR.out (fun g hg => hkp.block g (owns_lt HOR.out hg).2 (by simp))
        have hb2 : Below w.heap.size w w2 := HB.out.trans (hkp.below hsz (by simp))
        have hs2 := hb2.size
        rw [getV_drop]
        have HOR3 := hide hoR3
        clear hkp hoR3
        go_wp2_with (at_builtin; refine wpList_append_to rfl (.tmp 62) (.tmp 64) 36 rfl w.heap.size 48 i0 (.int .u64 0) 1 8 Try.underlying36 hi0 hz0 hz1 hz2 rfl (by decide) _ _ _ rfl (ho2.alloc _) (some ⟨w2.heap.size, 0, none⟩) 1 1 [.int .u64 ((getV l capR k : Nat) : Int)] rfl (by simp) rfl (Sl.news1 _ _) (one_oneCell _ _) (by unfold maxLen; omega) (by omega) (by simp; omega) ?_)
        intro v' w3 hown3 has3
        have hk3 := ((Kept.refl (fun g => u9.ownBlock = some g) w2).alloc _).trans has3.1
        have ho3 := owns_of_block HOR3.out (fun g hg => hk3.block g (owns_lt HOR3.out hg).2 (owns_ne HOR3.out ho2 (by decide) hg))
        have hb3 : Below w.heap.size w w3 := hb2.trans (hk3.below hs2 (fun g hg => (owns_lt ho2 hg).1))
        clear has3 hk3
        go_wp2
        go_roundw
        case rel => exact ⟨j + 1, by omega, by go_num, by rw [HNS.out, HM.out, List.map_append]; exact hown3, ho3, hb3⟩
        case measure => simp [intOf]; omega
      case neg =>
        have HC := hide (HSB.out.cut_in (M := M) (by omega))
        go_wp2_with fail
        refine (brget_any _ _ _ _ k _ HC.out HC.out.2.2.1 hk hkM).mono ?_
        rintro e w2 ⟨aoG, capG, rfl, _, _, _, hkp⟩
        have ho2 := owns_of_block HO.out (fun g hg => hkp.block g (owns_lt HO.out hg).2 (by simp))
        have hoR3 := owns_of_block HOR.out (fun g hg => hkp.block g (owns_lt HOR.out hg).2 (by simp))
        have hb2 : Below w.heap.size w w2 := HB.out.trans (hkp.below hsz (by simp))
        have hs2 := hb2.size
        rw [getV_drop]
        have HOR3 := hide hoR3
        clear hkp hoR3
        go_wp2_with (at_builtin; refine wpList_append_to rfl (.tmp 62) (.tmp 64) 36 rfl w.heap.size 48 i0 (.int .u64 0) 1 8 Try.underlying36 hi0 hz0 hz1 hz2 rfl (by decide) _ _ _ rfl (ho2.alloc _) (some ⟨w2.heap.size, 0, none⟩) 1 1 [.int .u64 ((getV l M k : Nat) : Int)] rfl (by simp) rfl (Sl.news1 _ _) (one_oneCell _ _) (by unfold maxLen; omega) (by omega) (by simp; omega) ?_)
        intro v' w3 hown3 has3
        have hk3 := ((Kept.refl (fun g => u9.ownBlock = some g) w2).alloc _).trans has3.1
        have ho3 := owns_of_block HOR3.out (fun g hg => hk3.block g (owns_lt HOR3.out hg).2 (owns_ne HOR3.out ho2 (by decide) hg))
        have hb3 : Below w.heap.size w w3 := hb2.trans (hk3.below hs2 (fun g hg => (owns_lt ho2 hg).1))
        clear has3 hk3
        go_wp2
        go_roundw
        case rel => exact ⟨j + 1, by omega, by go_num, by rw [HNS.out, HM.out, List.map_append]; exact hown3, ho3, hb3⟩
        case measure => simp [intOf]; omega
    · have hjn : j = n := by omega
      subst hjn
      have HSB := hide (Sb.of_slice HBL.out hoR2)
      have HO := hide hown
      have HB := hide hbr
      clear hown hoR2 hbr hoR hb1
      have hsz := HB.out.size
      go_wp2_with fail
      go_loop [14] (fun v14 => ∃ i : Nat, N ≤ i ∧ i ≤ 8 * len ∧ v14 = .int .i64 i ∧ Hid (∀ t, N ≤ t → t < i → (A.bitsB l).getD t false = false)) (fun v14 => 8 * len - (intOf v14).toNat)
      case atStart => exact ⟨N, Nat.le_refl _, hge, rfl, fun t h1 h2 => by omega⟩
      case round =>
        obtain ⟨i, hi1, hi2, rfl, hall⟩ := hrel
        by_cases hlt2 : i < 8 * len
        · obtain ⟨b, off, hao, hblt, hc⟩ : ∃ b off, aoR = some ⟨b, off, none⟩ ∧ b < wr.heap.size ∧ ∀ t, t < 8 * len → wr.cell? ⟨b, off + t, none⟩ = some (.bool ((A.bitsB l).getD t false)) := by
            rcases HSB.out.2.2.2.2 with h | h
            · omega
            · exact h
          have hck := hc i hlt2
          obtain ⟨t, hte⟩ : ∃ t, (A.bitsB l).getD i false = t := ⟨_, rfl⟩
          rw [hte] at hck
          have HTE := hide hte
          clear hc hte
          subst hao
          cases t with
          | false =>
            go_wp2
            go_round
            case rel =>
              refine ⟨i + 1, by omega, by omega, by go_num, fun t h1 h2 => ?_⟩
              by_cases hti : t = i
              · subst hti; exact HTE.out
              · exact hall t h1 (by omega)
            case measure => simp [intOf]; omega
          | true =>
            go_wp2
            go_ret2
            refine .inr ⟨?_, rfl, HB.out⟩
            have hL : l.length = (N + 7) / 8 := by rw [HLL.out, ← HLEN.out]
            refine jb_four l N hL fun hj0 => ?_
            have := tail_false l N hL hj0 i hi1 (by rw [HLL.out]; exact hlt2)
            rw [HTE.out] at this
            exact absurd this (by simp)
        · have hie : i = 8 * len := by omega
          subst hie
          go_wp2
          go_ret2
          refine .inl ⟨?_, _, rfl, HO.out, HB.out⟩
          have hL : l.length = (N + 7) / 8 := by rw [HLL.out, ← HLEN.out]
          exact tail_zero l N hL H2.out fun t h1 h2 => hall t h1 (by rw [← HLL.out]; exact h2)

/-- The document's Unpack. -/
theorem runpack_any (ao : Option Addr) (len cap : Nat) (l : List Nat) (n k : Nat) (w : World) (h : Sl w .u8 ao len cap (ints l)) (h256 : ∀ x ∈ l, x < 256) (hm : len ≤ 140737488355328) (hn : n ≤ 1048576) (hk : k ≤ 64) :
    Calls Try.prog 37 #[.slice ao len cap, .int .i64 n, .int .i64 k] w fun e w' =>
      (jb l (n * k) = 0 ∧ ∃ v', e = .returned (.tuple #[v', .int .i64 0]) ∧ w'.ownsRow w.heap.size 48 1 v' n ((nums l n k).map (Value.int .u64)) ∧ Below w.heap.size w w') ∨
      (jb l (n * k) ≠ 0 ∧ e = .returned (.tuple #[.slice none 0 0, .int .i64 ((jb l (n * k) : Nat) : Int)]) ∧ Below w.heap.size w w') := by
  have hll : l.length = len := by rw [← h.1, ints_length]
  by_cases hlen : len = (n * k + 7) / 8
  · refine (runpack_rest ao len cap l n k w h h256 hm hn hk hlen).mono ?_
    rintro e w' (h1 | ⟨h1, h2, h3⟩)
    · exact .inl h1
    · refine .inr ⟨by rw [h1]; omega, ?_, h3⟩
      rw [h1]; exact h2
  · refine (runpack_len ao len cap l n k w hll hm hn hk hlen).mono ?_
    rintro e w' ⟨rfl, rfl⟩
    refine .inr ⟨fun h0 => hlen ?_, rfl, Below.refl _ _⟩
    rw [← hll]; exact (jb_zero h0).1
end Go.Proofs.Ytkcpfgjkplailaa
/- What a row's step hands to the walks: slices of numbers that came in. -/
namespace Go.Proofs.Ytkcpfgjkplailaa
set_option linter.unusedVariables false
open Go.ChangeShapes Go.WideShapes Go.ChangeAt Go.RowKit

theorem own : ownKnob Try.prog.godebug = none := by kernel_rfl
theorem laidOut : laidOutB Try.prog = true := by kernel_rfl

/-- A slice of numbers that came in: its elements, each of its kind; how many bytes it takes. -/
def Came (k : IntKind) (w : World) (a : Option Addr) (len cap : Nat) (l : List Int) : Prop := Sl w k a len cap l ∧ ∀ n ∈ l, (Lit.int k n).wf = true

theorem wf_u8 {n : Int} (h : (Lit.int .u8 n).wf = true) : 0 ≤ n ∧ n < 256 := by
  have := bounds_u8 h; omega
theorem wf_u64 {n : Int} (h : (Lit.int .u64 n).wf = true) : 0 ≤ n ∧ n < 18446744073709551616 := by
  have := bounds_u64 h; omega
theorem wf_i64 {n : Int} (h : (Lit.int .i64 n).wf = true) : -9223372036854775808 ≤ n ∧ n < 9223372036854775808 := by
  have := bounds_i64 h; omega
theorem wf_u16 {n : Int} (h : (Lit.int .u16 n).wf = true) : 0 ≤ n ∧ n < 65536 := by
  have := bounds_u16 h; omega

theorem came_of_cells {k : IntKind} {w : World} {x : Addr} {len cap : Nat} {zs : List Int} (hl : len ≤ cap) (hm : cap ≤ maxLen) (hz : zs.length = cap) (hc : ∀ i, i < zs.length → w.cell? (x.add i) = some (.int k (zs.getD i 0))) (hw : ∀ n ∈ zs, (Lit.int k n).wf = true) :
    Came k w (some x) len cap (zs.take len) := by
  refine ⟨⟨by simp; omega, hl, hm, by simp, ?_⟩, fun n hn => hw n (List.mem_of_mem_take hn)⟩
  by_cases h0 : len = 0
  · exact .inl h0
  · obtain ⟨b, off, spot⟩ := x
    have h1 := hc 0 (by omega)
    have hspot : spot = none := by simpa [Addr.add] using World.cell?_spot h1
    subst hspot
    refine .inr ⟨b, off, rfl, ?_, fun i hi => ?_⟩
    · have := cell_lt h1
      simpa [Addr.add] using this
    · have h2 := hc i (by omega)
      rw [Addr.add_lit] at h2
      rw [h2]
      simp [List.getD, hi]

/-- What the reading of such a slice weighs. -/
def Heavy {H : Type} (d : DataW H) (cap : Nat) : Prop := cap = 0 ∨ ∃ elems spare, d = .slice elems spare ∧ elems.length + spare.length = cap

/-- A slice of numbers that came in, opened. -/
theorem open_came {H : Type} {enc : TypeId × Value → H} {W : World} {t e : TypeId} {k : IntKind} {a : Option Addr} {len cap : Nat} {d : DataW H} {p : List MemPlace}
    (ht : Try.prog.underlying t = some (.slice e)) (he : Try.prog.underlying e = some (.int k)) (hc : Try.prog.cellsOf e = 1)
    (h : DataW.Trod enc Try.prog W 0 (fun _ => true) true t (.slice a len cap) d p) : (∃ l, Came k W a len cap l) ∧ Heavy d cap := by
  obtain ⟨fuel, hf⟩ := h
  rcases open_ints ht he hc hf with ⟨hcs, _⟩ | ⟨x, l, c, zs, hcs, _, hl, hm, hz, hd, hcell, hwz⟩
  · simp [Value.cells] at hcs
    obtain ⟨rfl, rfl, rfl⟩ := hcs
    exact ⟨⟨[], ⟨rfl, Nat.le_refl _, by decide, fun _ => rfl, .inl rfl⟩, by simp⟩, .inl rfl⟩
  · simp [Value.cells] at hcs
    obtain ⟨rfl, rfl, rfl⟩ := hcs
    have hz' : zs.length = cap := by simpa using hz
    refine ⟨⟨zs.take len, came_of_cells hl hm hz' hcell hwz⟩, .inr ⟨_, _, (Prod.mk.inj hd).1, ?_⟩⟩
    simp [lits]; omega

theorem reach_came {H : Type} {ts : List TypeId} {ds : List (DataW H)} {j : Nat} {t e : TypeId} {d : DataW H} {cap : Nat} (hsz : (DataW.weightsEach Try.prog ts ds).all (· ≤ reachBytes) = true)
    (ht : ts[j]? = some t) (hdj : ds[j]? = some d) (hu : Try.prog.underlying t = some (.slice e)) (hd : Heavy d cap) : cap * Try.prog.bytesOf e ≤ 140737488351232 := by
  rcases hd with rfl | ⟨el, sp, rfl, rfl⟩
  · simp
  · have := sized_slice hsz ht hdj hu
    simpa [reachBytes] using this
/-- Bytes that came in. -/
theorem came_bytes {w : World} {a : Option Addr} {len cap : Nat} {z : List Int} (h : Came .u8 w a len cap z) : ∃ l : List Nat, z = ints l ∧ (∀ x ∈ l, x < 256) := by
  refine ⟨z.map Int.toNat, ?_, ?_⟩
  · simp only [ints, List.map_map]
    conv => lhs; rw [← List.map_id z]
    apply List.map_congr_left
    intro x hx
    have := wf_u8 (h.2 x hx)
    simp; omega
  · intro x hx
    obtain ⟨y, hy, rfl⟩ := List.mem_map.1 hx
    have := wf_u8 (h.2 y hy)
    omega

end Go.Proofs.Ytkcpfgjkplailaa
/- Plain facts: what was packed is unpacked, what is unpacked is packed as the very bytes; the walks of the two statements that say so. -/
namespace Go.Proofs.Ytkcpfgjkplailaa
set_option linter.unusedVariables false
set_option maxRecDepth 10000
open Go.RowKit

end Go.Proofs.Ytkcpfgjkplailaa
/- The walk of the statement: what was packed is unpacked. -/
namespace Go.Proofs.Ytkcpfgjkplailaa
set_option linter.unusedVariables false
set_option maxRecDepth 10000
open Go.RowKit

/-- Pack, with a width that may be, as a whole number. -/
theorem pack_i (ao : Option Addr) (len cap : Nat) (l : List Int) (k : Int) (w : World) (h : Sl w .u64 ao len cap l) (hm : len * 64 + 64 < 1099511627776) (hin : In64 l) (hk0 : 0 ≤ k) (hk : k ≤ 64) :
    Calls Try.prog 22 #[.slice ao len cap, .int .i64 k] w fun e w' =>
      (Fit l k.toNat ∧ ∃ v', e = .returned (.tuple #[v', .int .i64 0]) ∧ w'.ownsRow w.heap.size 5 1 v' (A.bytesOf (bitsAll l k.toNat)).length (B8 (A.bytesOf (bitsAll l k.toNat))) ∧ Below w.heap.size w w') ∨
      (¬ Fit l k.toNat ∧ e = .returned (.tuple #[.slice none 0 0, .int .i64 1]) ∧ Below w.heap.size w w') := by
  obtain ⟨j, rfl⟩ := Int.eq_ofNat_of_zero_le hk0
  rw [Int.toNat_natCast]
  exact pack_any ao len cap l j w h hm hin (by omega)

/-- Unpack of what was packed. -/
theorem unpack_pack (ao : Option Addr) (len cap : Nat) (l : List Int) (n k : Int) (w : World) (h : Sl w .u8 ao len cap (ints (A.bytesOf (bitsAll l k.toNat)))) (hl : n = (l.length : Int)) (hm : l.length ≤ 1048576) (hin : In64 l) (hk0 : 0 ≤ k) (hk : k ≤ 64) (hf : Fit l k.toNat) :
    Calls Try.prog 59 #[.slice ao len cap, .int .i64 n, .int .i64 k] w fun e w' => ∃ v', e = .returned (.tuple #[v', .int .i64 0]) ∧ w'.ownsRow w.heap.size 48 1 v' l.length (l.map (Value.int .u64)) ∧ Below w.heap.size w w' := by
  subst hl
  obtain ⟨j, rfl⟩ := Int.eq_ofNat_of_zero_le hk0
  rw [Int.toNat_natCast] at h hf
  have hbl := bitsAll_length l j
  have hj : jb (A.bytesOf (bitsAll l j)) (l.length * j) = 0 := by rw [← hbl]; exact jb_bytes _
  have hlen : len = (A.bytesOf (bitsAll l j)).length := by rw [← h.1, ints_length]
  rw [A.bytesOf_length, hbl] at hlen
  have hmul : l.length * j ≤ 1048576 * 64 := Nat.mul_le_mul hm (by omega)
  have := unpack_yes ao len cap (A.bytesOf (bitsAll l j)) l.length j w h (A.bytesOf_lt _) (by omega) hm (by omega) hj
  rw [nums_pack l j hin hf] at this
  exact this

/-- Pack, with a bit less than the numbers need. -/
theorem pack_less (ao : Option Addr) (len cap : Nat) (l : List Int) (w : World) (h : Sl w .u64 ao len cap l) (hm : len * 64 + 64 < 1099511627776) (hin : In64 l) :
    Calls Try.prog 22 #[.slice ao len cap, .int .i64 ((wid l : Int) - 1)] w fun e w' => e = .returned (.tuple #[.slice none 0 0, .int .i64 1]) ∧ Below w.heap.size w w' := by
  have hw := wid_le l hin
  by_cases h0 : wid l = 0
  · refine (pack_arg ao len cap _ w (.inl (by omega))).mono ?_
    rintro e w' ⟨rfl, rfl⟩
    exact ⟨rfl, Below.refl _ _⟩
  · refine (pack_i ao len cap l _ w h hm hin (by omega) (by omega)).mono ?_
    rintro e w' (⟨hf, _⟩ | ⟨_, rfl, hb⟩)
    · have := (fit_wid l _ hin).1 hf
      omega
    · exact ⟨rfl, hb⟩

end Go.Proofs.Ytkcpfgjkplailaa
/- The walk of the statement: what is unpacked is packed as the very bytes. -/
namespace Go.Proofs.Ytkcpfgjkplailaa
set_option linter.unusedVariables false
set_option maxRecDepth 10000
open Go.RowKit

/-- Unpack, where the bytes aren't just so many bits. -/
theorem unpack_bad (ao : Option Addr) (len cap : Nat) (l : List Nat) (n k : Int) (w : World) (h : Sl w .u8 ao len cap (ints l)) (hm : len ≤ 140737488355328) (hn0 : 0 ≤ n) (hn : n ≤ 1048576) (hk0 : 0 ≤ k) (hk : k ≤ 64) (c : Int) (hj : ((jb l (n.toNat * k.toNat) : Nat) : Int) = c) (hc : c ≠ 0) :
    Calls Try.prog 59 #[.slice ao len cap, .int .i64 n, .int .i64 k] w fun e w' => e = .returned (.tuple #[.slice none 0 0, .int .i64 c]) ∧ w' = w := by
  obtain ⟨i, rfl⟩ := Int.eq_ofNat_of_zero_le hn0
  obtain ⟨j, rfl⟩ := Int.eq_ofNat_of_zero_le hk0
  rw [Int.toNat_natCast, Int.toNat_natCast] at hj
  rw [← hj]
  exact unpack_no ao len cap l i j w h hm (by omega) (by omega) (by omega)

/-- Unpack, where they are. -/
theorem unpack_good (ao : Option Addr) (len cap : Nat) (l : List Nat) (n k : Int) (w : World) (h : Sl w .u8 ao len cap (ints l)) (h256 : ∀ x ∈ l, x < 256) (hm : len ≤ 140737488355328) (hn0 : 0 ≤ n) (hn : n ≤ 1048576) (hk0 : 0 ≤ k) (hk : k ≤ 64) (hj : jb l (n.toNat * k.toNat) = 0) :
    Calls Try.prog 59 #[.slice ao len cap, .int .i64 n, .int .i64 k] w fun e w' => ∃ v', e = .returned (.tuple #[v', .int .i64 0]) ∧ w'.ownsRow w.heap.size 48 1 v' n.toNat ((nums l n.toNat k.toNat).map (Value.int .u64)) ∧ Below w.heap.size w w' := by
  obtain ⟨i, rfl⟩ := Int.eq_ofNat_of_zero_le hn0
  obtain ⟨j, rfl⟩ := Int.eq_ofNat_of_zero_le hk0
  rw [Int.toNat_natCast, Int.toNat_natCast] at hj
  rw [Int.toNat_natCast, Int.toNat_natCast]
  exact unpack_yes ao len cap l i j w h h256 hm (by omega) (by omega) hj

end Go.Proofs.Ytkcpfgjkplailaa
/- Pack and Unpack, the program's and the document's, each under one name; the walk of the statement that they are the same. -/
namespace Go.Proofs.Ytkcpfgjkplailaa
set_option linter.unusedVariables false
set_option maxRecDepth 10000
open Go.RowKit

theorem pack_u (ao : Option Addr) (len cap : Nat) (l : List Int) (k : Int) (w : World) (h : Sl w .u64 ao len cap l) (hm : len * 64 + 64 < 1099511627776) (hin : In64 l) :
    Calls Try.prog 22 #[.slice ao len cap, .int .i64 k] w fun e w' => ∃ v, e = .returned (.tuple #[v, .int .i64 (packC l k)]) ∧ w'.ownsRow w.heap.size 5 1 v (packB l k).length (B8 (packB l k)) ∧ Below w.heap.size w w' := by
  by_cases hk : 0 ≤ k ∧ k ≤ 64
  · refine (pack_i ao len cap l k w h hm hin hk.1 hk.2).mono ?_
    rintro e w' (⟨hf, v, rfl, ho, hb⟩ | ⟨hf, rfl, hb⟩)
    · rw [packC, packB, packOk_yes hk.1 hk.2 hf, if_pos rfl, if_pos rfl]
      exact ⟨v, rfl, ho, hb⟩
    · rw [packC, packB, packOk_no (.inr (.inr hf)), if_neg (by simp), if_neg (by simp)]
      exact ⟨_, rfl, World.ownsRow_nil _ _ _ _, hb⟩
  · refine (pack_arg ao len cap k w (by omega)).mono ?_
    rintro e w' ⟨rfl, rfl⟩
    rw [packC, packB, packOk_no (by omega), if_neg (by simp), if_neg (by simp)]
    exact ⟨_, rfl, World.ownsRow_nil _ _ _ _, Below.refl _ _⟩

theorem rpack_u (ao : Option Addr) (len cap : Nat) (l : List Int) (k : Int) (w : World) (h : Sl w .u64 ao len cap l) (hm : len * 64 + 64 < 1099511627776) (hin : In64 l) :
    Calls Try.prog 30 #[.slice ao len cap, .int .i64 k] w fun e w' => ∃ v, e = .returned (.tuple #[v, .int .i64 (packC l k)]) ∧ w'.ownsRow w.heap.size 5 1 v (packB l k).length (B8 (packB l k)) ∧ Below w.heap.size w w' := by
  by_cases hk : 0 ≤ k ∧ k ≤ 64
  · obtain ⟨j, hj⟩ := Int.eq_ofNat_of_zero_le hk.1
    have hj' : k.toNat = j := by omega
    have hp := rpack_any ao len cap l j w h hm hin (by omega)
    rw [← hj] at hp
    refine hp.mono ?_
    rintro e w' (⟨hf, v, rfl, ho, hb⟩ | ⟨hf, rfl, hb⟩)
    · rw [packC, packB, packOk_yes hk.1 hk.2 (by rw [hj']; exact hf), if_pos rfl, if_pos rfl, hj']
      exact ⟨v, rfl, ho, hb⟩
    · rw [packC, packB, packOk_no (.inr (.inr (by rw [hj']; exact hf))), if_neg (by simp), if_neg (by simp)]
      exact ⟨_, rfl, World.ownsRow_nil _ _ _ _, hb⟩
  · refine (rpack_arg ao len cap k w (by omega)).mono ?_
    rintro e w' ⟨rfl, rfl⟩
    rw [packC, packB, packOk_no (by omega), if_neg (by simp), if_neg (by simp)]
    exact ⟨_, rfl, World.ownsRow_nil _ _ _ _, Below.refl _ _⟩

theorem unpack_u (ao : Option Addr) (len cap : Nat) (l : List Nat) (n k : Int) (w : World) (h : Sl w .u8 ao len cap (ints l)) (h256 : ∀ x ∈ l, x < 256) (hm : len ≤ 140737488355328) :
    Calls Try.prog 59 #[.slice ao len cap, .int .i64 n, .int .i64 k] w fun e w' => ∃ v, e = .returned (.tuple #[v, .int .i64 (unpC l n k)]) ∧ w'.ownsRow w.heap.size 48 1 v (unpL l n k).length ((unpL l n k).map (Value.int .u64)) ∧ Below w.heap.size w w' := by
  by_cases ha : unpArg n k = true
  · obtain ⟨h0, h1, h2, h3⟩ := (unpArg_iff n k).1 ha
    by_cases hj : jb l (n.toNat * k.toNat) = 0
    · refine (unpack_good ao len cap l n k w h h256 (by omega) h2 h3 h0 h1 hj).mono ?_
      rintro e w' ⟨v, rfl, ho, hb⟩
      rw [unpC, unpL, ha, hj, if_pos rfl, if_pos (by simp), nums_length]
      exact ⟨v, rfl, ho, hb⟩
    · refine (unpack_bad ao len cap l n k w h (by omega) h2 h3 h0 h1 _ rfl (by omega)).mono ?_
      rintro e w' ⟨rfl, rfl⟩
      rw [unpC, unpL, ha, if_pos rfl, if_neg (by simp [hj])]
      exact ⟨_, rfl, World.ownsRow_nil _ _ _ _, Below.refl _ _⟩
  · have hn : ¬ (0 ≤ k ∧ k ≤ 64 ∧ 0 ≤ n ∧ n ≤ 1048576) := fun h => ha ((unpArg_iff n k).2 h)
    refine (unpack_arg ao len cap n k w (by omega)).mono ?_
    rintro e w' ⟨rfl, rfl⟩
    rw [unpC, unpL, if_neg ha, if_neg (by simp [ha])]
    exact ⟨_, rfl, World.ownsRow_nil _ _ _ _, Below.refl _ _⟩

theorem runpack_u (ao : Option Addr) (len cap : Nat) (l : List Nat) (n k : Int) (w : World) (h : Sl w .u8 ao len cap (ints l)) (h256 : ∀ x ∈ l, x < 256) (hm : len ≤ 140737488355328) :
    Calls Try.prog 37 #[.slice ao len cap, .int .i64 n, .int .i64 k] w fun e w' => ∃ v, e = .returned (.tuple #[v, .int .i64 (unpC l n k)]) ∧ w'.ownsRow w.heap.size 48 1 v (unpL l n k).length ((unpL l n k).map (Value.int .u64)) ∧ Below w.heap.size w w' := by
  by_cases ha : unpArg n k = true
  · obtain ⟨h0, h1, h2, h3⟩ := (unpArg_iff n k).1 ha
    obtain ⟨i, rfl⟩ := Int.eq_ofNat_of_zero_le h2
    obtain ⟨j, rfl⟩ := Int.eq_ofNat_of_zero_le h0
    refine (runpack_any ao len cap l i j w h h256 hm (by omega) (by omega)).mono ?_
    rintro e w' (⟨hj, v, rfl, ho, hb⟩ | ⟨hj, rfl, hb⟩)
    · rw [unpC, unpL, ha, Int.toNat_natCast, Int.toNat_natCast, hj, if_pos rfl, if_pos (by simp), nums_length]
      exact ⟨v, rfl, ho, hb⟩
    · rw [unpC, unpL, ha, Int.toNat_natCast, Int.toNat_natCast, if_pos rfl, if_neg (by simp [hj])]
      exact ⟨_, rfl, World.ownsRow_nil _ _ _ _, hb⟩
  · have hn : ¬ (0 ≤ k ∧ k ≤ 64 ∧ 0 ≤ n ∧ n ≤ 1048576) := fun h => ha ((unpArg_iff n k).2 h)
    refine (runpack_arg ao len cap n k w (by omega)).mono ?_
    rintro e w' ⟨rfl, rfl⟩
    rw [unpC, unpL, if_neg ha, if_neg (by simp [ha])]
    exact ⟨_, rfl, World.ownsRow_nil _ _ _ _, Below.refl _ _⟩

end Go.Proofs.Ytkcpfgjkplailaa
/- Bytes appended to bytes of one's own, as a law at the operation. -/
namespace Go.Proofs.Ytkcpfgjkplailaa
set_option linter.unusedVariables false
open Go.RowKit

theorem wpList_app {w : World} {ops : Array Oper} {rest : List Oper} {o : Oper} {a : Act} {Q : Exit → Act → World → Prop} (hgd : o.guard = none) (s x : Operand)
    (ho : o.op = .call { callee := .builtin .append, args := #[s, x], argTypes := #[23, 23] })
    (base : Nat) (v : Value) (l : List Nat) (hs : a.eval s = v) (hown : w.ownsRow base 5 1 v l.length (B8 l))
    (ao : Option Addr) (m c : Nat) (news : List Nat) (hx : a.eval x = .slice ao m c) (hsl : Sl w .u8 ao m c (ints news)) (hlim : l.length + m ≤ 140737488355328) (hbase : base ≤ w.heap.size) (r : List Nat) (hr : l ++ news = r)
    (h : ∀ v' w', w'.ownsRow base 5 1 v' r.length (B8 r) → AS w v w' v' → wpList Try.prog ops Q rest (a.put o.dst v') w') : wpList Try.prog ops Q (o :: rest) a w := by
  obtain ⟨i0, hi, hz0, hz1, hz2⟩ := info_parts Try.infoU8
  have hm : news.length = m := by rw [← hsl.1, ints_length]
  refine wpList_append_to hgd s x 23 ho base 5 i0 (.int .u8 0) 1 1 Try.underlying23 hi hz0 hz1 hz2 rfl (by decide) v l.length (B8 l) hs hown ao m c ((ints news).map (Value.int .u8)) hx ?_ (by simp [ints_length, hm]) hsl.news ?_ (by unfold maxLen; omega) (by omega) hbase ?_
  · intro e
    have h4 := hsl.2.2.2.1 e
    have h2 := hsl.2.1
    exact ⟨by omega, h4⟩
  · intro u hu
    obtain ⟨y, _, rfl⟩ := List.mem_map.1 hu
    rfl
  · intro v' w' ho' has'
    refine h v' w' ?_ has'
    rw [← hr, List.length_append, hm, B8_append, B8_ints news]
    exact ho'
/-- No bytes, in new memory. -/
theorem owns_none (w : World) : (w.alloc (.cells #[] 5)).ownsRow w.heap.size 5 1 (.slice (some ⟨w.heap.size, 0, none⟩) 0 0) ([] : List Nat).length (B8 []) :=
  World.ownsRow_lit w #[] 0 (Nat.le_refl _) (by decide) (by simp)
/-- A row of one's own, as bytes that can be read; its length under a name. -/
theorem Sl.of_own {w : World} {B : Nat} {v : Value} {l : List Nat} (h : w.ownsRow B 5 1 v l.length (B8 l)) {k : Nat} (hk : l.length = k) : ∃ a c, v = .slice a k c ∧ Sl w .u8 a k c (ints l) := by
  subst hk
  obtain ⟨a, c, h1, h2, _⟩ := Sl.of_bytes h
  exact ⟨a, c, h1, h2⟩
end Go.Proofs.Ytkcpfgjkplailaa

/- The contracts of the document's answer for bits: Fits, Bytes, Bits. -/
import Derived.Test.YtmhfpipeoojacaaGreatBdZL
import Derived.Test.YtmhfpipeoojacaaGreatBdF
import Derived.Test.YtmhfpipeoojacaaGreatBdB
namespace Go.Proofs.YtmhfpipeoojacaaGreat
set_option linter.unusedVariables false
set_option maxRecDepth 10000
open Go.RowKit
/-- A number without its lowest bits. -/
def sh (n j : Nat) : Nat := n / 2 ^ j
theorem sh_zero (n : Nat) : sh n 0 = n := by simp [sh]
theorem sh_succ (n j : Nat) : sh n (j + 1) = sh n j / 2 := by simp [sh, Nat.pow_succ, Nat.div_div_eq_div_mul]
theorem sh_le (n j : Nat) : sh n j ≤ n := Nat.div_le_self _ _
theorem sh_bit (n j : Nat) : A.bitsOf n (j + 1) = A.bitsOf n j ++ [sh n j % 2 == 1] := A.bitsOf_succ n j

set_option maxHeartbeats 400000 in
theorem rfits_any (n : Nat) (k : Nat) (b : Bool) (w : World) (hn : (n : Int) < 18446744073709551616) (hk : k ≤ 64) (hb : (sh n k == 0) = b) :
    Calls Tryz.prog 64 #[.int .u64 n, .int .i64 k] w fun e w' => e = .returned (.bool b) ∧ w' = w := by
  have HB := hide hb
  clear hb
  go_enter Tryz.func64, Tryz.ntmps64
  go_wp2_with fail
  go_loop [0, 5] (fun v0 v5 => ∃ j : Nat, j ≤ k ∧ v5 = .int .i64 j ∧ v0 = .int .u64 ((sh n j : Nat) : Int)) (fun _ v5 => k - (intOf v5).toNat)
  case atStart => exact ⟨0, Nat.zero_le _, rfl, by rw [sh_zero]⟩
  case round =>
    obtain ⟨j, hj, rfl, rfl⟩ := hrel
    have hsl := sh_le n j
    by_cases hlt : j < k
    · have HS := hide (sh_succ n j)
      go_wp2
      go_round
      case rel => exact ⟨j + 1, by omega, by go_num, by rw [HS.out]; go_num⟩
      case measure => simp [intOf]; omega
    · have hjk : j = k := by omega
      subst hjk
      go_wp2
      go_ret
      refine ⟨congrArg (fun b => Ending.returned (Value.bool b)) ?_, rfl⟩
      rw [← HB.out, Bool.eq_iff_iff, beq_iff_eq, beq_iff_eq]
      omega

/-- The bits of the first bytes, and some of the next one. -/
def bitsTo (l : List Nat) (j q : Nat) : List Bool := A.bitsB (l.take j) ++ A.bitsOf (l.getD j 0) q
theorem bitsTo_zero (l : List Nat) (j : Nat) : bitsTo l j 0 = A.bitsB (l.take j) := by simp [bitsTo, A.bitsOf]
theorem bitsTo_next (l : List Nat) (j : Nat) (h : j < l.length) : bitsTo l (j + 1) 0 = bitsTo l j 8 := by
  rw [bitsTo_zero, List.take_succ_eq_append_getElem h, A.bitsB_append]
  simp [bitsTo, A.bitsB, List.getD, h]
theorem bitsTo_succ (l : List Nat) (j q : Nat) : bitsTo l j (q + 1) = bitsTo l j q ++ [sh (l.getD j 0) q % 2 == 1] := by
  unfold bitsTo; rw [sh_bit, List.append_assoc]
theorem bitsTo_length (l : List Nat) (j q : Nat) (h : j ≤ l.length) : (bitsTo l j q).length = 8 * j + q := by
  unfold bitsTo; rw [List.length_append, A.bitsB_length, A.bitsOf_length, List.length_take]; omega

set_option maxHeartbeats 400000 in
theorem brbits_none (ao : Option Addr) (cap : Nat) (w : World) :
    Calls Tryz.prog 73 #[.slice ao 0 cap] w fun e w' => e = .returned (.slice none 0 0) ∧ w' = w := by
  go_enter Tryz.func73, Tryz.ntmps73
  go_wp2_with fail
  go_loopw [3, 4] (fun v3 v4 wr => v3 = .slice none 0 0 ∧ v4 = .int .i64 0 ∧ wr = w) (fun _ _ _ => 0)
  case atStart => exact ⟨rfl, rfl, rfl⟩
  case round =>
    obtain ⟨rfl, rfl, rfl⟩ := hrel
    go_wp2
    go_ret
    exact ⟨rfl, rfl⟩

set_option maxHeartbeats 1000000 in
theorem brbits_some (b off len cap : Nat) (l : List Nat) (w : World) (hl : l.length = len) (hm : len ≤ 1099511627776) (hb : b < w.heap.size) (hc : ∀ i, i < len → w.cell? ⟨b, off + i, none⟩ = some (.int .u8 ((ints l).getD i 0))) (h256 : ∀ x ∈ l, x < 256) :
    Calls Tryz.prog 73 #[.slice (some ⟨b, off, none⟩) len cap] w fun e w' => ∃ v', e = .returned v' ∧ w'.ownsRow w.heap.size 4 1 v' (A.bitsB l).length (Vb (A.bitsB l)) ∧ Below w.heap.size w w' := by
  obtain ⟨i0, hi, hz0, hz1, hz2⟩ := info_parts Tryz.infoBool
  have H2 : Hid (∀ j, l.getD j 0 < 256) := by
    intro j
    by_cases hj : j < l.length
    · have : l.getD j 0 = l[j] := by simp [List.getD, hj]
      rw [this]; exact h256 _ (List.getElem_mem _)
    · simp [List.getD, Nat.le_of_not_lt hj]
  have HL := hide hl
  clear hl h256
  go_enter Tryz.func73, Tryz.ntmps73
  go_wp2_with fail
  go_loopw [3, 4] (fun v3 v4 wr => ∃ j : Nat, j ≤ len ∧ v4 = .int .i64 j ∧ wr.ownsRow w.heap.size 4 1 v3 (8 * j) (Vb (bitsTo l j 0)) ∧ Below w.heap.size w wr) (fun _ v4 _ => len - (intOf v4).toNat)
  case atStart => exact ⟨0, Nat.zero_le _, rfl, World.ownsRow_nil _ _ _ _, Below.refl _ _⟩
  case round =>
    obtain ⟨j, hj, rfl, hown, hbr⟩ := hrel
    by_cases hlt : j < len
    · have hck : wr.cell? ⟨b, off + j, none⟩ = some (.int .u8 ((ints l).getD j 0)) := by rw [hbr.cell (p := ⟨b, off + j, none⟩) hb]; exact hc j hlt
      rw [ints_getD] at hck
      have hx := H2.out j
      have HT : Hid (∀ q, bitsTo l j (q + 1) = bitsTo l j q ++ [sh (l.getD j 0) q % 2 == 1]) := bitsTo_succ l j
      have HN := hide (bitsTo_next l j (by have := HL.out; omega))
      obtain ⟨x, hxe⟩ : ∃ x, l.getD j 0 = x := ⟨_, rfl⟩
      rw [hxe] at hck hx HT
      clear hc hxe
      go_wp2_with fail
      go_loopw [3, 5, 6] (fun v3 v5 v6 wq => ∃ q : Nat, q ≤ 8 ∧ v6 = .int .i64 q ∧ v5 = .int .u8 ((sh x q : Nat) : Int) ∧ wq.ownsRow w.heap.size 4 1 v3 (8 * j + q) (Vb (bitsTo l j q)) ∧ Below w.heap.size w wq) (fun _ _ v6 _ => 8 - (intOf v6).toNat)
      case atStart => exact ⟨0, by omega, rfl, by rw [sh_zero], hown, hbr⟩
      case round =>
        obtain ⟨q, hq, rfl, rfl, hown2, hbr2⟩ := hrel
        have hsz := hbr2.size
        have hsl := sh_le x q
        by_cases hq8 : q < 8
        · have HQ := hide (HT.out q)
          have HS := hide (sh_succ x q)
          obtain ⟨c, hce⟩ : ∃ c : Bool, (((sh x q : Nat) : Int) % 2 == 1) = c := ⟨_, rfl⟩
          have HC : Hid ((sh x q % 2 == 1) = c) := by
            show _ = _
            rw [← hce, Bool.eq_iff_iff, beq_iff_eq, beq_iff_eq]; omega
          go_wp2_with (at_builtin; refine wpList_append_to rfl (.tmp 21) (.tmp 25) 71 rfl w.heap.size 4 i0 (.bool false) 1 1 Tryz.underlying71 hi hz0 hz1 hz2 rfl (by decide) _ _ _ rfl (hown2.alloc _) (some ⟨wr.heap.size, 0, none⟩) 1 1 [.bool c] rfl (by simp) rfl (newsB _ _) (oneB _) (by unfold maxLen; omega) (by omega) (by simp; omega) ?_)
          intro v' w' hown' has'
          have hbn : Below w.heap.size w w' := (hbr2.alloc hsz _).trans (has'.below (by simp; omega) (fun k hk => (owns_lt hown2 hk).1))
          clear has' hce
          go_wp2
          go_roundw
          case rel => exact ⟨q + 1, by omega, by go_num, by rw [HS.out]; go_num, by rw [HQ.out, HC.out, Vb_append]; exact hown', hbn⟩
          case measure => simp [intOf]; omega
        · have hq' : q = 8 := by omega
          subst hq'
          go_wp2
          go_roundw
          case rel => exact ⟨j + 1, by omega, by go_num, by rw [HN.out]; exact hown2, hbr2⟩
          case measure => simp [intOf]; omega
    · have hjl : j = len := by omega
      subst hjl
      clear hc
      rw [bitsTo_zero, List.take_of_length_le (by have := HL.out; omega)] at hown
      have e : (A.bitsB l).length = 8 * j := by rw [A.bitsB_length, HL.out]
      have HE := hide e
      clear e
      go_wp2
      go_ret
      exact ⟨_, rfl, by rw [HE.out]; exact hown, hbr⟩

/-- The document's Bits. -/
theorem brbits_any (ao : Option Addr) (len cap : Nat) (l : List Nat) (w : World) (h : Sl w .u8 ao len cap (ints l)) (hm : len ≤ 1099511627776) (h256 : ∀ x ∈ l, x < 256) :
    Calls Tryz.prog 73 #[.slice ao len cap] w fun e w' => ∃ v', e = .returned v' ∧ w'.ownsRow w.heap.size 4 1 v' (A.bitsB l).length (Vb (A.bitsB l)) ∧ Below w.heap.size w w' := by
  obtain ⟨h1, h2, h3, h4, h5⟩ := h
  rw [ints_length] at h1
  by_cases h0 : len = 0
  · subst h0
    obtain rfl : l = [] := List.eq_nil_of_length_eq_zero h1
    refine (brbits_none ao cap w).mono ?_
    rintro e w' ⟨rfl, rfl⟩
    exact ⟨_, rfl, World.ownsRow_nil _ _ _ _, Below.refl _ _⟩
  · rcases h5 with h5 | ⟨b, off, rfl, hlt, h5⟩
    · omega
    · exact brbits_some b off len cap l w h1 hm hlt h5 h256

set_option maxHeartbeats 400000 in
theorem brbytes_none (ao : Option Addr) (cap : Nat) (w : World) :
    Calls Tryz.prog 65 #[.slice ao 0 cap] w fun e w' => e = .returned (.slice none 0 0) ∧ w' = w := by
  go_enter Tryz.func65, Tryz.ntmps65
  go_wp2_with fail
  go_loopw [3, 5] (fun v3 v5 wr => v3 = .slice none 0 0 ∧ v5 = .int .i64 0 ∧ wr = w) (fun _ _ _ => 0)
  case atStart => exact ⟨rfl, rfl, rfl⟩
  case round =>
    obtain ⟨rfl, rfl, rfl⟩ := hrel
    go_wp2
    go_ret
    exact ⟨rfl, rfl⟩

/-- The bytes of the first bits. -/
def bytesTo (bs : List Bool) (j : Nat) : List Nat := A.bytesOf (bs.take j)
theorem bytesTo_zero (bs : List Bool) : bytesTo bs 0 = [] := by simp [bytesTo, A.bytesOf]
theorem bytesTo_length (bs : List Bool) (j : Nat) (h : j ≤ bs.length) : (bytesTo bs j).length = (j + 7) / 8 := by
  unfold bytesTo; rw [A.bytesOf_length, List.length_take, Nat.min_eq_left h]
theorem bytesTo_new (bs : List Bool) (j : Nat) (h : j < bs.length) (h8 : j % 8 = 0) : bytesTo bs (j + 1) = bytesTo bs j ++ [(bs.getD j false).toNat] := by
  unfold bytesTo
  have hl : (bs.take j).length = j := by rw [List.length_take]; omega
  rw [take_snocB bs j h, A.bytesOf_snoc_new _ _ (by rw [hl]; exact h8)]
theorem bytesTo_old (bs : List Bool) (j : Nat) (h : j < bs.length) (h8 : j % 8 ≠ 0) : bytesTo bs (j + 1) = (bytesTo bs j).set (j / 8) ((bytesTo bs j).getD (j / 8) 0 + (bs.getD j false).toNat * 2 ^ (j % 8)) ∧ (bytesTo bs j).getD (j / 8) 0 < 2 ^ (j % 8) := by
  unfold bytesTo
  have hl : (bs.take j).length = j := by rw [List.length_take]; omega
  have e : (j + 7) / 8 - 1 = j / 8 := by omega
  have h1 := A.bytesOf_snoc_old (bs.take j) (bs.getD j false) (by rw [hl]; exact h8)
  have h2 := A.last_lt (bs.take j) (by rw [hl]; exact h8)
  rw [hl, e] at h1 h2
  rw [take_snocB bs j h]
  exact ⟨h1, h2⟩

theorem set_self (l : List Nat) (i : Nat) : l.set i (l.getD i 0) = l := by
  by_cases h : i < l.length
  · simp [List.getD, h]
  · exact List.set_eq_of_length_le (by omega)
theorem pow8 (p : Nat) (h : p < 8) : ((2 : Int) ^ p) ≤ 128 ∧ 1 ≤ ((2 : Int) ^ p) := by
  have h1 : 2 ^ p ≤ 2 ^ 7 := Nat.pow_le_pow_right (by omega) (by omega)
  have h2 : 1 ≤ 2 ^ p := Nat.one_le_two_pow
  rw [← pow_int]
  omega
theorem weight_next (j : Nat) (c : Int) (hc : j % 8 ≠ 0 → c = 2 ^ (j % 8)) (h : j % 8 ≠ 0) : (j + 1) % 8 ≠ 0 → IntKind.u8.wrap (c * 2) = 2 ^ ((j + 1) % 8) := by
  intro h1
  have e : (j + 1) % 8 = j % 8 + 1 := by omega
  have h2 := pow8 (j % 8 + 1) (by omega)
  rw [e, hc h]
  rw [Int.pow_succ] at h2 ⊢
  rw [IntKind.wrap_u8']
  omega

set_option maxHeartbeats 1000000 in
theorem brbytes_some (b off len cap : Nat) (bs : List Bool) (w : World) (hl : bs.length = len) (hm : len ≤ 1099511627776) (hb : b < w.heap.size) (hc : ∀ i, i < len → w.cell? ⟨b, off + i, none⟩ = some (.bool (bs.getD i false))) :
    Calls Tryz.prog 65 #[.slice (some ⟨b, off, none⟩) len cap] w fun e w' => ∃ v', e = .returned v' ∧ w'.ownsRow w.heap.size 5 1 v' (A.bytesOf bs).length (B8 (A.bytesOf bs)) ∧ Below w.heap.size w w' := by
  obtain ⟨i0, hi, hz0, hz1, hz2⟩ := info_parts Tryz.infoU8
  have HL := hide hl
  clear hl
  go_enter Tryz.func65, Tryz.ntmps65
  go_wp2_with fail
  go_loopw [3, 4, 5] (fun v3 v4 v5 wr => ∃ j : Nat, j ≤ len ∧ v5 = .int .i64 j ∧ (∃ c : Int, v4 = .int .u8 c ∧ (j % 8 ≠ 0 → c = 2 ^ (j % 8))) ∧ wr.ownsRow w.heap.size 5 1 v3 ((j + 7) / 8) (B8 (bytesTo bs j)) ∧ Below w.heap.size w wr) (fun _ _ v5 _ => len - (intOf v5).toNat)
  case atStart => exact ⟨0, Nat.zero_le _, rfl, ⟨1, rfl, by simp⟩, by rw [bytesTo_zero]; exact World.ownsRow_nil _ _ _ _, Below.refl _ _⟩
  case round =>
    obtain ⟨j, hj, rfl, ⟨c, rfl, hcc⟩, hown, hbr⟩ := hrel
    have hsz := hbr.size
    by_cases hlt : j < len
    · have hck : wr.cell? ⟨b, off + j, none⟩ = some (.bool (bs.getD j false)) := by rw [hbr.cell (p := ⟨b, off + j, none⟩) hb]; exact hc j hlt
      have hjl : j < bs.length := by rw [HL.out]; exact hlt
      by_cases h8 : j % 8 = 0
      · have hm8 : ((j : Int) % 8 == 0) = true := by simp; omega
        have HN := hide (bytesTo_new bs j hjl h8)
        have HBL := hide (bytesTo_length bs j (by omega))
        obtain ⟨t, hte⟩ : ∃ t, bs.getD j false = t := ⟨_, rfl⟩
        rw [hte] at hck HN
        clear hc hte hcc hjl
        go_wp2_with (at_builtin; refine wpList_append_to rfl (.tmp 15) (.tmp 16) 23 rfl w.heap.size 5 i0 (.int .u8 0) 1 1 Tryz.underlying23 hi hz0 hz1 hz2 rfl (by decide) _ _ _ rfl (hown.alloc _) (some ⟨wr.heap.size, 0, none⟩) 1 1 [.int .u8 0] rfl (by simp) rfl (Sl.news1 _ _) (one_oneCell _ _) (by unfold maxLen; omega) (by omega) (by simp; omega) ?_)
        intro v' w' hown' has'
        have hbn : Below w.heap.size w w' := (hbr.alloc hsz _).trans (has'.below (by simp; omega) (fun k hk => (owns_lt hown hk).1))
        have hckn : w'.cell? ⟨b, off + j, none⟩ = some (.bool t) := by rw [hbn.cell (p := ⟨b, off + j, none⟩) hb, ← hbr.cell (p := ⟨b, off + j, none⟩) hb]; exact hck
        obtain ⟨g, cap', hv, hg, hglt, hcap⟩ := owns_pos hown' (by omega)
        have HO := hide hown'
        have HB := hide hbn
        have hj8 : (j + 7) / 8 = j / 8 := by omega
        rw [hj8] at hv HO
        clear has' hown hbr hck hbn hown'
        subst hv
        cases t with
        | false =>
          go_wp2
          go_roundw
          case rel => exact ⟨j + 1, by omega, by go_num, ⟨2, rfl, fun _ => by rw [show (j + 1) % 8 = 1 by omega]; rfl⟩, by rw [show (j + 1 + 7) / 8 = j / 8 + 1 by omega, HN.out, B8_append]; exact HO.out, HB.out⟩
          case measure => simp [intOf]; omega
        | true =>
          have hcl : w'.cell? ⟨g, j / 8, none⟩ = some (.int .u8 0) := by
            rw [HO.out.cellAt _ (by omega), List.getElem?_append_right (by rw [B8_length, HBL.out]; omega), B8_length, HBL.out, hj8, Nat.sub_self]; rfl
          have hfl := HO.out.frozenAt (j / 8)
          have HST := hide (HO.out.stored (j / 8) (.int .u8 1)).1
          go_wp2
          go_roundw
          case rel =>
            refine ⟨j + 1, by omega, by go_num, ⟨2, rfl, fun _ => by rw [show (j + 1) % 8 = 1 by omega]; rfl⟩, ?_, HB.out.setCell hg _⟩
            have h := HST.out
            rw [List.set_append_right _ _ (by rw [B8_length, HBL.out]; omega), B8_length, HBL.out, hj8, Nat.sub_self] at h
            rw [show (j + 1 + 7) / 8 = j / 8 + 1 by omega, HN.out, B8_append]
            exact h
          case measure => simp [intOf]; omega
      · have hm8 : ((j : Int) % 8 == 0) = false := by simp; omega
        obtain ⟨hbo, hby⟩ := bytesTo_old bs j hjl h8
        have HBL := hide (bytesTo_length bs j (by omega))
        have HWN := hide (weight_next j c hcc h8)
        have hce := hcc h8
        obtain ⟨hc1, hc2⟩ := pow8 (j % 8) (by omega)
        obtain ⟨g, cap', hv, hg, hglt, hcap⟩ := owns_pos hown (by omega)
        subst hv
        have hcl : wr.cell? ⟨g, j / 8, none⟩ = some (.int .u8 (((bytesTo bs j).getD (j / 8) 0 : Nat) : Int)) := by
          have hlt8 : j / 8 < (bytesTo bs j).length := by rw [HBL.out]; omega
          rw [hown.cellAt _ (by omega)]
          simp [B8, List.getD, hlt8]
        have hfl := hown.frozenAt (j / 8)
        obtain ⟨t, hte⟩ : ∃ t, bs.getD j false = t := ⟨_, rfl⟩
        obtain ⟨y, hye⟩ : ∃ y, (bytesTo bs j).getD (j / 8) 0 = y := ⟨_, rfl⟩
        rw [hte] at hck hbo
        rw [hye] at hby hcl hbo
        rw [← hce] at hc1 hc2
        have hyc : (y : Int) < c := by
          have : ((y : Nat) : Int) < ((2 ^ (j % 8) : Nat) : Int) := by omega
          rw [pow_int] at this
          rw [hce]; exact this
        have HSET : Hid (t = false → bytesTo bs (j + 1) = bytesTo bs j) := by
          intro h
          rw [hbo, h, ← hye, show Bool.toNat false = 0 from rfl, Nat.zero_mul, Nat.add_zero, set_self]
        have HSET2 : Hid (t = true → B8 (bytesTo bs (j + 1)) = (B8 (bytesTo bs j)).set (j / 8) (.int .u8 ((y : Int) + c))) := by
          intro h
          rw [hbo, h, ← B8_set]
          congr 2
          rw [hce]
          simp
        have HO := hide hown
        have HB := hide hbr
        have HST := hide (hown.stored (j / 8) (.int .u8 ((y : Int) + c))).1
        clear hc hte hye hcc hjl hbo hce hby hown hbr
        cases t with
        | false =>
          go_wp2
          go_roundw
          case rel => exact ⟨j + 1, by omega, by go_num, ⟨_, rfl, HWN.out⟩, by rw [show (j + 1 + 7) / 8 = (j + 7) / 8 by omega, HSET.out rfl]; exact HO.out, HB.out⟩
          case measure => simp [intOf]; omega
        | true =>
          go_wp2
          go_roundw
          case rel => exact ⟨j + 1, by omega, by go_num, ⟨_, rfl, HWN.out⟩, by rw [show (j + 1 + 7) / 8 = (j + 7) / 8 by omega, HSET2.out rfl]; exact HST.out, HB.out.setCell hg _⟩
          case measure => simp [intOf]; omega
    · have hjl : j = len := by omega
      subst hjl
      clear hc
      have hbl := bytesTo_length bs j (by rw [HL.out]; exact Nat.le_refl _)
      have he : bytesTo bs j = A.bytesOf bs := by unfold bytesTo; rw [List.take_of_length_le (by rw [HL.out]; exact Nat.le_refl _)]
      rw [← hbl, he] at hown
      clear hbl he
      go_wp2
      go_ret
      exact ⟨_, rfl, hown, hbr⟩

/-- The document's Bytes. -/
theorem brbytes_any (ao : Option Addr) (len cap : Nat) (bs : List Bool) (w : World) (h : Sb w ao len cap bs) (hm : len ≤ 1099511627776) :
    Calls Tryz.prog 65 #[.slice ao len cap] w fun e w' => ∃ v', e = .returned v' ∧ w'.ownsRow w.heap.size 5 1 v' (A.bytesOf bs).length (B8 (A.bytesOf bs)) ∧ Below w.heap.size w w' := by
  obtain ⟨h1, h2, h3, h4, h5⟩ := h
  by_cases h0 : len = 0
  · subst h0
    obtain rfl : bs = [] := List.eq_nil_of_length_eq_zero h1
    refine (brbytes_none ao cap w).mono ?_
    rintro e w' ⟨rfl, rfl⟩
    exact ⟨_, rfl, World.ownsRow_nil _ _ _ _, Below.refl _ _⟩
  · rcases h5 with h5 | ⟨b, off, rfl, hlt, h5⟩
    · omega
    · exact brbytes_some b off len cap bs w h1 hm hlt h5
end Go.Proofs.YtmhfpipeoojacaaGreat
/- The contracts of the document's answer for bits: Width, Pack. -/
namespace Go.Proofs.YtmhfpipeoojacaaGreat
set_option linter.unusedVariables false
set_option maxRecDepth 10000
open Go.RowKit

theorem fits_iff (x : Int) (k : Nat) (h0 : 0 ≤ x) : (sh x.toNat k == 0) = decide (x < (2 : Int) ^ k) := by
  have hp : 0 < 2 ^ k := Nat.two_pow_pos k
  rw [Bool.eq_iff_iff, beq_iff_eq, decide_eq_true_iff, ← pow_int]
  unfold sh
  constructor
  · intro h
    rcases Nat.div_eq_zero_iff.1 h with h1 | h1 <;> omega
  · intro h
    exact Nat.div_eq_of_lt (by omega)

/-- Fits, of a number as it lies in memory. -/
theorem rfits_i (x : Int) (k : Int) (b : Bool) (w : World) (h0 : 0 ≤ x) (hn : x < 18446744073709551616) (hk0 : 0 ≤ k) (hk : k ≤ 64) (hb : decide (x < (2 : Int) ^ k.toNat) = b) :
    Calls Tryz.prog 64 #[.int .u64 x, .int .i64 k] w fun e w' => e = .returned (.bool b) ∧ w' = w := by
  have hb2 := fits_iff x k.toNat h0
  obtain ⟨n, rfl⟩ := Int.eq_ofNat_of_zero_le h0
  obtain ⟨j, rfl⟩ := Int.eq_ofNat_of_zero_le hk0
  simp only [Int.toNat_natCast] at hb hb2
  exact rfits_any n j b w hn (by omega) (hb2.trans hb)

end Go.Proofs.YtmhfpipeoojacaaGreat
/- The contract of the document's answer for bits: Pack. -/
namespace Go.Proofs.YtmhfpipeoojacaaGreat
set_option linter.unusedVariables false
set_option maxRecDepth 10000
open Go.RowKit

/-- The bits of the first numbers, and some of the next one. -/
def bt (l : List Int) (k j q : Nat) : List Bool := bitsAll (l.take j) k ++ A.bitsOf (l.getD j 0).toNat q
theorem bt_zero (l : List Int) (k j : Nat) : bt l k j 0 = bitsAll (l.take j) k := by simp [bt, A.bitsOf]
theorem bt_next (l : List Int) (k j : Nat) (h : j < l.length) : bt l k (j + 1) 0 = bt l k j k := by
  rw [bt_zero, take_snocD l j h, bitsAll_snoc]; rfl
theorem bt_succ (l : List Int) (k j q : Nat) : bt l k j (q + 1) = bt l k j q ++ [sh (l.getD j 0).toNat q % 2 == 1] := by
  unfold bt; rw [sh_bit, List.append_assoc]
theorem bt_le (l : List Int) (k j q : Nat) (hk : k ≤ 64) (hq : q ≤ k) : (bt l k j q).length ≤ l.length * 64 + 64 := by
  unfold bt
  have := bitsAll_le l k j hk
  rw [List.length_append, A.bitsOf_length]; omega

set_option maxHeartbeats 400000 in
theorem rpack_arg (ao : Option Addr) (len cap : Nat) (k : Int) (w : World) (h : k < 0 ∨ 64 < k) :
    Calls Tryz.prog 28 #[.slice ao len cap, .int .i64 k] w fun e w' => e = .returned (.tuple #[.slice none 0 0, .int .i64 1]) ∧ w' = w := by
  rcases (show k < 0 ∨ (0 ≤ k ∧ 64 < k) by omega) with h1 | ⟨h1, h2⟩
  all_goals
    clear h
    go_enter Tryz.func28, Tryz.ntmps28
    go_wp2
    go_ret2
    exact ⟨rfl, rfl⟩

set_option maxHeartbeats 1000000 in
theorem rpack_any (ao : Option Addr) (len cap : Nat) (l : List Int) (k : Nat) (w : World) (h : Sl w .u64 ao len cap l) (hm : len * 64 + 64 < 1099511627776) (hin : In64 l) (hk : k ≤ 64) :
    Calls Tryz.prog 28 #[.slice ao len cap, .int .i64 k] w fun e w' =>
      (Fit l k ∧ ∃ v', e = .returned (.tuple #[v', .int .i64 0]) ∧ w'.ownsRow w.heap.size 5 1 v' (A.bytesOf (bitsAll l k)).length (B8 (A.bytesOf (bitsAll l k))) ∧ Below w.heap.size w w') ∨
      (¬ Fit l k ∧ e = .returned (.tuple #[.slice none 0 0, .int .i64 1]) ∧ Below w.heap.size w w') := by
  obtain ⟨i0, hi, hz0, hz1, hz2⟩ := info_parts Tryz.infoBool
  have HSL := hide h
  have HIN := hide hin
  have HL := hide h.1
  have HBT : Hid (∀ j q, q ≤ k → (bt l k j q).length ≤ len * 64 + 64) := fun j q hq => by have := bt_le l k j q hk hq; have := h.1; omega
  have hd : decide ((k : Int) < 0) = false := by simp
  clear h hin
  go_enter Tryz.func28, Tryz.ntmps28
  go_wp2_with fail
  go_loopw [6, 7] (fun v6 v7 wr => ∃ j : Nat, j ≤ len ∧ v7 = .int .i64 j ∧ Fit (l.take j) k ∧ wr.ownsRow w.heap.size 4 1 v6 (bt l k j 0).length (Vb (bt l k j 0)) ∧ Below w.heap.size w wr) (fun _ v7 _ => len - (intOf v7).toNat)
  case atStart => exact ⟨0, Nat.zero_le _, rfl, by intro x hx; simp at hx, World.ownsRow_nil _ _ _ _, Below.refl _ _⟩
  case round =>
    obtain ⟨j, hj, rfl, hfit, hown, hbr⟩ := hrel
    by_cases hlt : j < len
    · obtain ⟨b, off, hao, hblt, hc⟩ : ∃ b off, ao = some ⟨b, off, none⟩ ∧ b < w.heap.size ∧ ∀ i, i < len → w.cell? ⟨b, off + i, none⟩ = some (.int .u64 (l.getD i 0)) := by
        rcases HSL.out.2.2.2.2 with h | h
        · omega
        · exact h
      have hjl : j < l.length := by rw [HL.out]; exact hlt
      have hck : wr.cell? ⟨b, off + j, none⟩ = some (.int .u64 (l.getD j 0)) := by rw [hbr.cell (p := ⟨b, off + j, none⟩) hblt]; exact hc j hlt
      obtain ⟨x0, x1⟩ := HIN.out.getD j
      have HF : Hid (l.getD j 0 < (2 : Int) ^ k → Fit (l.take (j + 1)) k) := fun hx => hfit.snoc hjl hx
      have HM : Hid (l.getD j 0 ∈ l) := by
        have : l.getD j 0 = l[j] := by simp [List.getD, hjl]
        show l.getD j 0 ∈ l
        rw [this]; exact List.getElem_mem _
      have HN := hide (bt_next l k j hjl)
      have HS : Hid (∀ q, bt l k j (q + 1) = bt l k j q ++ [sh (l.getD j 0).toNat q % 2 == 1]) := bt_succ l k j
      obtain ⟨x, hxe⟩ : ∃ x, l.getD j 0 = x := ⟨_, rfl⟩
      rw [hxe] at hck x0 x1 HF HM HS
      clear hc hxe hjl hfit
      subst hao
      by_cases hx : x < (2 : Int) ^ k
      · have HX := hide hx
        have HD : Hid (decide (x < (2 : Int) ^ (k : Int).toNat) = true) := by show _ = _; rw [Int.toNat_natCast]; exact decide_eq_true hx
        clear hx
        go_wp2_with fail
        refine (rfits_i x k true wr x0 x1 (by omega) (by omega) HD.out).mono ?_
        rintro e w' ⟨rfl, rfl⟩
        go_wp2_with fail
        go_loopw [6, 8, 9] (fun v6 v8 v9 wq => ∃ q : Nat, q ≤ k ∧ v9 = .int .i64 q ∧ v8 = .int .u64 ((sh x.toNat q : Nat) : Int) ∧ wq.ownsRow w.heap.size 4 1 v6 (bt l k j q).length (Vb (bt l k j q)) ∧ Below w.heap.size w wq) (fun _ _ v9 _ => k - (intOf v9).toNat)
        case atStart => exact ⟨0, by omega, rfl, by rw [sh_zero]; go_num, hown, hbr⟩
        case round =>
          obtain ⟨q, hq, rfl, rfl, hown2, hbr2⟩ := hrel
          have hsz := hbr2.size
          have hsl := sh_le x.toNat q
          have hle := HBT.out j q hq
          by_cases hqk : q < k
          · have HQ := hide (HS.out q)
            have HSH := hide (sh_succ x.toNat q)
            obtain ⟨c, hce⟩ : ∃ c : Bool, (((sh x.toNat q : Nat) : Int) % 2 == 1) = c := ⟨_, rfl⟩
            have HC : Hid ((sh x.toNat q % 2 == 1) = c) := by
              show _ = _
              rw [← hce, Bool.eq_iff_iff, beq_iff_eq, beq_iff_eq]; omega
            go_wp2_with (at_builtin; refine wpList_append_to rfl (.tmp 38) (.tmp 42) 71 rfl w.heap.size 4 i0 (.bool false) 1 1 Tryz.underlying71 hi hz0 hz1 hz2 rfl (by decide) _ _ _ rfl (hown2.alloc _) (some ⟨wr.heap.size, 0, none⟩) 1 1 [.bool c] rfl (by simp) rfl (newsB _ _) (oneB _) (by unfold maxLen; omega) (by omega) (by simp; omega) ?_)
            intro v' w' hown' has'
            have hbn : Below w.heap.size w w' := (hbr2.alloc hsz _).trans (has'.below (by simp; omega) (fun k hk => (owns_lt hown2 hk).1))
            clear has' hce
            go_wp2
            go_roundw
            case rel => exact ⟨q + 1, by omega, by go_num, by rw [HSH.out]; go_num, by rw [HQ.out, HC.out, Vb_append, List.length_append]; exact hown', hbn⟩
            case measure => simp [intOf]; omega
          · have hq' : q = k := by omega
            subst hq'
            go_wp2
            go_roundw
            case rel => exact ⟨j + 1, by omega, by go_num, HF.out HX.out, by rw [HN.out]; exact hown2, hbr2⟩
            case measure => simp [intOf]; omega
      · have HX := hide (Int.not_lt.1 hx)
        have HD : Hid (decide (x < (2 : Int) ^ (k : Int).toNat) = false) := by show _ = _; rw [Int.toNat_natCast]; exact decide_eq_false hx
        clear hx
        go_wp2_with fail
        refine (rfits_i x k false wr x0 x1 (by omega) (by omega) HD.out).mono ?_
        rintro e w' ⟨rfl, rfl⟩
        go_wp2
        go_ret2
        exact .inr ⟨fun hf => Int.not_lt.2 HX.out (hf x HM.out), rfl, hbr⟩
    · have hjl : j = l.length := by rw [HL.out]; omega
      rw [bt_zero, hjl, List.take_length] at hown
      rw [hjl, List.take_length] at hfit
      have hle := HBT.out l.length 0 (by omega)
      rw [bt_zero, List.take_length] at hle
      obtain ⟨ao6, cap6, hv6, hsb6, _⟩ := Sb.of_owns hown
      have HSB := hide hsb6
      have HF := hide hfit
      have hsz := hbr.size
      clear hown hfit hsb6 hjl
      subst hv6
      go_wp2_with fail
      refine (brbytes_any _ _ _ (bitsAll l k) _ HSB.out (by omega)).mono ?_
      rintro e w5 ⟨v5, rfl, ho5, hb5⟩
      go_wp2
      go_ret2
      exact .inl ⟨HF.out, v5, rfl, owns_base ho5 fun g hg => by have := (owns_lt ho5 hg).1; omega, hbr.trans (hb5.mono hsz)⟩
end Go.Proofs.YtmhfpipeoojacaaGreat

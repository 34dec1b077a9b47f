/- dict.areJustPlaces: are codes places below n, and each of these a code? Conditions: fewer than 2^40 codes. -/
import Derived.Test.YtmhfpipeoojacaaGreatBdZ
import Derived.Test.YtmhfpipeoojacaaGreatBdZH
import Derived.Test.YtmhfpipeoojacaaGreatBdZJ
import Derived.Maps.OwnOps
import Derived.Maps.OwnSet
import Derived.Maps.RangeWalk
import Derived.Test.YtmhfpipeoojacaaGreatBdB
import Derived.Test.YtmhfpipeoojacaaGreatBdZI
import Derived.Test.YtmhfpipeoojacaaGreatBdZK
namespace Go.Proofs.YtmhfpipeoojacaaGreat
set_option linter.unusedVariables false
set_option maxRecDepth 10000
open Go.RowKit Go.Maps
theorem sub_len : ∀ {a b : List Nat}, a.Nodup → (∀ x ∈ a, x ∈ b) → a.length ≤ b.length
  | [], b, _, _ => Nat.zero_le _
  | x :: a, b, h, hs => by
    obtain ⟨hx, ha⟩ := List.nodup_cons.1 h
    have hxb := hs x (by simp)
    have := sub_len (b := b.erase x) ha fun y hy => (List.mem_erase_of_ne (fun e => by subst e; exact hx hy)).2 (hs y (by simp [hy]))
    rw [List.length_erase_of_mem hxb] at this
    have hp := List.length_pos_of_mem hxb
    simp only [List.length_cons]
    omega
/-- So many unlike codes, all of them places, are all places. -/
theorem just_iff {ks c : List Nat} {n : Nat} (hn : ks.Nodup) (hm : ∀ x, x ∈ ks ↔ x ∈ c) (hl : ∀ x ∈ ks, x < n) : ((ks.length : Int) == (n : Int)) = Z.cdOk n c := by
  have h1 : ks.length ≤ n := by
    have := sub_len (b := List.range n) hn fun x hx => List.mem_range.2 (hl x hx)
    simpa using this
  rw [Bool.eq_iff_iff, cdOk_iff, beq_iff_eq]
  constructor
  · intro h
    refine ⟨fun x hx => hl x ((hm x).2 hx), fun j hj => ?_⟩
    rw [← hm j]
    by_cases hjk : j ∈ ks
    · exact hjk
    · have := sub_len (a := j :: ks) (b := List.range n) (List.nodup_cons.2 ⟨hjk, hn⟩) fun x hx => by
        rcases List.mem_cons.1 hx with rfl | hx
        · exact List.mem_range.2 hj
        · exact List.mem_range.2 (hl x hx)
      simp at this
      omega
  · rintro ⟨_, h2⟩
    have := sub_len (a := List.range n) (b := ks) List.nodup_range fun x hx => (hm x).2 (h2 x (List.mem_range.1 hx))
    simp at this
    omega
/-- A map whose keys are these numbers. -/
structure MapOf (D : DataW Nat) (ks : List Nat) : Prop where
  tidy : Maps.Tidy D
  nod : ks.Nodup
  has : ∀ x : Nat, Maps.has D (.int .u64 (x : Int)) = decide (x ∈ ks)
  size : Maps.size D = ks.length
theorem MapOf.put {D : DataW Nat} {ks : List Nat} (h : MapOf D ks) (x : Nat) (hk : WideAt.IsKeyLit (.int .u64 (x : Int))) (d : DataW Nat) : ∃ ls, MapOf (D.put (.int .u64 (x : Int)) d) ls ∧ ∀ y, y ∈ ls ↔ (y ∈ ks ∨ y = x) := by
  have hh : ∀ y : Nat, Maps.has (D.put (.int .u64 (x : Int)) d) (.int .u64 (y : Int)) = (decide (y ∈ ks) || decide (y = x)) := fun y => by
    by_cases hy : y = x
    · subst hy; rw [Maps.has_put_same h.tidy.isMap hk]; simp
    · rw [Maps.has_put_other (fun e => hy (by injection e with _ e; omega)), h.has]; simp [hy]
  have hz := Maps.size_put (k := .int .u64 (x : Int)) h.tidy d
  by_cases hx : x ∈ ks
  · refine ⟨ks, ⟨h.tidy.put hk d, h.nod, fun y => ?_, ?_⟩, fun y => ?_⟩
    · rw [hh y]
      by_cases hy : y = x
      · subst hy; simp [hx]
      · simp [hy]
    · rw [hz, h.has, decide_eq_true hx, if_pos rfl, h.size]
    · constructor
      · exact .inl
      · rintro (hy | rfl)
        · exact hy
        · exact hx
  · refine ⟨x :: ks, ⟨h.tidy.put hk d, List.nodup_cons.2 ⟨hx, h.nod⟩, fun y => ?_, ?_⟩, fun y => ?_⟩
    · rw [hh y, Bool.eq_iff_iff]; simp [or_comm]
    · rw [hz, h.has, decide_eq_false hx, if_neg (by decide), h.size]; rfl
    · rw [List.mem_cons, or_comm]
theorem mapOf_nil : MapOf (.map []) [] := ⟨Maps.tidy_empty, List.nodup_nil, fun x => by simp [Maps.has_eq], rfl⟩
theorem lawU64 : Keyed Tryz.prog 48 := int_keyed Tryz.underlying48
theorem zeroInt (w : World) : (zeroValue 3).run Tryz.prog w = .ok (.int .i64 0) w := by kernel_rfl
set_option maxHeartbeats 1000000 in
theorem djust_any (ao : Option Addr) (len cap : Nat) (c : List Nat) (n : Nat) (w : World) (h : Sl w .u64 ao len cap (ints c)) (h64 : ∀ x ∈ c, x < 18446744073709551616) (hl : len ≤ 1099511627776) (hn : n ≤ 1099511627776) :
    Calls Tryz.prog 32 #[.slice ao len cap, .int .i64 (n : Int)] w fun e w' => e = .returned (.bool (Z.cdOk n c)) ∧ Below w.heap.size w w' := by
  have hmm := @run_makeMap Tryz.prog
  have hlc : c.length = len := by rw [← h.1, ints_length]
  have HL := hide hlc
  have HS := hide h
  have H64 := hide h64
  have e1 : IntKind.u64.wrap (n : Int) = (n : Int) := by rw [u64_wrap]; omega
  clear h h64 hlc
  go_enter Tryz.func32, Tryz.ntmps32
  go_wp2_with fail
  go_loopw [12] (fun i wr => ∃ (j : Nat) (D : DataW Nat) (ks : List Nat), j ≤ len ∧ i = .int .i64 j ∧ Hid (wr.ownsMap Tryz.prog 48 (plainElem Tryz.prog 3) w.heap.size j D) ∧ Hid (MapOf D ks) ∧ Hid (∀ x, x ∈ ks ↔ x ∈ c.take j) ∧ Hid (Below w.heap.size w wr)) (fun i _ => len - (intOf i).toNat)
  case atStart => exact ⟨0, _, [], Nat.zero_le _, rfl, World.ownsMap_made _ _ _ _, mapOf_nil, hide (by simp), (Below.refl _ _).alloc (Nat.le_refl _) _⟩
  case round =>
    obtain ⟨j, D, ks, hj, rfl, HO, HM, HK, HB⟩ := hrel
    by_cases hjl : j < len
    · obtain ⟨b, off, rfl, hlt, d0⟩ := HS.out.at hjl
      obtain ⟨x, hx⟩ : ∃ x, c[j]? = some x := ⟨c[j]'(by rw [HL.out]; exact hjl), List.getElem?_eq_getElem _⟩
      have hxg : (ints c).getD j 0 = (x : Int) := by rw [ints_getD, List.getD_eq_getElem?_getD, hx]; rfl
      rw [hxg] at d0
      have d1 : wr.cell? ⟨b, off + j, none⟩ = some (.int .u64 (x : Int)) := by rw [HB.out.cell (p := ⟨b, off + j, none⟩) hlt]; exact d0
      have hx64 := H64.out x (List.mem_of_getElem? hx)
      have hkey : keyOf Tryz.prog 48 (.int .u64 (x : Int)) = some (.int .u64 (x : Int)) := keyOf_int_mk Tryz.underlying48 (WalkArith.wf_u64 (by omega))
      have HKEY := hide hkey
      have HX := hide hx
      have hsz := HB.out.size
      clear d0 hxg hx hx64 hkey
      go_wp2_with (first
        | (at_lookup; refine wpList_lookup_own_int _ rfl _ _ 107 rfl 48 3 .i64 lawU64 Tryz.underlying107 Tryz.underlying3 (zeroInt _) w.heap.size j _ rfl HO.out _ _ rfl HKEY.out ?_; intro q hat hwc)
        | (at_mapUpdate; refine wpList_mapUpdate_own _ rfl _ _ _ 107 rfl 48 3 lawU64 Tryz.underlying107 _ w.heap.size j _ rfl HO.out (by unfold maxLen; omega) _ _ _ rfl rfl HKEY.out _ [] (plainElem_int Tryz.underlying3 (wrap64_wf _)) ?_; intro w1 hown1 hgrow1)
        | go_in)
      obtain ⟨ls, hM2, hmem⟩ := HM.out.put x (lawU64.key HKEY.out) (DataW.lit (Lit.int .i64 (wrap64 (q + 1))))
      have HK2 : Hid (∀ y, y ∈ ls ↔ y ∈ c.take (j + 1)) := fun y => by rw [hmem, HK.out, List.take_add_one, HX.out]; simp
      have HB2 := hide (HB.out.grown hgrow1 hsz (fun j hj => by cases hj; exact Nat.le_refl _))
      go_roundw
      case rel => exact ⟨j + 1, _, ls, by omega, by go_num, hown1, hM2, HK2, HB2⟩
      case measure => simp [intOf]; omega
    · obtain rfl : j = len := by omega
      have HK2 : Hid (∀ x, x ∈ ks ↔ x ∈ c) := fun x => by rw [HK.out, ← HL.out, List.take_length]
      have hlow := HB.out.size
      clear HK
      go_wp2_with (first
        | (at_range; refine wpList_range_own _ rfl _ 107 rfl 48 3 lawU64 Tryz.underlying107 _ w.heap.size j _ rfl HO.out ?_; intro w0 hrg0 hg0 hs0)
        | go_in)
      go_frame
      have HB0 := hide (HB.out.grown hg0 hlow (fun j hj => by cases hj))
      obtain ⟨r, hr⟩ : ∃ r, wr.heap.size = r := ⟨_, rfl⟩
      rw [hr] at hrg0 ⊢
      have HG0 := hide hrg0
      have hrl : w.heap.size ≤ r := by omega
      clear hg0 hs0 hrg0
      have HSTART : Hid (∀ x ∈ ks, Maps.has D (.int .u64 (x : Int)) = false → x < n) := fun x hx h => by rw [HM.out.has, decide_eq_true hx] at h; cases h
      go_loopw [8] (fun _ w2 => ∃ (left : Lit → Bool) (cnt : Nat), Hid (w2.ranges Tryz.prog 48 (plainElem Tryz.prog 3) w.heap.size r j D left cnt) ∧ Hid (∀ x ∈ ks, left (.int .u64 (x : Int)) = false → x < n) ∧ Hid (Below w.heap.size w w2)) (fun _ w2 => w2.rangeLeft w.heap.size r)
      case atStart => exact ⟨_, _, HG0, HSTART, HB0⟩
      case round =>
        obtain ⟨left, cnt, HRG, HLF, HBW⟩ := hrel
        go_wp2_with (first
          | (at_next; refine wpList_next_ranges_ii _ rfl _ rfl 48 3 .u64 .i64 lawU64 Tryz.underlying48 Tryz.underlying3 w.heap.size r j D left cnt rfl HRG.out ?_ ?_)
          | go_in)
        · intro _ hl0
          have HOW := hide HRG.out.owns
          have HRES := hide (just_iff HM.out.nod HK2.out fun x hx => HLF.out x hx (hl0 _))
          have HSZ := hide HM.out.size
          clear hl0 HRG HLF
          go_wp2_with (first
            | (at_len; refine wpList_len_own _ rfl _ 107 rfl 48 3 Tryz.underlying107 _ w.heap.size j D rfl HOW.out ?_)
            | go_in)
          go_ret
          exact ⟨by rw [← HRES.out, ← HSZ.out]; rfl, HBW.out⟩
        · intro x q2 w3 cnt1 hwx hwq hlx hat hrg1 hlt1 hg1 hs1 hen
          obtain ⟨hx0, hx1⟩ := wf_u64 hwx
          obtain ⟨y, rfl⟩ := Int.eq_ofNat_of_zero_le hx0
          have hyk : y ∈ ks := by
            have h1 := Maps.has_true_of_atKey hat
            rw [HM.out.has] at h1
            exact of_decide_eq_true h1
          have HB3 := hide (HBW.out.grown hg1 HBW.out.size (fun k hk => by cases hk; exact hrl))
          have HRG1 := hide hrg1
          have HLT := hide hlt1
          by_cases hyn : y < n
          · have HY := hide hyn
            have hyn2 : ¬ n ≤ y := by omega
            clear hwx hwq hlx hat hrg1 hg1 hs1 hlt1 hx0 hx1
            go_wp2
            go_roundw
            case rel =>
              refine ⟨_, cnt1, HRG1, hide (fun z hz h => ?_), HB3⟩
              by_cases hzy : z = y
              · subst hzy; exact HY.out
              · refine HLF.out z hz ?_
                rw [Maps.sameKey_ne (fun e => hzy (by injection e with _ e; omega))] at h
                simpa using h
            case measure => rw [HRG1.out.left_eq, HRG.out.left_eq]; exact HLT.out
          · have hyn2 : n ≤ y := by omega
            have hno : Z.cdOk n c = false := by
              cases hq : Z.cdOk n c with
              | false => rfl
              | true => exact absurd ((cdOk_iff.1 hq).1 y ((HK2.out y).1 hyk)) hyn
            have HNO := hide hno
            clear hwx hwq hlx hat hrg1 hg1 hs1 hlt1 hx0 hx1 hno
            go_wp2
            go_ret
            exact ⟨by rw [HNO.out]; rfl, HB3.out⟩
end Go.Proofs.YtmhfpipeoojacaaGreat
/- The contracts of justBits and of Unpack. -/
namespace Go.Proofs.YtmhfpipeoojacaaGreat
set_option linter.unusedVariables false
set_option maxRecDepth 10000
open Go.RowKit

set_option maxHeartbeats 400000 in
theorem just_any (ao : Option Addr) (len cap : Nat) (l : List Nat) (n : Nat) (w : World) (h : Sl w .u8 ao len cap (ints l)) (hm : len ≤ 140737488355328) (hn : n ≤ 1099511627776) :
    Calls Tryz.prog 69 #[.slice ao len cap, .int .i64 n] w fun e w' => e = .returned (.int .i64 ((jb l n : Nat) : Int)) ∧ w' = w := by
  have hlen : l.length = len := by rw [← h.1, ints_length]
  by_cases h1 : len < (n + 7) / 8
  · have hj : jb l n = 3 := by unfold jb; rw [hlen, if_pos h1]
    rw [hj]
    go_enter Tryz.func69, Tryz.ntmps69
    go_wp2
    go_ret
    exact ⟨rfl, rfl⟩
  · by_cases h2 : (n + 7) / 8 < len
    · have hj : jb l n = 4 := by unfold jb; rw [hlen, if_neg h1, if_pos h2]
      rw [hj]
      go_enter Tryz.func69, Tryz.ntmps69
      go_wp2
      go_ret
      exact ⟨rfl, rfl⟩
    · by_cases h3 : n % 8 = 0
      · have hj : jb l n = 0 := by unfold jb; rw [hlen, if_neg h1, if_neg h2, if_neg (by simp [h3])]
        rw [hj]
        have hb : ((n : Int) % 8 != 0) = false := by simp; omega
        go_enter Tryz.func69, Tryz.ntmps69
        go_wp2
        go_ret
        exact ⟨rfl, rfl⟩
      · have hb : ((n : Int) % 8 != 0) = true := by simp; omega
        obtain ⟨b, off, hao, hblt, hc⟩ : ∃ b off, ao = some ⟨b, off, none⟩ ∧ b < w.heap.size ∧ ∀ i, i < len → w.cell? ⟨b, off + i, none⟩ = some (.int .u8 ((ints l).getD i 0)) := by
          rcases h.2.2.2.2 with h | h
          · omega
          · exact h
        have hck := hc ((n + 7) / 8 - 1) (by omega)
        rw [ints_getD] at hck
        have hj : jb l n = if l.getD ((n + 7) / 8 - 1) 0 / 2 ^ (n % 8) ≠ 0 then 4 else 0 := by unfold jb; rw [hlen, if_neg h1, if_neg h2]; simp [h3]
        generalize l.getD ((n + 7) / 8 - 1) 0 = y at hck hj
        subst hao
        clear hc h
        by_cases h4 : y / 2 ^ (n % 8) = 0
        · have h5 : ((y : Int) / 2 ^ (n % 8) != 0) = false := by
            rw [← pow_int, ← Int.natCast_ediv, h4]; rfl
          rw [hj, if_neg (by simp [h4])]
          clear hj h4
          go_enter Tryz.func69, Tryz.ntmps69
          go_wp2
          go_ret
          exact ⟨rfl, rfl⟩
        · have h5 : ((y : Int) / 2 ^ (n % 8) != 0) = true := by
            rw [← pow_int, ← Int.natCast_ediv, bne_iff_ne]; omega
          rw [hj, if_pos h4]
          clear hj h4
          go_enter Tryz.func69, Tryz.ntmps69
          go_wp2
          go_ret
          exact ⟨rfl, rfl⟩

set_option maxHeartbeats 400000 in
theorem unpack_arg (ao : Option Addr) (len cap : Nat) (n k : Int) (w : World) (h : k < 0 ∨ 64 < k ∨ n < 0 ∨ 1048576 < n) :
    Calls Tryz.prog 31 #[.slice ao len cap, .int .i64 n, .int .i64 k] w fun e w' => e = .returned (.tuple #[.slice none 0 0, .int .i64 1]) ∧ w' = w := by
  by_cases hk : k < 0 ∨ 64 < k
  · clear h
    go_enter Tryz.func31, Tryz.ntmps31
    go_wp2_with (go_at_call 53; refine (may_no _ _ hk).mono ?_; rintro e w' ⟨rfl, rfl⟩)
    go_ret2
    exact ⟨rfl, rfl⟩
  · have hk0 : 0 ≤ k := by omega
    have hk1 : k ≤ 64 := by omega
    rcases (show n < 0 ∨ (0 ≤ n ∧ 1048576 < n) by omega) with hn | ⟨hn0, hn⟩
    all_goals
      clear h hk
      go_enter Tryz.func31, Tryz.ntmps31
      go_wp2_with (go_at_call 53; refine (may_yes _ _ (by omega) (by omega)).mono ?_; rintro e w' ⟨rfl, rfl⟩)
      go_ret2
      exact ⟨rfl, rfl⟩

set_option maxHeartbeats 400000 in
theorem unpack_no (ao : Option Addr) (len cap : Nat) (l : List Nat) (n k : Nat) (w : World) (h : Sl w .u8 ao len cap (ints l)) (hm : len ≤ 140737488355328) (hn : n ≤ 1048576) (hk : k ≤ 64) (hj : jb l (n * k) ≠ 0) :
    Calls Tryz.prog 31 #[.slice ao len cap, .int .i64 n, .int .i64 k] w fun e w' => e = .returned (.tuple #[.slice none 0 0, .int .i64 ((jb l (n * k) : Nat) : Int)]) ∧ w' = w := by
  have hnk : n * k ≤ 1048576 * 64 := Nat.mul_le_mul hn hk
  have hb : (((jb l (n * k) : Nat) : Int) != 0) = true := by rw [bne_iff_ne]; omega
  have H := hide h
  have hi : (n : Int) * (k : Int) = ((n * k : Nat) : Int) := (Int.natCast_mul n k).symm
  clear h hj
  generalize hN : n * k = N at *
  clear hN
  go_enter Tryz.func31, Tryz.ntmps31
  go_wp2_with (go_at_call 53; refine (may_yes _ _ (by omega) (by omega)).mono ?_; rintro e w' ⟨rfl, rfl⟩)
  refine (just_any _ _ _ l N _ H.out hm (by omega)).mono ?_
  rintro e w1 ⟨rfl, rfl⟩
  go_wp2
  go_ret2
  exact ⟨rfl, rfl⟩

def some0 (l : List Nat) (n k j : Nat) : List Value := (nums l j k).map (Value.int .u64) ++ List.replicate (n - j) (.int .u64 0)
theorem some0_zero (l : List Nat) (n k : Nat) : some0 l n k 0 = List.replicate n (.int .u64 0) := by simp [some0, nums]
theorem some0_all (l : List Nat) (n k : Nat) : some0 l n k n = (nums l n k).map (Value.int .u64) := by simp [some0]
theorem some0_set (l : List Nat) (n k j : Nat) (h : j < n) : (some0 l n k j).set j (.int .u64 ((getV l (j * k) k : Nat) : Int)) = some0 l n k (j + 1) := by
  unfold some0
  rw [List.set_append_right _ _ (by simp [nums_length]), nums_succ]
  simp only [List.length_map, nums_length, Nat.sub_self, List.map_append, List.append_assoc]
  rw [show n - j = (n - (j + 1)) + 1 by omega, List.replicate_succ, List.set_cons_zero]
  rfl

theorem some0_at (l : List Nat) (n k j : Nat) (h : j < n) : (some0 l n k j)[j]? = some (.int .u64 0) := by
  unfold some0
  rw [List.getElem?_append_right (by simp [nums_length])]
  simp only [List.length_map, nums_length, Nat.sub_self]
  rw [show n - j = (n - j - 1) + 1 by omega, List.replicate_succ]
  rfl

set_option maxRecDepth 10000 in
set_option maxHeartbeats 1000000 in
theorem unpack_yes (ao : Option Addr) (len cap : Nat) (l : List Nat) (n k : Nat) (w : World) (h : Sl w .u8 ao len cap (ints l)) (h256 : ∀ x ∈ l, x < 256) (hm : len ≤ 140737488355328) (hn : n ≤ 1048576) (hk : k ≤ 64) (hj : jb l (n * k) = 0) :
    Calls Tryz.prog 31 #[.slice ao len cap, .int .i64 n, .int .i64 k] w fun e w' => ∃ v', e = .returned (.tuple #[v', .int .i64 0]) ∧ w'.ownsRow w.heap.size 48 1 v' n ((nums l n k).map (Value.int .u64)) ∧ Below w.heap.size w w' := by
  have hnk : n * k ≤ 67108864 := Nat.mul_le_mul hn hk
  have hlen : l.length = len := by rw [← h.1, ints_length]
  have hfit : n * k ≤ 8 * l.length := by have := (jb_zero hj).1; omega
  have HFIT : Hid (∀ j, j < n → j * k + k ≤ 8 * l.length) := by
    intro j hj
    have : (j + 1) * k ≤ n * k := Nat.mul_le_mul_right k hj
    rw [Nat.add_mul] at this
    omega
  have H := hide h
  have H2 := hide h256
  have hd : decide ((n : Int) < 0) = false := by simp
  have hi : (n : Int) * (k : Int) = ((n * k : Nat) : Int) := (Int.natCast_mul n k).symm
  obtain ⟨i0, hi0, hz0, hz1, hz2⟩ := info_parts Tryz.infoU64
  have HI := hide hi
  clear h h256 hfit
  generalize hN : n * k = N at hnk hj hi
  clear hN
  go_enter Tryz.func31, Tryz.ntmps31
  go_wp2_with (go_at_call 53; refine (may_yes _ _ (by omega) (by omega)).mono ?_; rintro e w' ⟨rfl, rfl⟩)
  refine (just_any _ _ _ l N _ H.out hm (by omega)).mono ?_
  rintro e w1 ⟨rfl, rfl⟩
  rw [hj]
  clear hj hi
  go_wp2_with fail
  refine (from_any _ _ _ l _ H.out hm).mono ?_
  rintro e w2 ⟨p, v, rfl, hr, hp, hv, hb⟩
  have hs := hb.size
  go_wp2_with (at_make; refine wpList_make_full _ rfl _ _ 35 rfl w2.heap.size 48 i0 (.int .u64 0) 1 Tryz.underlying35 hi0 hz0 hz1 _ _ _ _ n rfl rfl rfl rfl (by rw [hz2]; omega) (by unfold maxLen; omega) (Nat.le_refl _) ?_)
  intro w3 ho hg
  have hr3 : Rd w3 p v l 0 := hr.kept ((Kept.refl (fun _ => False) _).grown hg (by simp)) (by simp) (by simp)
  have hb3 : Below w1.heap.size w1 w3 := hb.grown hg hs (by simp)
  have hpg := hr.lt
  have HVG : Hid (∀ g, v.ownBlock = some g → g ≠ w2.heap.size) := fun g hg => by have := (owns_lt hr.2.1 hg).2; omega
  have ho3 : w3.ownsRow w1.heap.size 48 1 (.slice (some ⟨w2.heap.size, 0, none⟩) n n) n (some0 l n k 0) := by
    rw [some0_zero]
    have h := owns_base (base' := w1.heap.size) ho (fun g hg => by have := (owns_lt ho hg).1; omega)
    rw [toList_madeCells_one] at h
    exact h
  clear hr hb ho hg hv
  go_wp2_with fail
  go_loopw [37] (fun i wr => ∃ j : Nat, j ≤ n ∧ i = .int .i64 j ∧ Rd wr p v l (j * k) ∧ wr.ownsRow w1.heap.size 48 1 (.slice (some ⟨w2.heap.size, 0, none⟩) n n) n (some0 l n k j) ∧ Below w1.heap.size w1 wr) (fun i _ => n - (intOf i).toNat)
  case atStart => exact ⟨0, Nat.zero_le _, rfl, by simpa using hr3, ho3, hb3⟩
  case round =>
    obtain ⟨j, hj, rfl, hrr, hor, hbr⟩ := hrel
    by_cases hlt : j < n
    · go_wp2_with fail
      refine (get_yes p v l (j * k) k wr hrr (by omega) H2.out hk (HFIT.out j hlt)).mono ?_
      rintro e w4 ⟨rfl, hr4, hk4⟩
      have ho4 := owns_of_block hor (fun g hg => hk4.block g (owns_lt hor hg).2 (by simp [Value.ownBlock] at hg; omega))
      have hb4 : Below w1.heap.size w1 w4 := hbr.trans (hk4.below (by have := hbr.size; omega) (by intro x hx; omega))
      have hc4 := ho4.cellAt j (by omega)
      rw [some0_at l n k j hlt] at hc4
      have hf4 := ho4.frozenAt j
      have HO := hide (ho4.stored j (.int .u64 ((getV l (j * k) k : Nat) : Int))).1
      have HB := hide hb4
      have HR := hide hr4
      clear ho4 hb4 hr4 hk4 hrr hor hbr
      go_wp2
      go_roundw
      case rel =>
        refine ⟨j + 1, by omega, by go_num, ?_, ?_, ?_⟩
        · rw [Nat.add_mul, Nat.one_mul]
          obtain ⟨h1, h2, h3⟩ := HR.out
          refine ⟨?_, ownsRow_setCell_other h2 (fun e => HVG.out _ e rfl) _, h3⟩
          rw [Below.heap_setCell _ _ _ _ (by show p ≠ w2.heap.size; omega)]; exact h1
        · rw [← some0_set l n k j hlt]; exact HO.out
        · exact HB.out.setCell (by show w1.heap.size ≤ w2.heap.size; omega) _
      case measure => simp [intOf]; omega
    · have hjn : j = n := by omega
      subst hjn
      go_wp2
      go_ret2
      rw [some0_all] at hor
      exact ⟨_, rfl, hor, hbr⟩
end Go.Proofs.YtmhfpipeoojacaaGreat

/- The walk of the statement: a column in order has as many runs as unlike values. -/
import Derived.Test.YtfggfmcbinhigaaBdV
namespace Go.Proofs.Ytfggfmcbinhigaa
set_option linter.unusedVariables false
open Go.RowKit

/-- The runs of a column in order, by how often each number is there. -/
def Z.nv (n : Nat) : Z.V := ⟨1, (n : Int), ⟨#[]⟩⟩
def Z.srt (f : Nat → Nat) : Nat → List Z.R
  | 0 => []
  | n + 1 => if f n = 0 then Z.srt f n else Z.srt f n ++ [⟨((f n : Nat) : Int), Z.nv n⟩]
theorem srt_zero {f : Nat → Nat} {n : Nat} (h : f n = 0) : Z.srt f (n + 1) = Z.srt f n := by rw [Z.srt, if_pos h]
theorem srt_more {f : Nat → Nat} {n : Nat} (h : f n ≠ 0) : Z.srt f (n + 1) = Z.srt f n ++ [⟨((f n : Nat) : Int), Z.nv n⟩] := by rw [Z.srt, if_neg h]
theorem sp_srt (f : Nat → Nat) (n : Nat) : Z.sp (Z.srt f (n + 1)) = Z.sp (Z.srt f n) ++ List.replicate (f n) (Z.nv n) := by
  by_cases h : f n = 0
  · rw [srt_zero h, h, List.replicate_zero, List.append_nil]
  · rw [srt_more h, sp_append]
    congr 1
    rw [sp_cons]
    show List.replicate ((f n : Nat) : Int).toNat (Z.nv n) ++ [] = _
    rw [List.append_nil, Int.toNat_natCast]
theorem neat_srt (f : Nat → Nat) : ∀ n, Z.Neat none (Z.srt f n) ∧ ∀ x, Z.top (Z.srt f n).reverse = some x → x.i < (n : Int)
  | 0 => ⟨trivial, fun x h => by simp [Z.srt, Z.top] at h⟩
  | n + 1 => by
    obtain ⟨h1, h2⟩ := neat_srt f n
    by_cases h : f n = 0
    · rw [srt_zero h]
      exact ⟨h1, fun x hx => by have := h2 x hx; omega⟩
    · rw [srt_more h, neat_snoc]
      refine ⟨⟨h1, by show (1 : Int) ≤ ((f n : Nat) : Int); omega, ?_⟩, fun x hx => ?_⟩
      · by_cases h3 : Z.srt f n = []
        · rw [if_pos h3]; simp
        · rw [if_neg h3]
          intro e
          have := h2 _ e
          have h4 : (Z.nv n).i = (n : Int) := rfl
          have h5 : (n : Int) < (n : Int) := by rw [← h4]; exact this
          omega
      · rw [top_snoc] at hx
        have h4 := Option.some.inj hx
        rw [← h4]
        show (n : Int) < ((n + 1 : Nat) : Int)
        omega
/-- How often a number is there. -/
def Z.oft (l : List Nat) (n : Nat) : Nat := l.countP (fun x => x == n)
theorem oft_sum (l : List Nat) (n : Nat) : l.countP (fun x => decide (x < n + 1)) = l.countP (fun x => decide (x < n)) + Z.oft l n := by
  unfold Z.oft
  induction l with
  | nil => rfl
  | cons x l ih =>
    rw [List.countP_cons, List.countP_cons, List.countP_cons, ih]
    by_cases h1 : x < n
    · have h2 : x ≠ n := by omega
      have h3 : x < n + 1 := by omega
      simp [h1, h2, h3]; omega
    · by_cases h2 : x = n
      · subst h2; simp; omega
      · have h3 : ¬ x < n + 1 := by omega
        simp [h1, h2, h3]
theorem srt_few (l : List Nat) : ∀ n, (Z.sp (Z.srt (Z.oft l) n)).length = l.countP (fun x => decide (x < n))
  | 0 => by simp [Z.srt, Z.sp]
  | n + 1 => by rw [sp_srt, List.length_append, srt_few l n, List.length_replicate, oft_sum]
theorem srt_le (l : List Nat) (n : Nat) : (Z.sp (Z.srt (Z.oft l) n)).length ≤ l.length := by rw [srt_few]; exact List.countP_le_length
theorem oft_snoc (l : List Nat) (x n : Nat) : Z.oft (l ++ [x]) n = Z.oft l n + (if x = n then 1 else 0) := by
  unfold Z.oft
  rw [List.countP_append]
  by_cases h : x = n
  · subst h; simp
  · simp [h]
theorem oft_le (l : List Nat) (n : Nat) : Z.oft l n ≤ l.length := List.countP_le_length
theorem oft_all (l : List Nat) (n : Nat) : (Z.sp (Z.srt (Z.oft l) n)).length + Z.oft l n ≤ l.length := by
  rw [srt_few, ← oft_sum]; exact List.countP_le_length
theorem oft_take (l : List Nat) (i n : Nat) : Z.oft (l.take i) n ≤ Z.oft l n := by
  unfold Z.oft
  exact (List.take_sublist i l).countP_le
theorem oft_step {l : List Nat} {j n x : Nat} (h : j < l.length) (hx : l.getD j 0 = x) : Z.oft (l.take (j + 1)) n = Z.oft (l.take j) n + (if x = n then 1 else 0) := by
  rw [take_snocN l j h, oft_snoc, hx]

set_option maxHeartbeats 4000000 in
theorem rleSorted_in (w : World) (a : Option Addr) (len cap : Nat) (ns : List Nat) (hs : Sl w .u8 a len cap (ints ns)) (h256 : ∀ x ∈ ns, x < 256) (hr : cap * 1 ≤ 140737488351232) :
    Calls Try.prog 8 #[.slice a len cap] w fun e w' => e = .returned (.bool true) ∧ Below w.heap.size w w' := by
  have hlen : len ≤ 140737488351232 := by have := hs.2.1; omega
  have hnl : ns.length = len := by rw [← hs.1, ints_length]
  obtain ⟨T, hT⟩ : ∃ T, min len 300 = T := ⟨_, rfl⟩
  have hT3 : T ≤ 300 := by omega
  have hTl : T ≤ len := by omega
  obtain ⟨nt, hnt⟩ : ∃ nt, ns.take T = nt := ⟨_, rfl⟩
  have hntl : nt.length = T := by rw [← hnt, List.length_take]; omega
  have HS := hide hs
  have HNL := hide hnl
  have HNT := hide hnt
  have HTL := hide hntl
  have HT := hide hT
  have H256 := hide h256
  clear hs h256 hr hnl hnt hntl hT
  go_enter Try.func8, Try.ntmps8
  go_wp2_with fail
  refine (rshown_any _).mono ?_
  rintro e w1 ⟨rfl, hb⟩
  have b0 := hide hb
  clear hb
  go_wp2_with fail
  go_loopw [4, 5, 6] (fun v mn i wr => ∃ n k : Nat, n ≤ 256 ∧ i = .int .i64 n ∧ mn = .int .i64 k ∧ Hid (OwnV wr w1.heap.size v (Z.sp (Z.srt (Z.oft nt) n))) ∧ Hid ((Z.srt (Z.oft nt) n).length = k) ∧ Hid (k ≤ n) ∧ Hid (Below w.heap.size w wr) ∧ Hid (Below w1.heap.size w1 wr)) (fun _ _ i _ => 256 - (intOf i).toNat)
  case atStart => exact ⟨0, 0, Nat.zero_le _, rfl, rfl, hide (World.ownsRow_nil _ _ _ _), hide rfl, hide (Nat.le_refl _), b0, hide (Below.refl _ _)⟩
  case round =>
    obtain ⟨n, k, hn, rfl, rfl, hrow, hk, hkn, hbw, hb1⟩ := hrel
    by_cases hnl : n < 256
    · have hni : decide ((n : Int) < 256) = true := by simp; omega
      have hall := oft_all nt n
      rw [HTL.out] at hall
      have HALL := hide hall
      clear hall
      go_wp2_with fail
      go_loopw [4, 7, 8] (fun v q i wq => ∃ j g : Nat, j ≤ T ∧ i = .int .i64 j ∧ q = .bool (decide (0 < g)) ∧ Hid (Z.oft (ns.take j) n = g) ∧ Hid (OwnV wq w1.heap.size v (Z.sp (Z.srt (Z.oft nt) n) ++ List.replicate g (Z.nv n))) ∧ Hid (Below w.heap.size w wq) ∧ Hid (Below w1.heap.size w1 wq)) (fun _ _ i _ => T - (intOf i).toNat)
      case atStart => exact ⟨0, 0, Nat.zero_le _, rfl, rfl, hide rfl, by rw [List.replicate_zero, List.append_nil]; exact hrow, hbw, hb1⟩
      case round =>
        obtain ⟨j, g, hj, rfl, rfl, hg, hrow, hbw, hb1⟩ := hrel
        by_cases hjT : j < T
        · have hjl : j < len := by omega
          have hj3 : decide ((j : Int) < 300) = true := by simp; omega
          obtain ⟨x, hx⟩ : ∃ x, ns.getD j 0 = x := ⟨_, rfl⟩
          have hx256 : x < 256 := by rw [← hx]; exact E.getD_lt H256.out j
          rcases (HS.out.below hbw.out).2.2.2.2 with h5 | ⟨b, off, rfl, hlt, h5⟩
          · omega
          · have d1 := h5 j hjl
            rw [ints_getD, hx] at d1
            have hst := oft_step (l := ns) (j := j) (n := n) (x := x) (by rw [HNL.out]; exact hjl) hx
            rw [hg.out] at hst
            have hgl : g + 0 ≤ Z.oft nt n := by
              have h1 := oft_take nt j n
              rw [← HNT.out, List.take_take, Nat.min_eq_left (by omega), hg.out] at h1
              rw [← HNT.out]; exact h1
            have HGL : Hid ((Z.sp (Z.srt (Z.oft nt) n)).length + g ≤ T) := by have := HALL.out; show _ ≤ _; omega
            clear h5 hx hgl
            by_cases hxn : x = n
            · subst hxn
              rw [if_pos rfl] at hst
              have HST := hide hst
              have hsz := hb1.out.size
              have b1 := below_one wr (.cells #[.int .i64 1, .int .i64 (x : Int), .string ⟨#[]⟩] 47)
              have HB1 := hide (bthen hbw.out b1)
              have HB2 := hide (bthen hb1.out b1)
              have HR2 := hide (hrow.out.below b1)
              have HNL2 : Hid ((Z.sp (Z.srt (Z.oft nt) x) ++ List.replicate g (Z.nv x)).length ≤ 300) := by
                have := HGL.out
                show _ ≤ _
                rw [List.length_append, List.length_replicate]
                omega
              clear hst b1
              go_wp2_with (at_builtin; refine wpList_appV rfl _ _ rfl w1.heap.size u4 (Z.sp (Z.srt (Z.oft nt) x) ++ List.replicate g (Z.nv x)) rfl HR2.out (some ⟨wr.heap.size, 0, none⟩) 1 1 [Z.nv x] rfl (slV_one wr 1 (x : Int) ⟨#[]⟩) (by have := HNL2.out; omega) (by simp; omega) ?_)
              intro v4 w4 ho4 has _
              have hb4 : Below w1.heap.size w1 w4 := HB2.out.trans (has.below (by simp; omega) (fun k hk => (owns_lt HR2.out hk).1))
              have hb5 : Below w.heap.size w w4 := bthen b0.out hb4
              rw [show List.replicate g (Z.nv x) ++ [Z.nv x] = List.replicate (g + 1) (Z.nv x) from List.replicate_succ'.symm] at ho4
              have HO4 := hide ho4
              have HB4 := hide hb4
              have HB5 := hide hb5
              clear ho4 hb4 hb5 has
              go_wp2
              go_roundw
              case rel => exact ⟨j + 1, g + 1, hjT, by go_num, by simp, HST, HO4, HB5, HB4⟩
              case measure => simp [intOf]; omega
            · rw [if_neg hxn, Nat.add_zero] at hst
              have HST := hide hst
              have hxb : ((x : Int) == (n : Int)) = false := by simp; omega
              clear hst
              go_wp2
              go_roundw
              case rel => exact ⟨j + 1, g, hjT, by go_num, rfl, HST, hrow, hbw, hb1⟩
              case measure => simp [intOf]; omega
        · obtain rfl : j = T := by omega
          by_cases hjl : j < len
          · have hj3 : decide ((j : Int) < 300) = false := by have := HT.out; simp; omega
            have HG : Hid (Z.oft nt n = g) := by show _ = _; rw [← HNT.out]; exact hg.out
            have HRN : Hid (OwnV wr w1.heap.size u4 (Z.sp (Z.srt (Z.oft nt) (n + 1)))) := by
              show OwnV _ _ _ _
              rw [sp_srt, HG.out]
              exact hrow.out
            clear hrow
            by_cases hg0 : g = 0
            · have hgd : decide (0 < g) = false := by simp; omega
              rw [hgd]
              rw [hg0] at HG
              clear hg0 hgd hg
              have HK1 : Hid ((Z.srt (Z.oft nt) (n + 1)).length = k) := by show _ = _; rw [srt_zero HG.out]; exact hk.out
              have HK2 : Hid (k ≤ n + 1) := by have := hkn.out; show _ ≤ _; omega
              go_wp2
              go_roundw
              case rel => exact ⟨n + 1, k, hnl, by go_num, rfl, HRN, HK1, HK2, hbw, hb1⟩
              case measure => simp [intOf]; omega
            · have HK1 : Hid ((Z.srt (Z.oft nt) (n + 1)).length = k + 1) := by show _ = _; rw [srt_more (by rw [HG.out]; exact hg0), List.length_append, hk.out]; rfl
              have HK2 : Hid (k + 1 ≤ n + 1) := by have := hkn.out; show _ ≤ _; omega
              have hgd : decide (0 < g) = true := by simp; omega
              have hkb : k ≤ 256 := by have := hkn.out; omega
              rw [hgd]
              clear hg0 hgd hg
              go_wp2
              go_roundw
              case rel => exact ⟨n + 1, k + 1, hnl, by go_num, by go_num, HRN, HK1, HK2, hbw, hb1⟩
              case measure => simp [intOf]; omega
          · have hjd : ¬ j < len := hjl
            have HG : Hid (Z.oft nt n = g) := by show _ = _; rw [← HNT.out]; exact hg.out
            have HRN : Hid (OwnV wr w1.heap.size u4 (Z.sp (Z.srt (Z.oft nt) (n + 1)))) := by
              show OwnV _ _ _ _
              rw [sp_srt, HG.out]
              exact hrow.out
            clear hrow
            by_cases hg0 : g = 0
            · have hgd : decide (0 < g) = false := by simp; omega
              rw [hgd]
              rw [hg0] at HG
              clear hg0 hgd hg
              have HK1 : Hid ((Z.srt (Z.oft nt) (n + 1)).length = k) := by show _ = _; rw [srt_zero HG.out]; exact hk.out
              have HK2 : Hid (k ≤ n + 1) := by have := hkn.out; show _ ≤ _; omega
              go_wp2
              go_roundw
              case rel => exact ⟨n + 1, k, hnl, by go_num, rfl, HRN, HK1, HK2, hbw, hb1⟩
              case measure => simp [intOf]; omega
            · have HK1 : Hid ((Z.srt (Z.oft nt) (n + 1)).length = k + 1) := by show _ = _; rw [srt_more (by rw [HG.out]; exact hg0), List.length_append, hk.out]; rfl
              have HK2 : Hid (k + 1 ≤ n + 1) := by have := hkn.out; show _ ≤ _; omega
              have hgd : decide (0 < g) = true := by simp; omega
              have hkb : k ≤ 256 := by have := hkn.out; omega
              rw [hgd]
              clear hg0 hgd hg
              go_wp2
              go_roundw
              case rel => exact ⟨n + 1, k + 1, hnl, by go_num, by go_num, HRN, HK1, HK2, hbw, hb1⟩
              case measure => simp [intOf]; omega
    · have hnd : decide ((n : Int) < 256) = false := by simp; omega
      obtain ⟨la, lc, hv, hsl, _⟩ := SlV.of_own hrow.out
      obtain ⟨rs, hrs⟩ : ∃ rs, Z.srt (Z.oft nt) n = rs := ⟨_, rfl⟩
      have hneat : Z.Neat none rs := by rw [← hrs]; exact (neat_srt _ n).1
      have hruns := runs_sp hneat
      have hle := srt_le nt n
      rw [HTL.out, hrs] at hle
      have hkk := hk.out
      rw [hrs] at hsl hv hkk
      obtain ⟨l, hl⟩ : ∃ l, Z.sp rs = l := ⟨_, rfl⟩
      obtain ⟨m, hm⟩ : ∃ m, l.length = m := ⟨_, rfl⟩
      rw [hl] at hsl hv hruns hle
      rw [hm] at hsl hv hle
      have C1 : Hid (∀ w5, Below wr.heap.size wr w5 → Calls Try.prog 18 #[.slice la m lc] w5 fun e w' => ∃ a c, e = .returned (.slice a k c) ∧ SlR w' a k c rs ∧ Below w5.heap.size w5 w') := fun w5 h5 => by
        refine (runs_any la m lc l w5 (hsl.below h5) (by omega)).mono ?_
        rintro e w' ⟨v, rfl, ho, hb⟩
        obtain ⟨sa, sc, rfl, hsl2, _⟩ := SlR.of_own ho
        rw [hruns, hkk] at hsl2
        rw [hruns, hkk]
        exact ⟨sa, sc, rfl, hsl2, hb⟩
      have HSP : Hid (Z.spr rs = l) := by show _ = _; rw [spr_few (by rw [hl, hm]; omega)]; exact hl
      have HSL := hide hsl
      have HM := hide hm
      have hk256 : k ≤ 256 := by have := hkn.out; omega
      have hm3 : m ≤ 300 := by omega
      rw [hv]
      clear hsl hruns hneat hkk hl hm hrs hv hle hrow hk hkn
      go_wp2_with fail
      refine (C1.out _ (Below.refl _ _)).mono ?_
      rintro e w2 ⟨pa, pc, rfl, _, hb⟩
      have HB2 := hide hb
      clear hb
      go_wp2_with fail
      refine (C1.out _ HB2.out).mono ?_
      rintro e w3 ⟨qa, qc, rfl, h3, hb⟩
      have HB3 := hide (bthen HB2.out hb)
      have HS := hide (spread_any qa k qc rs w3 h3 (by omega))
      clear h3 hb C1
      go_wp2_with fail
      refine HS.out.mono ?_
      rintro e w4 ⟨v4, rfl, ho4, hb⟩
      rw [HSP.out] at ho4
      obtain ⟨sa, sc, rfl, hs4, _⟩ := SlV.of_own ho4
      rw [HM.out] at hs4 ⊢
      have HB4 := hide (bthen HB3.out hb)
      have HV := hide (vsame_yes sa la m sc lc l w4 hs4 (HSL.out.below HB4.out) (by omega))
      clear ho4 hs4 hb HS
      go_wp2_with fail
      refine HV.out.mono ?_
      rintro e w5 ⟨rfl, hb⟩
      have HBE := hide (bthen hbw.out (bthen HB4.out hb))
      clear hb HV
      go_wp2
      go_ret
      exact ⟨rfl, HBE.out⟩
theorem rleSorted_walk (w : World) (a : Option Addr) (len cap : Nat) (z : List Int) (c : Came .u8 w a len cap z) (hr : cap * 1 ≤ 140737488351232) :
    Calls Try.prog 8 #[.slice a len cap] w fun e w' => e = .returned (.bool true) ∧ Below w.heap.size w w' := by
  obtain ⟨b, rfl, h256⟩ := came_bytes c
  exact rleSorted_in w a len cap b c.1 h256 hr
end Go.Proofs.Ytfggfmcbinhigaa

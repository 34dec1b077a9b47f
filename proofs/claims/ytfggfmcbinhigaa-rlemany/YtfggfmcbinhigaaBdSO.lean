/- The walk of the statement: however often a value is there, its bytes are as many. -/
import Derived.Test.YtfggfmcbinhigaaBdV
import Derived.Test.YtfggfmcbinhigaaBdRV
namespace Go.Proofs.Ytfggfmcbinhigaa
set_option linter.unusedVariables false
open Go.RowKit

theorem runs_only {x : Z.V} {n : Nat} (hn : 1 ≤ n) : Z.runs (List.replicate n x) = [⟨(n : Int), x⟩] := by
  have := runs_rep (l := []) (x := x) (n := n) rfl hn
  rw [List.nil_append] at this
  exact this
theorem rcb_rep {x : Z.V} {kind : Int} {n : Nat} (hn : 1 ≤ n) (h : Z.chk (List.replicate n x) kind = 0) : Z.rcb (List.replicate n x) kind = E.leb n ++ Z.lb x := by
  rw [rcb_ok h, runs_only hn, rb_cons]
  simp [Z.rb]
theorem leb_two {n : Nat} (h : n ≤ 4096) : 1 ≤ (E.leb n).length ∧ (E.leb n).length ≤ 2 := ⟨E.leb_pos n, E.leb_length_le n 2 (by omega) (by omega)⟩
theorem chk_rep {x : Z.V} {kind : Int} {n : Nat} (h1 : Z.chk [x] kind = 0) (hn : n ≤ 4096) : Z.chk (List.replicate n x) kind = 0 := by
  obtain ⟨a1, a2, a3, a4⟩ := chk_zero h1
  exact chk_of a1 (by simpa using hn) (fun y hy => by rw [(List.mem_replicate.1 hy).2]; exact a3 x (by simp)) (fun y hy => by rw [(List.mem_replicate.1 hy).2]; exact a4 x (by simp))
theorem chk_rep_many {x : Z.V} {kind : Int} {n : Nat} (h1 : Z.chk [x] kind = 0) (hn : 4096 < n) : Z.chk (List.replicate n x) kind = 2 :=
  chk_many (by rcases (chk_zero h1).1 with rfl | rfl | rfl <;> rfl) (by simpa using hn)
theorem rep_one (x : Z.V) : List.replicate 1 x = [x] := rfl

set_option maxHeartbeats 2000000 in
theorem rleMany_walk (w : World) (k i0 : Int) (s : ByteArray) (hk : Z.I64 k) (hi : Z.I64 i0) (hsz : s.size ≤ maxLen) (many : Int) (wm : (Lit.int .u16 many).wf = true) :
    Calls Try.prog 6 #[.agg #[.int .i64 k, .int .i64 i0, .string s], .int .u16 many] w fun e w' => e = .returned (.bool true) ∧ Below w.heap.size w w' := by
  have h1 := wf_u16 wm
  obtain ⟨h0, h1⟩ := h1
  have HA := hide (At.new w k i0 s)
  have b0 := hide (below_one w (.cells #[.int .i64 k, .int .i64 i0, .string s] 47))
  obtain ⟨N, hN⟩ : ∃ N : Nat, many.tmod 5000 = (N : Int) := ⟨(many % 5000).toNat, by rw [Int.tmod_eq_emod_of_nonneg h0]; omega⟩
  have hN5 : N < 5000 := by rw [Int.tmod_eq_emod_of_nonneg h0] at hN; omega
  have HI := hide hi
  clear wm hk hi hsz
  go_enter Try.func6, Try.ntmps6
  go_wp2_with fail
  refine (rshown_any _).mono ?_
  rintro e w1 ⟨rfl, hb⟩
  have hsz1 := (bthen b0.out hb).size
  have HZ1 : Hid (w.heap.size < w1.heap.size) := by have := hb.size; simp at this; show _ < _; omega
  replace b0 := hide (bthen b0.out hb)
  replace HA := hide (HA.out.below hb)
  clear hb
  go_wp2_with fail
  clear hN h0 h1
  go_loopw [7, 8] (fun v i wr => ∃ j : Nat, j ≤ N ∧ i = .int .i64 j ∧ Hid (OwnV wr w1.heap.size v (List.replicate j ⟨k, i0, s⟩)) ∧ Hid (At wr w.heap.size k i0 s) ∧ Hid (Below w.heap.size w wr) ∧ Hid (w1.heap.size ≤ wr.heap.size)) (fun _ i _ => N - (intOf i).toNat)
  case atStart => exact ⟨0, Nat.zero_le _, rfl, hide (World.ownsRow_nil _ _ _ _), HA, b0, hide (Nat.le_refl _)⟩
  case round =>
    obtain ⟨j, hj, rfl, hrow, hA, hbw, hsz⟩ := hrel
    by_cases hjl : j < N
    · obtain ⟨a0, a1, a2⟩ := hA.out.cells
      have b1 := below_one wr (.cells #[.int .i64 k, .int .i64 i0, .string s] 47)
      have hs1 := hsz.out
      have HB1 := hide (bthen hbw.out b1)
      have HR2 := hide (hrow.out.below b1)
      have HA2 := hide (hA.out.below b1)
      clear b1
      go_wp2_with (at_builtin; refine wpList_appV rfl _ _ rfl w1.heap.size u7 (List.replicate j ⟨k, i0, s⟩) rfl HR2.out (some ⟨wr.heap.size, 0, none⟩) 1 1 [⟨k, i0, s⟩] rfl (slV_one wr k i0 s) (by simp; omega) (by simp; omega) ?_)
      intro v4 w4 ho4 has _
      have hz4 := has.1.size
      have hb4 : Below w.heap.size w w4 := HB1.out.trans (has.below HB1.out.size (fun g hg => by have := (owns_lt HR2.out hg).1; have := HZ1.out; omega))
      have hA4 : At w4 w.heap.size k i0 s := (has.1.block _ (lt_of_block HA2.out) (fun e => by have := (owns_lt HR2.out e).1; have := HZ1.out; omega)).trans HA2.out
      rw [show List.replicate j (⟨k, i0, s⟩ : Z.V) ++ [⟨k, i0, s⟩] = List.replicate (j + 1) ⟨k, i0, s⟩ from List.replicate_succ'.symm] at ho4
      have HO4 := hide ho4
      have HB4 := hide hb4
      have HA4 := hide hA4
      have HZ4 : Hid (w1.heap.size ≤ w4.heap.size) := by simp at hz4; show _ ≤ _; omega
      clear ho4 hb4 has hA4 hz4
      go_wp2
      go_roundw
      case rel => exact ⟨j + 1, hjl, by go_num, HO4, HA4, HB4, HZ4⟩
      case measure => simp [intOf]; omega
    · obtain rfl : j = N := by omega
      obtain ⟨a0, a1, a2⟩ := hA.out.cells
      obtain ⟨la, lc, hv, hsl, _⟩ := SlV.of_own hrow.out
      rw [List.length_replicate] at hv hsl
      have b1 := below_one wr (.cells #[.int .i64 k, .int .i64 i0, .string s] 47)
      have HC := hide (rlbytes_any (some ⟨wr.heap.size, 0, none⟩) 1 1 [⟨k, i0, s⟩] k _ (slV_one wr k i0 s) (by intro x hx; simp at hx; rw [hx]; exact HI.out))
      have HB1 := hide (bthen hbw.out b1)
      have HS1 := hide (hsl.below b1)
      have HA1 := hide (hA.out.below b1)
      obtain ⟨c0, c1, c2⟩ := HA1.out.cells
      rw [hv]
      clear b1 hsl hv hrow hsz
      go_wp2_with fail
      refine HC.out.mono ?_
      rintro e w2 ⟨qa, qc, rfl, _, hb2⟩
      have HB2 := hide (bthen HB1.out hb2)
      have HS2 := hide (HS1.out.below hb2)
      have HA2 := hide (HA1.out.below hb2)
      have HD := hide (rlbytes_any la j lc (List.replicate j ⟨k, i0, s⟩) k w2 HS2.out (by intro x hx; rw [(List.mem_replicate.1 hx).2]; exact HI.out))
      obtain ⟨X, hX⟩ : ∃ X, Z.chk [⟨k, i0, s⟩] k = X := ⟨_, rfl⟩
      obtain ⟨p, hp⟩ : ∃ p, (Z.rcb [⟨k, i0, s⟩] k).length = p := ⟨_, rfl⟩
      rw [hX, hp]
      have HX := hide hX
      have HP := hide hp
      clear hb2 HC HS1 HA1 a0 a1 a2 c0 c1 c2 hX hp
      obtain ⟨a0, a1, a2⟩ := HA2.out.cells
      go_wp2_with fail
      refine HD.out.mono ?_
      rintro e w3 ⟨ra, rc, rfl, _, hb3⟩
      have HB3 := hide (bthen HB2.out hb3)
      obtain ⟨Y, hY⟩ : ∃ Y, Z.chk (List.replicate j ⟨k, i0, s⟩) k = Y := ⟨_, rfl⟩
      obtain ⟨q, hq⟩ : ∃ q, (Z.rcb (List.replicate j ⟨k, i0, s⟩) k).length = q := ⟨_, rfl⟩
      rw [hY, hq]
      have HY := hide hY
      have HQ := hide hq
      clear hb3 HD a0 a1 a2 hY hq
      by_cases hj0 : j = 0
      · subst hj0
        go_wp2
        go_ret
        exact ⟨rfl, HB3.out⟩
      · have hjb : ((j : Int) == 0) = false := by simpa using hj0
        by_cases hX0 : X = 0
        · subst hX0
          by_cases hj4 : 4096 < j
          · obtain rfl : Y = 2 := by rw [← HY.out]; exact chk_rep_many HX.out hj4
            go_wp2
            go_ret
            exact ⟨rfl, HB3.out⟩
          · obtain rfl : Y = 0 := by rw [← HY.out]; exact chk_rep HX.out (by omega)
            have h1 := leb_two (n := 1) (by omega)
            have h2 := leb_two (n := j) (by omega)
            have e1 : p = (E.leb 1).length + (Z.lb ⟨k, i0, s⟩).length := by
              rw [← HP.out, ← rep_one, rcb_rep (by omega) (by rw [rep_one]; exact HX.out), List.length_append]
            have e2 : q = (E.leb j).length + (Z.lb ⟨k, i0, s⟩).length := by
              rw [← HQ.out, rcb_rep (by omega) HY.out, List.length_append]
            have e3 : (E.leb 1).length = 1 := by decide
            have hlb := lb_le (x := ⟨k, i0, s⟩) HI.out ((chk_zero HX.out).2.2.2 _ (by simp))
            have g1 : p ≤ q := by omega
            have g2 : q ≤ p + 1 := by omega
            have g3 : p ≤ 2000 := by omega
            have g4 : decide ((q : Int) ≤ (p : Int) + 1) = true := by simp; omega
            clear h1 h2 e1 e2 e3 hlb
            go_wp2
            go_ret
            exact ⟨rfl, HB3.out⟩
        · have hXb : (X != 0) = true := by simpa using hX0
          clear hX0
          go_wp2
          go_ret
          exact ⟨rfl, HB3.out⟩
end Go.Proofs.Ytfggfmcbinhigaa

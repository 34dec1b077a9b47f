/- The bits of words, told one by one: by a table whose bytes may be whatever they are. -/
import Derived.Test.YtlbchdlokimpfaaB4
namespace Go.Proofs.Ytlbchdlokimpfaa
set_option linter.unusedVariables false
set_option maxRecDepth 10000
open Go.RowKit
attribute [local go_sem] Oper.semAt_some

/-- The table that a word's lowest bit is looked up in holds these bytes. -/
def TabAt (w : World) (tb : Nat → Int) : Prop := 0 < w.heap.size ∧ ∀ i, i < 64 → w.cell? ⟨0, i, none⟩ = some (.int .u8 (tb i))
theorem TabAt.below {w w' : World} {tb : Nat → Int} (h : TabAt w tb) (hb : Below w.heap.size w w') : TabAt w' tb := ⟨Nat.lt_of_lt_of_le h.1 hb.size, fun i hi => by rw [hb.cell (p := ⟨0, i, none⟩) h.1]; exact h.2 i hi⟩
/-- The place in the table for a word. -/
def Z.ix (x : Nat) : Int := IntKind.u64.wrap (bits BinOp.and IntKind.u64 (x : Int) (IntKind.u64.wrap (-(x : Int))) * 285870213051353865) / 288230376151711744
theorem ix_lt (x : Nat) : 0 ≤ Z.ix x ∧ Z.ix x < 64 := by
  unfold Z.ix
  rw [IntKind.wrap_u64]
  omega
/-- What is told of a word. -/
def Z.tz (tb : Nat → Int) (x : Nat) : Int := wrap64 (tb (Z.ix x).toNat)
set_option maxHeartbeats 1000000 in
theorem tz_any (tb : Nat → Int) (x : Nat) (h0 : 0 < x) (hx : x < 18446744073709551616) (w : World) (h : TabAt w tb) :
    Calls Try.prog 82 #[.int .u64 (x : Int)] w fun e w' => e = .returned (.int .i64 (Z.tz tb x)) ∧ w' = w := by
  have hd : ((x : Int) == 0) = false := by simp; omega
  obtain ⟨i1, i2⟩ := ix_lt x
  have hc := h.2 (Z.ix x).toNat (by omega)
  unfold Z.tz
  obtain ⟨t, ht⟩ : ∃ t, tb (Z.ix x).toNat = t := ⟨_, rfl⟩
  rw [ht] at hc ⊢
  clear h ht hx h0
  unfold Z.ix at i1 i2 hc
  go_enter Try.func82, Try.ntmps82
  go_wp2_with fail
  go_ret
  exact ⟨rfl, rfl⟩

theorem bl_mono (T : Nat → Int) (ws : List Nat) : ∀ d k, (Z.bl T ws k).length ≤ (Z.bl T ws (k + d)).length
  | 0, k => Nat.le_refl _
  | d + 1, k => by
    refine Nat.le_trans (bl_mono T ws d k) ?_
    rw [← Nat.add_assoc, Z.bl, List.length_append]
    omega
theorem bl_part {T : Nat → Int} {ws : List Nat} {k len x0 : Nat} (hx : ws.getD k 0 = x0) (hk : k < len) : (Z.bl T ws k).length + (Z.bn T ((k : Int) * 64) 64 x0).length ≤ (Z.bl T ws len).length := by
  have h := bl_mono T ws (len - (k + 1)) (k + 1)
  rw [show k + 1 + (len - (k + 1)) = len by omega, Z.bl, List.length_append, hx] at h
  exact h
set_option maxHeartbeats 2000000 in
theorem binumsC_gives (tb : Nat → Int) (ao : Option Addr) (len cap : Nat) (ws : List Nat) (hm : len ≤ 16777216) (hws : ∀ k, ws.getD k 0 < 18446744073709551616) (w : World) (ht : TabAt w tb) (h : Sl w .u64 ao len cap (Z.is ws)) :
    Gives (.func (.func 81) #[] #[.pointer (some ⟨w.heap.size, 0, none⟩)]) (w.alloc (.cells #[.slice ao len cap] 79)) (Z.bl (Z.tz tb) ws len) := by
  obtain ⟨w2, hw2⟩ : ∃ w2, w.alloc (.cells #[.slice ao len cap] 79) = w2 := ⟨_, rfl⟩
  have c1 : w2.cell? ⟨w.heap.size, 0, none⟩ = some (.slice ao len cap) := by rw [← hw2]; exact (Boxed.new w 79 (.slice ao len cap)).cell
  have hsz : w2.heap.size = w.heap.size + 1 := by rw [← hw2]; simp
  have hb2 : Below w.heap.size w w2 := by rw [← hw2]; exact below_one w _
  rw [hw2]
  clear hw2
  refine ⟨_, _, w2.heap.size, rfl, Nat.le_refl _, enters_of Try.func81 (by kernel_rfl) rfl, fun q J Jx W hW hJ hJx hY h0 => ?_⟩
  have hc1 : W.cell? ⟨w.heap.size, 0, none⟩ = some (.slice ao len cap) := by rw [hW.cell (p := ⟨w.heap.size, 0, none⟩) (by simp; omega)]; exact c1
  have HC : Hid (∀ wr, Below w2.heap.size W wr → ∀ k, k < len → ∃ b off, ao = some ⟨b, off, none⟩ ∧ wr.cell? ⟨b, off + k, none⟩ = some (.int .u64 ((ws.getD k 0 : Nat) : Int))) := fun wr hr k hk => by
    rcases h.2.2.2.2 with h5 | ⟨b, off, rfl, hlt, h5⟩
    · omega
    · refine ⟨b, off, rfl, ?_⟩
      rw [hr.cell (p := ⟨b, off + k, none⟩) (by simp; omega), hW.cell (p := ⟨b, off + k, none⟩) (by simp; omega), hb2.cell (p := ⟨b, off + k, none⟩) hlt]
      have h6 := h5 k hk
      have e : (Z.is ws).getD k 0 = ((ws.getD k 0 : Nat) : Int) := by
        have hl : ws.length = len := by have := h.1; simpa [Z.is] using this
        simp [Z.is, List.getD, hl, hk]
      rw [← e]; exact h6
  have HT : Hid (∀ wr, Below w2.heap.size W wr → TabAt wr tb) := fun wr hr => ⟨by have := hr.size; have := hW.size; omega, fun i hi => by
    rw [hr.cell (p := ⟨0, i, none⟩) (by simp; omega), hW.cell (p := ⟨0, i, none⟩) (by simp; omega), hb2.cell (p := ⟨0, i, none⟩) ht.1]
    exact ht.2 i hi⟩
  have HY := hide hY
  have HL := hide (show ws.length = len by have := h.1; simpa [Z.is] using this)
  have HW := hide hws
  clear hb2 hsz c1 hJ hJx hY hW h hws ht
  refine callsIn_of_wp Try.func81 rfl trivial ?_ rfl
  simp only [Try.ntmps81, List.size_toArray, List.length_cons, List.length_nil, Nat.reduceAdd, Nat.reduceSub, Array.replicate_succ, Array.replicate_zero, List.push_toArray, List.append_toArray, List.nil_append, List.cons_append]
  gi_wp2
  gi_loopw [7] (fun i wr => ∃ k : Nat, k ≤ len ∧ i = .int .i64 k ∧ J (Z.bl (Z.tz tb) ws k) wr ∧ Below w2.heap.size W wr)
    (fun i _ => len - (intOf i).toNat)
  case atStart => exact ⟨0, Nat.zero_le _, rfl, h0, Below.refl _ _⟩
  case round =>
    obtain ⟨k, hk, rfl, hJs, hnx⟩ := hrel
    by_cases hlt : k < len
    · obtain ⟨b, off, rfl, hc2⟩ := HC.out wr hnx k hlt
      have hx0 := HW.out k
      obtain ⟨x0, hx⟩ : ∃ x, ws.getD k 0 = x := ⟨_, rfl⟩
      rw [hx] at hc2 hx0
      have HX := hide hx
      clear hx
      have HP := hide (show (Z.bl (Z.tz tb) ws k).length + (Z.bn (Z.tz tb) ((k : Int) * 64) 64 x0).length ≤ (Z.bl (Z.tz tb) ws len).length from bl_part HX.out hlt)
      have HQ := hide (show Z.bl (Z.tz tb) ws (k + 1) = Z.bl (Z.tz tb) ws k ++ Z.bn (Z.tz tb) ((k : Int) * 64) 64 x0 by rw [Z.bl, HX.out])
      have hkk : (k : Int) < 16777216 := by omega
      gi_wp2
      gi_loopw [4] (fun i wr => ∃ (x f : Nat) (pre : List Int), i = .int .u64 (x : Int) ∧ x < 18446744073709551616 ∧ Z.pc 64 x ≤ f ∧ J (Z.bl (Z.tz tb) ws k ++ pre) wr ∧ Below w2.heap.size W wr ∧ Hid (Z.bn (Z.tz tb) ((k : Int) * 64) 64 x0 = pre ++ Z.bn (Z.tz tb) ((k : Int) * 64) f x))
        (fun i _ => (intOf i).toNat)
      case atStart => exact ⟨x0, 64, [], rfl, hx0, pc_le 64 x0, by rw [List.append_nil]; exact hJs, hnx, hide rfl⟩
      case round =>
        clear hJs hnx
        rename_i wr'
        obtain ⟨x, f, pre, rfl, hxl, hpf, hJs, hnx, HB⟩ := hrel
        by_cases hz : x = 0
        · subst hz
          gi_wp2
          go_roundw
          case rel => exact ⟨k + 1, by omega, by simp, by rw [HQ.out, HB.out, bn_zero, List.append_nil]; exact hJs, hnx⟩
          case measure => simp [intOf]; omega
        · have hxp : 0 < x := Nat.pos_of_ne_zero hz
          have htz := HT.out _ hnx
          have hne : ((x : Int) != 0) = true := by simp; omega
          obtain ⟨f, rfl⟩ : ∃ f', f = f' + 1 := ⟨f - 1, by have := pc_clear 64 x hxp hxl; omega⟩
          have hlen : (Z.bl (Z.tz tb) ws k ++ pre).length < (Z.bl (Z.tz tb) ws len).length := by
            have h1 := HP.out
            rw [HB.out, List.length_append, bn_step _ _ hz, List.length_cons] at h1
            rw [List.length_append]
            omega
          obtain ⟨fn, tmps, assign, body, hy, hR⟩ := HY.out _ (wrap64 ((k : Int) * 64 + Z.tz tb x)) _ hJs hlen
          try dsimp only at hy
          have hand := bits_and_u64_nat x (x - 1) hxl (by omega)
          have hxs : ((x - 1 : Nat) : Int) = (x : Int) - 1 := by omega
          rw [hxs] at hand
          clear hlen hxs
          gi_wp2
          refine ⟨trivial, callsIn_wide.2 ((tz_any tb x hxp hxl _ htz).mono ?_)⟩
          rintro e w3 ⟨rfl, rfl⟩
          gi_wp2
          refine hR.mono ?_
          rintro e W3 (⟨rfl, hJ4, hk4⟩ | ⟨rfl, hJx4⟩)
          · clear hy
            have hx1 : (1 : Int) ≤ (x : Int) := by omega
            have hx2 : (x : Int) < 18446744073709551616 := by omega
            gi_wp2
            refine ⟨⟨x &&& (x - 1), f, pre ++ [wrap64 ((k : Int) * 64 + Z.tz tb x)], rfl, Nat.lt_trans (clear_lt hxp) hxl, ?_, ?_, hnx.trans hk4, hide ?_⟩, ?_⟩
            · have := pc_clear 64 x hxp hxl; omega
            · rw [← List.append_assoc]; exact hJ4
            · rw [HB.out, bn_step _ _ hz, List.append_assoc]; rfl
            · simp only [intOf, Int.toNat_natCast]; exact clear_lt hxp
          · gi_wp2
            refine bodyPost_ret (results_none rfl _ _ _) rfl ?_
            exact ⟨⟨_, rfl⟩, .inr ⟨_, trivial, hJx4⟩⟩
    · obtain rfl : k = len := by omega
      gi_wp2
      go_end0
      exact ⟨⟨_, rfl⟩, .inl ⟨_, rfl, hJs⟩⟩
end Go.Proofs.Ytlbchdlokimpfaa

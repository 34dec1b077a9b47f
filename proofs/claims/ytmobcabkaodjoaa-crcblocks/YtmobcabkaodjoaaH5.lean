/- The contract of crc's together: parts, one behind the other, as new memory. -/
import Derived.Test.YtmobcabkaodjoaaH4
import Derived.Laws.CopyOwn
namespace Go.Proofs.Ytmobcabkaodjoaa
set_option linter.unusedVariables false
open Go.RowKit

/-- A part: where it lies, and its bytes. -/
structure Pt where
  a : Option Addr
  len : Nat
  cap : Nat
  l : List Nat
def Pt.v (p : Pt) : Value := .slice p.a p.len p.cap
def Parts (w : World) (b : Nat) (ps : List Pt) : Prop := b < w.heap.size ∧ ∀ i p, ps[i]? = some p → w.cell? ⟨b, i, none⟩ = some p.v ∧ Sl w .u8 p.a p.len p.cap (ints p.l)
def cat (ps : List Pt) : List Nat := ps.flatMap (·.l)
theorem cat_take (ps : List Pt) (k : Nat) (p : Pt) (h : ps[k]? = some p) : cat (ps.take (k + 1)) = cat (ps.take k) ++ p.l := by
  have hk := (List.getElem?_eq_some_iff.1 h).1
  rw [List.take_succ_eq_append_getElem hk, (List.getElem?_eq_some_iff.1 h).2]
  simp [cat]
theorem cat_le (ps : List Pt) (k : Nat) : (cat (ps.take k)).length ≤ (cat ps).length := by
  have : cat ps = cat (ps.take k) ++ cat (ps.drop k) := by
    unfold cat
    rw [← List.flatMap_append, List.take_append_drop]
  rw [this]; simp
theorem Parts.below {w w' : World} {b : Nat} {ps : List Pt} (h : Parts w b ps) (hb : Below w.heap.size w w') : Parts w' b ps :=
  ⟨by have := hb.size; have := h.1; omega, fun i p hp => ⟨by rw [hb.cell (p := ⟨b, i, none⟩) h.1]; exact (h.2 i p hp).1, (h.2 i p hp).2.below hb⟩⟩

/-- A row as it fills: the bytes, and zeros behind them. -/
def fill (l : List Nat) (n : Nat) : List Value := B8 l ++ List.replicate (n - l.length) (.int .u8 0)
theorem fill_length (l : List Nat) (n : Nat) (h : l.length ≤ n) : (fill l n).length = n := by simp [fill, B8_length]; omega
theorem fill_splice (l m : List Nat) (n : Nat) (h : l.length + m.length ≤ n) : splice (fill l n) l.length (B8 m) = fill (l ++ m) n := by
  unfold splice fill
  rw [B8_append, B8_length, List.take_append_of_le_length (by rw [B8_length]; exact Nat.le_refl _), List.take_of_length_le (by rw [B8_length]; exact Nat.le_refl _)]
  rw [List.drop_append, B8_length, List.drop_eq_nil_of_le (by rw [B8_length]; omega), List.nil_append, List.drop_replicate, List.append_assoc]
  congr 3
  rw [List.length_append]; omega
theorem fill_all (l : List Nat) : fill l l.length = B8 l := by simp [fill]
theorem made_u8 (n : Nat) : madeCells (Value.int .u8 0).cells (n * 1) = (fill [] n).toArray := by
  apply Array.ext_getElem?
  intro i
  simp only [fill, B8, List.map_nil, List.nil_append, List.length_nil, Nat.sub_zero, Nat.mul_one]
  by_cases hi : i < n
  · simp [madeCells, hi, Value.cells, Nat.mod_one]
  · simp [madeCells, hi]
theorem B8_one (l : List Nat) : ∀ v ∈ B8 l, v.oneCell' = true := by
  intro v hv
  obtain ⟨x, _, rfl⟩ := List.mem_map.1 hv
  rfl
theorem B8_src {w : World} {p : Pt} (h : Sl w .u8 p.a p.len p.cap (ints p.l)) (h0 : 0 < (B8 p.l).length) : ∃ ad, p.a = some ad ∧ ∀ j v, (B8 p.l)[j]? = some v → w.cell? (ad.add j) = some v := by
  have hn := h.news
  obtain ⟨h1, h2, h3, h4, h5⟩ := h
  rw [B8_length] at h0
  rw [ints_length] at h1
  rcases h5 with h5 | ⟨b, off, hao, hlt, h5⟩
  · omega
  · exact ⟨_, hao, fun j v hv => hn _ hao j v (by rw [← B8_ints]; exact hv)⟩

theorem Try.sizeU8 : (Try.prog.info? 5).map (·.size) = some 1 := by kernel_rfl

set_option maxHeartbeats 800000 in
theorem tog_any (b : Nat) (ps : List Pt) (cap : Nat) (w : World) (hp : Parts w b ps) (hps : ps.length ≤ 1000000) (hm : (cat ps).length ≤ 140737488355328) :
    Calls Try.prog 24 #[.slice (some ⟨b, 0, none⟩) ps.length cap] w fun e w' => e = .returned (.slice (some ⟨w.heap.size, 0, none⟩) (cat ps).length (cat ps).length) ∧ w'.heap[w.heap.size]? = some (.cells (B8 (cat ps)).toArray 5 (0, 0)) ∧ Below w.heap.size w w' := by
  obtain ⟨i0, hi, hz0, hz1, hz2⟩ := info_parts Try.infoU8
  obtain ⟨N, hN⟩ : ∃ N, ps.length = N := ⟨_, rfl⟩
  obtain ⟨T, hT⟩ : ∃ T, (cat ps).length = T := ⟨_, rfl⟩
  rw [hN] at hps ⊢
  rw [hT] at hm ⊢
  have HP := hide hp
  have HN := hide hN
  have HT := hide hT
  clear hp hN hT
  have hmk : ∀ (x : Int) (w : World), 0 ≤ x → x ≤ 140737488355328 → (Instr.makeSlice 22 (.int .i64 x) (.int .i64 x)).run Try.prog w = .ok (.slice (some ⟨w.heap.size, 0, none⟩) x.toNat x.toNat) (w.alloc (.cells (fill [] x.toNat).toArray 5)) := by
    intro x w h0 h1
    have := run_make (P := Try.prog) w 22 5 i0 (.int .u8 0) Try.underlying22 hi hz0 .i64 .i64 x x h0 (Int.le_refl _) (by rw [hz2]; omega) (by omega)
    rw [hz1, made_u8] at this
    exact this
  have HM := hide hmk
  clear hmk
  go_enter Try.func24, Try.ntmps24
  go_wp2_with fail
  go_loop [3, 12] (fun s i => ∃ (k : Nat) (x : Int), k ≤ N ∧ i = .int .i64 (k : Int) ∧ s = .int .i64 x ∧ 0 ≤ x ∧ x ≤ 140737488355328 ∧ Hid (x = (((cat (ps.take k)).length : Nat) : Int))) (fun _ i => N - (intOf i).toNat)
  case atStart => exact ⟨0, 0, by omega, rfl, rfl, by omega, by omega, hide rfl⟩
  case round =>
    obtain ⟨k, x, hk, rfl, rfl, hx0, hx1, HX⟩ := hrel
    by_cases hlt : k < N
    · obtain ⟨p, hpk⟩ : ∃ p, ps[k]? = some p := ⟨ps[k]'(by rw [HN.out]; exact hlt), by simp⟩
      obtain ⟨hc, hsl⟩ := HP.out.2 k p hpk
      have hle := cat_le ps (k + 1)
      rw [cat_take ps k p hpk, List.length_append, HT.out] at hle
      have hpl : p.l.length = p.len := by rw [← hsl.1, ints_length]
      have hc' : w.cell? ⟨b, 0 + k, none⟩ = some (.slice p.a p.len p.cap) := by rw [Nat.zero_add]; exact hc
      have hc2 : w.cell? ⟨b, k, none⟩ = some (.slice p.a p.len p.cap) := hc
      have hx2 : x + (p.len : Int) ≤ 140737488355328 := by rw [HX.out]; omega
      have HK := hide hpk
      have HPL := hide hpl
      clear hc hsl hle hpk hpl
      go_wp2
      go_round
      case rel => exact ⟨k + 1, x + (p.len : Int), by omega, by go_num, rfl, by omega, by omega, hide (by rw [cat_take ps k p HK.out, List.length_append, HX.out, HPL.out]; omega)⟩
      case measure => simp [intOf]; omega
    · obtain rfl : k = N := by omega
      obtain rfl : T = x.toNat := by
        have := HX.out
        rw [List.take_of_length_le (by have := HN.out; omega), HT.out] at this
        omega
      have hmx := fun w => HM.out x w hx0 hx1
      go_wp2_with fail
      have b0 := heap_alloc_new w (.cells (fill [] x.toNat).toArray 5)
      go_loopw [7, 25] (fun t i wr => ∃ (j : Nat) (y : Nat), j ≤ k ∧ i = .int .i64 (j : Int) ∧ t = .int .i64 (y : Int) ∧ (y : Int) ≤ x ∧ Hid (y = (cat (ps.take j)).length ∧ wr.heap[w.heap.size]? = some (.cells (fill (cat (ps.take j)) x.toNat).toArray 5 (0, 0)) ∧ Below w.heap.size w wr)) (fun _ i _ => k - (intOf i).toNat)
      case atStart => exact ⟨0, 0, by omega, rfl, rfl, by omega, hide ⟨rfl, b0, (Below.refl _ _).alloc (Nat.le_refl _) _⟩⟩
      case round =>
        obtain ⟨j, y, hj, rfl, rfl, hyx, HR⟩ := hrel
        clear b0 hmx
        by_cases hlt2 : j < k
        · obtain ⟨p, hpk⟩ : ∃ p, ps[j]? = some p := ⟨ps[j]'(by rw [HN.out]; exact hlt2), by simp⟩
          have hP2 := HP.out.below HR.out.2.2
          obtain ⟨hc, hsl⟩ := hP2.2 j p hpk
          have hle := cat_le ps (j + 1)
          rw [cat_take ps j p hpk, List.length_append, HT.out, ← HR.out.1] at hle
          have hpl : p.l.length = p.len := by rw [← hsl.1, ints_length]
          have hc' : wr.cell? ⟨b, 0 + j, none⟩ = some (.slice p.a p.len p.cap) := by rw [Nat.zero_add]; exact hc
          have hc2 : wr.cell? ⟨b, j, none⟩ = some (.slice p.a p.len p.cap) := hc
          have HK := hide hpk
          have HPL := hide hpl
          have HSL := hide hsl
          obtain ⟨cs, hcs⟩ : ∃ cs, B8 p.l = cs := ⟨_, rfl⟩
          have HCS := hide hcs
          have hcl : cs.length = p.len := by rw [← hcs, B8_length, hpl]
          have HCL := hide hcl
          have hfit : (y : Int) + (p.len : Int) ≤ x := by omega
          have HF := hide hfit
          have HFL := hide (fill_length (cat (ps.take j)) x.toNat (by rw [← HR.out.1]; omega))
          have HSP : Hid (splice (fill (cat (ps.take j)) x.toNat) y cs = fill (cat (ps.take (j + 1))) x.toNat) := hide (by
            rw [cat_take ps j p hpk, HR.out.1, ← hcs]
            exact fill_splice _ _ _ (by rw [← HR.out.1, hpl]; omega))
          have HY : Hid (y + p.len = (cat (ps.take (j + 1))).length) := hide (by rw [cat_take ps j p hpk, List.length_append, ← HR.out.1, hpl])
          clear hc hsl hle hpk hpl hcs hcl hP2
          by_cases hyT : (y : Int) = x
          · have hp0 : p.len = 0 := by omega
            go_wp2_with (guard_target =~ wpList _ _ _ ((⟨some 34, _, _, _, _, _⟩ : Oper) :: _) _ _; refine wpList_copy_splice rfl (.tmp 32) (.tmp 33) 22 22 rfl 5 Try.underlying22 Try.sizeU8 _ _ _ _ _ _ rfl rfl w.heap.size y (fill (cat (ps.take j)) x.toNat) 5 HR.out.2.1 cs ?hn ?hpos ?hfit ?h1 w.heap.size w HR.out.2.2 (Nat.le_refl _) ?_)
            case hn => rw [HCL.out, hp0]; simp
            case hpos => intro h; rw [HCL.out] at h; omega
            case hfit => rw [HFL.out, HCL.out]; omega
            case h1 => rw [← HCS.out]; exact B8_one _
            intro w2 HG2 hB2
            rw [HCL.out]
            go_wp2
            go_roundw
            case rel => exact ⟨j + 1, y + p.len, by omega, by go_num, by go_num, by omega, hide ⟨HY.out, by rw [← HSP.out]; exact HG2.out, hB2⟩⟩
            case measure => simp [intOf]; omega
          · go_wp2_with (guard_target =~ wpList _ _ _ ((⟨some 34, _, _, _, _, _⟩ : Oper) :: _) _ _; refine wpList_copy_splice rfl (.tmp 32) (.tmp 33) 22 22 rfl 5 Try.underlying22 Try.sizeU8 _ _ _ _ _ _ rfl rfl w.heap.size y (fill (cat (ps.take j)) x.toNat) 5 HR.out.2.1 cs ?hn ?hpos ?hfit ?h1 w.heap.size w HR.out.2.2 (Nat.le_refl _) ?_)
            case hn => rw [HCL.out]; show _ = min _ _; omega
            case hpos => intro h; rw [← HCS.out] at h ⊢; first | exact B8_src HSL.out h | exact ⟨rfl, B8_src HSL.out h⟩
            case hfit => rw [HFL.out, HCL.out]; omega
            case h1 => rw [← HCS.out]; exact B8_one _
            intro w2 HG2 hB2
            rw [HCL.out]
            go_wp2
            go_roundw
            case rel => exact ⟨j + 1, y + p.len, by omega, by go_num, by go_num, by omega, hide ⟨HY.out, by rw [← HSP.out]; exact HG2.out, hB2⟩⟩
            case measure => simp [intOf]; omega
        · obtain rfl : j = k := by omega
          have HE : Hid (wr.heap[w.heap.size]? = some (.cells (B8 (cat ps)).toArray 5 (0, 0))) := hide (by
            have := HR.out.2.1
            rw [List.take_of_length_le (by have := HN.out; omega), ← HT.out, fill_all] at this
            exact this)
          go_wp2
          go_ret
          exact ⟨rfl, HE.out, HR.out.2.2⟩
end Go.Proofs.Ytmobcabkaodjoaa

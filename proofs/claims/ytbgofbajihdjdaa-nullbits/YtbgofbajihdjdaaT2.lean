/- The places that are not nothing, told by a function that is ranged over; how many are nothing. -/
import Derived.Test.YtbgofbajihdjdaaTB
import Derived.Test.YtbgofbajihdjdaaT0
namespace Go.Proofs.Ytbgofbajihdjdaa
set_option linter.unusedVariables false
open Go.RowKit
attribute [local go_sem] Oper.semAt_some

/-- The places below k that are not nothing, in turn. -/
def plc (bs : List Bool) (len : Nat) : Nat → List { i : Nat // i < len }
  | 0 => []
  | k + 1 => if h : k < len then (if bs.getD k false = true then plc bs len k else plc bs len k ++ [⟨k, h⟩]) else plc bs len k
theorem plc_yes (bs : List Bool) (len k : Nat) (h : k < len) (hb : bs.getD k false = true) : plc bs len (k + 1) = plc bs len k := by
  simp only [plc, dif_pos h, if_pos hb]
theorem plc_no (bs : List Bool) (len k : Nat) (h : k < len) (hb : bs.getD k false = false) : plc bs len (k + 1) = plc bs len k ++ [⟨k, h⟩] := by
  simp only [plc, dif_pos h, hb, Bool.false_eq_true, if_false]
theorem plc_mono (bs : List Bool) (len : Nat) : ∀ d k, (plc bs len k).length ≤ (plc bs len (k + d)).length
  | 0, k => Nat.le_refl _
  | d + 1, k => by
    refine Nat.le_trans (plc_mono bs len d k) ?_
    rw [← Nat.add_assoc]
    by_cases h : k + d < len
    · cases hb : bs.getD (k + d) false with
      | true => rw [plc_yes bs len _ h hb]; exact Nat.le_refl _
      | false => rw [plc_no bs len _ h hb]; simp
    · simp [plc, h]
theorem plc_lt (bs : List Bool) (len k : Nat) (h : k < len) (hb : bs.getD k false = false) : (plc bs len k).length < (plc bs len len).length := by
  have h1 := plc_mono bs len (len - (k + 1)) (k + 1)
  rw [show k + 1 + (len - (k + 1)) = len by omega, plc_no bs len k h hb] at h1
  simp at h1
  omega

set_option maxRecDepth 100000 in
set_option maxHeartbeats 2000000 in
theorem there1_some (l Bs n₀ b off len cap : Nat) (bs : List Bool) (hm : len ≤ 140737488355328) (hb : b < n₀) (J Jx : List { i : Nat // i < len } → World → Prop)
    (hY : ∀ pre x W, J pre W → pre.length < (plc bs len len).length → YieldAt Fence.wide 7 Try.prog l #[.int .i64 ((x.1 : Nat) : Int)] W fun e W' =>
      (e = .returned (.bool true) ∧ J (pre ++ [x]) W' ∧ Below n₀ W W') ∨ (e = .returned (.bool false) ∧ Jx (pre ++ [x]) W'))
    (W : World) (hBs : W.cell? ⟨Bs, 0, none⟩ = some (.slice (some ⟨b, off, none⟩) len cap)) (hc : ∀ i, i < len → W.cell? ⟨b, off + i, none⟩ = some (.bool (bs.getD i false))) (h0 : J [] W) :
    CallsIn Fence.wide 8 Try.prog 29 #[.func (.yield l) #[] #[], .pointer (some ⟨Bs, 0, none⟩)] W fun e W' => (∃ v, e = .returned v) ∧
      ((∃ ys, ys = plc bs len len ∧ J ys W') ∨ (∃ pre, True ∧ Jx pre W')) := by
  refine callsIn_of_wp Try.func29 rfl trivial ?_ rfl
  simp only [Try.ntmps29, List.size_toArray, List.length_cons, List.length_nil, Nat.reduceAdd, Nat.reduceSub, Array.replicate_succ, Array.replicate_zero, List.push_toArray, List.append_toArray, List.nil_append, List.cons_append]
  have HC := hide hc
  clear hc
  gi_wp2
  gi_loopw [7] (fun i wr => ∃ k : Nat, k ≤ len ∧ i = .int .i64 k ∧ J (plc bs len k) wr ∧ Below n₀ W wr)
    (fun i _ => len - (intOf i).toNat)
  case atStart => exact ⟨0, Nat.zero_le _, rfl, h0, Below.refl _ _⟩
  case round =>
    obtain ⟨k, hk, rfl, hJs, hnx⟩ := hrel
    by_cases hlt : k < len
    · obtain ⟨c, hcb⟩ : ∃ c, bs.getD k false = c := ⟨_, rfl⟩
      have hcx : wr.cell? ⟨b, off + k, none⟩ = some (.bool c) := by rw [hnx.cell (p := ⟨b, off + k, none⟩) hb, HC.out k hlt, hcb]
      replace hcb := hide hcb
      cases c with
      | true =>
        gi_wp2
        refine ⟨fun _ h => trivial, ?_⟩
        gi_wp2
        go_roundw
        case rel => exact ⟨k + 1, by omega, by simp, by rw [plc_yes bs len k hlt hcb.out]; exact hJs, hnx⟩
        case measure => simp [intOf]; omega
      | false =>
        obtain ⟨fn, tmps, assign, body, hy, hR⟩ := hY _ ⟨k, hlt⟩ wr hJs (plc_lt bs len k hlt hcb.out)
        dsimp only at hy
        gi_wp2
        refine hR.mono ?_
        rintro e W3 (⟨rfl, hJ3, hk3⟩ | ⟨rfl, hJx3⟩)
        · gi_wp2
          go_roundw
          case rel => exact ⟨k + 1, by omega, by simp, by rw [plc_no bs len k hlt hcb.out]; exact hJ3, hnx.trans hk3⟩
          case measure => simp [intOf]; omega
        · gi_wp2
          refine bodyPost_ret (results_none rfl _ _ _) rfl ?_
          exact ⟨⟨_, rfl⟩, .inr ⟨_, trivial, hJx3⟩⟩
    · obtain rfl : k = len := by omega
      gi_wp2
      go_end0
      exact ⟨⟨_, rfl⟩, .inl ⟨_, rfl, hJs⟩⟩

set_option maxRecDepth 100000 in
set_option maxHeartbeats 1000000 in
theorem there1_none (l Bs : Nat) (len : Nat) (ao : Option Addr) (cap : Nat) (J : List { i : Nat // i < len } → World → Prop) (W : World) (hBs : W.cell? ⟨Bs, 0, none⟩ = some (.slice ao 0 cap)) (h0 : J [] W) :
    CallsIn Fence.wide 8 Try.prog 29 #[.func (.yield l) #[] #[], .pointer (some ⟨Bs, 0, none⟩)] W fun e W' => (∃ v, e = .returned v) ∧ J [] W' := by
  refine callsIn_of_wp Try.func29 rfl trivial ?_ rfl
  simp only [Try.ntmps29, List.size_toArray, List.length_cons, List.length_nil, Nat.reduceAdd, Nat.reduceSub, Array.replicate_succ, Array.replicate_zero, List.push_toArray, List.append_toArray, List.nil_append, List.cons_append]
  gi_wp2
  gi_loopw [7] (fun i wr => i = .int .i64 0 ∧ J [] wr) (fun _ _ => 0)
  case atStart => exact ⟨rfl, h0⟩
  case round =>
    obtain ⟨rfl, hJs⟩ := hrel
    gi_wp2
    go_end0
    exact ⟨⟨_, rfl⟩, hJs⟩

/-- What 'there' hands back tells the places that are not nothing, in turn; what lies below n₀ must be kept by each round. -/
theorem there_stops (Bs n₀ : Nat) (ao : Option Addr) (len cap : Nat) (bs : List Bool) (w : World) (hBs : Bs < w.heap.size) (hn₀ : n₀ ≤ w.heap.size) (hm : len ≤ 140737488355328)
    (hc : w.cell? ⟨Bs, 0, none⟩ = some (.slice ao len cap)) (hI : Sb w ao len cap bs) (hlow : ∀ x, ao = some x → len ≠ 0 → x.block < n₀) :
    SeqStopsK Fence.wide 8 Try.prog 29 #[.pointer (some ⟨Bs, 0, none⟩)] (fun x : { i : Nat // i < len } => #[Value.int .i64 ((x.1 : Nat) : Int)]) (Below n₀) (fun ys => ys = plc bs len len) (fun _ => True) (plc bs len len).length w := fun l J Jx W hW _ _ hY h0 => by
  have hc' := (hW.cell (p := ⟨Bs, 0, none⟩) hBs).trans hc
  rcases (hI.below hW).2.2.2.2 with h5 | ⟨b, off, rfl, hlt, h5⟩
  · subst h5
    exact (there1_none l Bs 0 ao cap J W hc' h0).mono fun e W' ⟨he, hj⟩ => ⟨he, .inl ⟨_, rfl, hj⟩⟩
  · by_cases h0' : len = 0
    · subst h0'
      exact (there1_none l Bs 0 _ cap J W hc' h0).mono fun e W' ⟨he, hj⟩ => ⟨he, .inl ⟨_, rfl, hj⟩⟩
    · exact there1_some l Bs n₀ b off len cap bs hm (hlow _ rfl h0') J Jx hY W hc' h5 h0

set_option maxHeartbeats 1000000 in
theorem there_any (ao : Option Addr) (len cap : Nat) (w : World) :
    Calls Try.prog 23 #[.slice ao len cap] w fun e w' => e = .returned (.func (.func 29) #[] #[.pointer (some ⟨w.heap.size, 0, none⟩)]) ∧ w' = w.alloc (.cells #[.slice ao len cap] 23) := by
  go_enter Try.func23, Try.ntmps23
  go_wp2
  go_ret
  exact ⟨rfl, rfl⟩

/-- How many are nothing. -/
def cntT (bs : List Bool) : Nat := bs.count true
theorem plc_count (bs : List Bool) : ∀ k, k ≤ bs.length → (plc bs bs.length k).length + cntT (bs.take k) = k
  | 0, _ => rfl
  | k + 1, h => by
    have ih := plc_count bs k (by omega)
    rw [take_snocB bs k h]
    cases hb : bs.getD k false with
    | true =>
      rw [plc_yes bs bs.length k h hb]
      simp [cntT] at ih ⊢
      omega
    | false =>
      rw [plc_no bs bs.length k h hb]
      simp [cntT] at ih ⊢
      omega
theorem plc_all (bs : List Bool) {len : Nat} (hl : bs.length = len) : (plc bs len len).length + cntT bs = len := by
  subst hl
  have := plc_count bs bs.length (Nat.le_refl _)
  rwa [List.take_length] at this

set_option maxRecDepth 100000 in
set_option maxHeartbeats 2000000 in
theorem zcount_any (ao : Option Addr) (len cap : Nat) (bs : List Bool) (w : World) (h : Sb w ao len cap bs) (hm : len ≤ 140737488355328) :
    Calls Try.prog 16 #[.slice ao len cap] w fun e w' => e = .returned (.int .i64 ((cntT bs : Nat) : Int)) ∧ Below w.heap.size w w' := by
  have HA := hide (plc_all bs h.1)
  have H := hide h
  have hlow : ∀ x, ao = some x → len ≠ 0 → x.block < w.heap.size := fun x hx h0 => by
    rcases h.2.2.2.2 with h5 | ⟨b, off, hao, hlt, h5⟩
    · exact absurd h5 h0
    · rw [hao] at hx; obtain rfl := Option.some.inj hx; exact hlt
  have HLOW := hide hlow
  clear h hlow
  refine calls_marks Try.func16 rfl ?_
  simp only [Try.ntmps16, List.size_toArray, List.length_cons, List.length_nil, Nat.reduceAdd, Nat.reduceSub, Array.replicate_succ, Array.replicate_zero, List.push_toArray, List.append_toArray, List.nil_append, List.cons_append]
  go_wp2_with fail
  refine (there_any _ _ _ _).mono ?_
  rintro e w1 ⟨rfl, rfl⟩
  go_wp2_with fail
  have bS := Boxed.new w 3 (.int .i64 (len : Int))
  have bN := Boxed.new (w.alloc (.cells #[.int .i64 (len : Int)] 3)) 23 (.slice ao len cap)
  rw [World.size_alloc] at bN
  have hB0 : Below w.heap.size w ((w.alloc (.cells #[.int .i64 (len : Int)] 3)).alloc (.cells #[.slice ao len cap] 23)) := ((Below.refl _ w).alloc (Nat.le_refl _) _).alloc (by simp) _
  refine (wpIn_wide (n := 9)).1 (wpIn_rangeFunc_ownG rfl (by decide) (gf := 29) (lb := #[.pointer (some ⟨w.heap.size + 1, 0, none⟩)]) rfl trivial (enters_of Try.func29 (by kernel_rfl) rfl)
    (there_stops (w.heap.size + 1) w.heap.size ao len cap bs _ (by simp) (by simp; omega) hm bN.cell (H.out.below hB0) HLOW.out) belowK_t (belowK_b (by simp; omega)) (Below.refl _ _) (fun _ => rfl)
    (fun pre W => Boxed W w.heap.size 3 (.int .i64 ((len : Int) - (pre.length : Int))) ∧ Below w.heap.size w W)
    (fun _ _ _ => False)
    (OwnFrom.and (Own.from (boxed_own w.heap.size 3 fun pre : List { i : Nat // i < len } => .int .i64 ((len : Int) - (pre.length : Int))) _) (ownFrom_below (Nat.le_refl _) (by simp; omega)))
    (fun _ _ _ _ _ hs _ _ => hs)
    ⟨by simpa using bS.alloc _, hB0⟩
    (fun x => { tmps := #[.slice ao len cap, undef, .int .i64 0, .pointer (some ⟨w.heap.size, 0, none⟩), .slice ao len cap, .int .i64 (len : Int), .slice ao len cap, .func (.func 29) #[] #[.pointer (some ⟨w.heap.size + 1, 0, none⟩)], .int .i64 ((x.1 : Nat) : Int), undef, undef, undef], defers := [] }) ?assign ?body ?done ?stop)
  case assign =>
    intro l x W K hK
    gi_wp2
    simpa using hK
  case body =>
    rintro l pre x W ⟨hbx, hB⟩ hlt
    have hc := hbx.cell
    have hf := hbx.frozen
    have hle : pre.length < len := by have := HA.out; omega
    have HBX := hide hbx
    have HB := hide hB
    clear hbx hB hlt
    gi_wp2
    exact ⟨(KeepsOthers.setCell _ _ _).from _, (Below.refl w.heap.size W).setCell (p := ⟨w.heap.size, 0, none⟩) (Nat.le_refl _) _, by
      have := HBX.out.set (.int .i64 ((len : Int) - (pre.length : Int) - 1))
      rw [show (len : Int) - ((pre ++ [x]).length : Int) = (len : Int) - (pre.length : Int) - 1 by simp; omega]
      exact this, HB.out.setCell (p := ⟨w.heap.size, 0, none⟩) (Nat.le_refl _) _⟩
  case done =>
    rintro D ys W hD rfl ⟨hbx, hB⟩ hK
    have he : (len : Int) - ((plc bs len len).length : Int) = ((cntT bs : Nat) : Int) := by have := HA.out; omega
    rw [he] at hbx
    have hc := hbx.cell
    go_wp2
    refine ⟨by simp, .inl ⟨_, _, rfl, run_takeDeferred hK, ?_⟩⟩
    exact ⟨_, results_tmp rfl _ _ _, rfl, hB.trans (belowK_b (w := w) (Nat.le_refl _) W D _ _ (by simp at hD; omega) hK rfl rfl)⟩
  case stop =>
    rintro D c pre W _ _ h _
    exact h.elim
end Go.Proofs.Ytbgofbajihdjdaa

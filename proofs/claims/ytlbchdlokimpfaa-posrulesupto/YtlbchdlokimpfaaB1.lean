/- What a function that is ranged over tells, and what a question answers, as contracts of values; the numbers that a question holds of. -/
import Derived.Test.YtlbchdlokimpfaaTB
import Derived.Test.YtlbchdlokimpfaaB0
namespace Go.Proofs.Ytlbchdlokimpfaa
set_option linter.unusedVariables false
set_option maxRecDepth 10000
open Go.RowKit
attribute [local go_sem] Oper.semAt_some

/-- A function value that, ranged over, tells some numbers. -/
def Gives (v : Value) (w : World) (ps : List Int) : Prop :=
  ∃ (g : Nat) (lb : Array Value) (n₀ : Nat), v = .func (.func g) #[] lb ∧ n₀ ≤ w.heap.size ∧ (∀ args w, (callFunc g args).run Try.prog w = .ok (.enter g args) w) ∧
    SeqStopsK Fence.wide 8 Try.prog g lb (fun x : Int => #[Value.int .i64 x]) (Below n₀) (fun ys => ys = ps) (fun _ => True) ps.length w
theorem Gives.below {v : Value} {w w' : World} {ps : List Int} (h : Gives v w ps) (hb : Below w.heap.size w w') : Gives v w' ps := by
  obtain ⟨g, lb, n₀, hv, hn, he, hs⟩ := h
  exact ⟨g, lb, n₀, hv, Nat.le_trans hn hb.size, he, fun l J Jx W hW h1 h2 h3 h4 => hs l J Jx W (hb.trans (hW.mono hb.size)) h1 h2 h3 h4⟩

/-- The same, where each number that is told is the next one. -/
def GivesR (v : Value) (w : World) (ps : List Int) : Prop :=
  ∃ (g : Nat) (lb : Array Value) (n₀ : Nat), v = .func (.func g) #[] lb ∧ n₀ ≤ w.heap.size ∧ (∀ args w, (callFunc g args).run Try.prog w = .ok (.enter g args) w) ∧
    ∀ (l : Nat) (J Jx : List Int → World → Prop) (W : World), Below w.heap.size w W → AbidesFrom W.heap.size J → AbidesFrom W.heap.size Jx →
      (∀ pre x W1, J pre W1 → pre ++ [x] <+: ps → YieldAt Fence.wide 7 Try.prog l #[Value.int .i64 x] W1 fun e W' =>
        (e = .returned (.bool true) ∧ J (pre ++ [x]) W' ∧ Below n₀ W1 W') ∨ (e = .returned (.bool false) ∧ Jx (pre ++ [x]) W')) →
      J [] W →
      CallsIn Fence.wide 8 Try.prog g (#[.func (.yield l) #[] #[]] ++ lb) W fun e W' => (∃ v, e = .returned v) ∧ ((∃ xs, xs = ps ∧ J xs W') ∨ (∃ pre, True ∧ Jx pre W'))
theorem GivesR.below {v : Value} {w w' : World} {ps : List Int} (h : GivesR v w ps) (hb : Below w.heap.size w w') : GivesR v w' ps := by
  obtain ⟨g, lb, n₀, hv, hn, he, hs⟩ := h
  exact ⟨g, lb, n₀, hv, Nat.le_trans hn hb.size, he, fun l J Jx W hW h1 h2 h3 h4 => hs l J Jx W (hb.trans (hW.mono hb.size)) h1 h2 h3 h4⟩
theorem prefix_lt {ps pre : List Int} {x : Int} (h : pre ++ [x] <+: ps) : pre.length < ps.length := by
  have := h.length_le
  simp at this
  omega
theorem GivesR.gives {v : Value} {w : World} {ps : List Int} (h : GivesR v w ps) : Gives v w ps := by
  obtain ⟨g, lb, n₀, hv, hn, he, hs⟩ := h
  exact ⟨g, lb, n₀, hv, hn, he, fun l J Jx W hW h1 h2 h3 h4 => hs l J Jx W hW h1 h2 (fun pre x W1 hj hp => h3 pre x W1 hj (prefix_lt hp)) h4⟩
theorem GivesR.sub {v : Value} {w : World} {ps : List Int} (h : GivesR v w ps) : ∃ (g : Nat) (lb : Array Value) (n₀ : Nat), v = .func (.func g) #[] lb ∧ n₀ ≤ w.heap.size ∧ (∀ args w, (callFunc g args).run Try.prog w = .ok (.enter g args) w) ∧
    SeqStopsK Fence.wide 8 Try.prog g lb (fun x : { x : Int // x ∈ ps } => #[Value.int .i64 x.1]) (Below n₀) (fun ys => ys.map (·.1) = ps) (fun _ => True) ps.length w := by
  obtain ⟨g, lb, n₀, hv, hn, he, hs⟩ := h
  refine ⟨g, lb, n₀, hv, hn, he, fun l J Jx W hW h1 h2 h3 h4 => ?_⟩
  refine (hs l (fun pre W => ∃ q : List { x : Int // x ∈ ps }, q.map (·.1) = pre ∧ J q W) (fun pre W => ∃ q : List { x : Int // x ∈ ps }, Jx q W) W hW
    (fun s A B row hj hg hr => by obtain ⟨q, hq, hj⟩ := hj; exact ⟨q, hq, h1 q A B row hj hg hr⟩)
    (fun s A B row hj hg hr => by obtain ⟨q, hj⟩ := hj; exact ⟨q, h2 q A B row hj hg hr⟩)
    (fun pre x W1 hj hp => ?_) ⟨[], rfl, h4⟩).mono ?_
  · obtain ⟨q, hq, hj⟩ := hj
    have hx : x ∈ ps := hp.subset (by simp)
    have hl : q.length < ps.length := by have := prefix_lt hp; rw [← hq] at this; simpa using this
    obtain ⟨fn, tmps, assign, body, hy, hR⟩ := h3 q ⟨x, hx⟩ W1 hj hl
    exact ⟨fn, tmps, assign, body, hy, hR.mono fun e W' hr => by
      rcases hr with ⟨he, hj, hk⟩ | ⟨he, hj⟩
      · exact .inl ⟨he, ⟨_, by rw [List.map_append, hq]; rfl, hj⟩, hk⟩
      · exact .inr ⟨he, _, hj⟩⟩
  · rintro e W' ⟨hv, ⟨xs, rfl, q, hq, hj⟩ | ⟨pre, _, q, hj⟩⟩
    · exact ⟨hv, .inl ⟨q, hq, hj⟩⟩
    · exact ⟨hv, .inr ⟨q, trivial, hj⟩⟩

/-- A function value that answers of each number below n whether it is one. -/
def Asks (v : Value) (w : World) (f : Nat → Bool) (n : Nat) : Prop :=
  ∃ (g : Nat) (bd cp : Array Value), v = .func (.func g) bd cp ∧ (∀ args w, (callFunc g args).run Try.prog w = .ok (.enter g args) w) ∧
    ∀ W, Below w.heap.size w W → ∀ k : Nat, k < n → Calls Try.prog g (bd.push (Value.int .i64 (k : Int)) ++ cp) W fun e W' => e = .returned (.bool (f k)) ∧ Below W.heap.size W W'
theorem Asks.below {v : Value} {w w' : World} {f : Nat → Bool} {n : Nat} (h : Asks v w f n) (hb : Below w.heap.size w w') : Asks v w' f n := by
  obtain ⟨g, bd, cp, hv, he, hs⟩ := h
  exact ⟨g, bd, cp, hv, he, fun W hW k hk => hs W (hb.trans (hW.mono hb.size)) k hk⟩

theorem below_grows {w w' : World} (h : Below w.heap.size w w') : w.grownBy w' none := ⟨h.os, h.tape, h.output, h.size, fun k hk _ => h.block k hk⟩

theorem those_any (n : Int) (f : Fn) (bd cp : Array Value) (w : World) :
    Calls Try.prog 33 #[.int .i64 n, .func f bd cp] w fun e w' => e = .returned (.func (.func 49) #[] #[.pointer (some ⟨w.heap.size, 0, none⟩), .pointer (some ⟨w.heap.size + 1, 0, none⟩)]) ∧ w' = (w.alloc (.cells #[.int .i64 n] 3)).alloc (.cells #[.func f bd cp] 55) := by
  go_enter Try.func33, Try.ntmps33
  go_wp2_with fail
  go_ret
  exact ⟨rfl, rfl⟩

theorem is_snoc (l : List Nat) (x : Nat) : Z.is (l ++ [x]) = Z.is l ++ [(x : Int)] := by simp [Z.is]
theorem ps_prefix (bs : List Bool) (k : Nat) : ∀ d, Z.ps bs k <+: Z.ps bs (k + d)
  | 0 => List.prefix_refl _
  | d + 1 => by
    refine (ps_prefix bs k d).trans ?_
    rw [← Nat.add_assoc]
    cases hc : bs.getD (k + d) false with
    | true => rw [ps_yes hc]; exact List.prefix_append _ _
    | false => rw [ps_no hc]; exact List.prefix_refl _
theorem is_prefix {bs : List Bool} {k : Nat} (hk : k < bs.length) (hb : bs.getD k false = true) : Z.is (Z.ps bs k) ++ [(k : Int)] <+: Z.is (Z.ls bs) := by
  have h := ps_prefix bs (k + 1) (bs.length - (k + 1))
  rw [show k + 1 + (bs.length - (k + 1)) = bs.length by omega, ps_yes hb] at h
  rw [← is_snoc]
  exact h.map _

set_option maxHeartbeats 1000000 in
theorem thoseC_gives (bs : List Bool) (hm : bs.length ≤ 4096) (g : Nat) (bd cp : Array Value) (w : World) (hA : Asks (.func (.func g) bd cp) w (fun k => bs.getD k false) bs.length) :
    GivesR (.func (.func 49) #[] #[.pointer (some ⟨w.heap.size, 0, none⟩), .pointer (some ⟨w.heap.size + 1, 0, none⟩)]) ((w.alloc (.cells #[.int .i64 (bs.length : Int)] 3)).alloc (.cells #[.func (.func g) bd cp] 55)) (Z.is (Z.ls bs)) := by
  obtain ⟨g', bd', cp', hv, he, hs⟩ := hA
  obtain ⟨rfl, rfl, rfl⟩ : g = g' ∧ bd = bd' ∧ cp = cp' := by simpa using hv
  obtain ⟨w2, hw2⟩ : ∃ w2, (w.alloc (.cells #[.int .i64 (bs.length : Int)] 3)).alloc (.cells #[.func (.func g) bd cp] 55) = w2 := ⟨_, rfl⟩
  have c1 : w2.cell? ⟨w.heap.size, 0, none⟩ = some (.int .i64 (bs.length : Int)) := by rw [← hw2]; exact ((Boxed.new w 3 (.int .i64 (bs.length : Int))).alloc _).cell
  have c2 : w2.cell? ⟨w.heap.size + 1, 0, none⟩ = some (.func (.func g) bd cp) := by
    rw [← hw2]
    have := (Boxed.new (w.alloc (.cells #[.int .i64 (bs.length : Int)] 3)) 55 (.func (.func g) bd cp)).cell
    rwa [World.size_alloc] at this
  have hsz : w2.heap.size = w.heap.size + 2 := by rw [← hw2]; simp
  have hb2 : Below w.heap.size w w2 := by rw [← hw2]; exact ((Below.refl _ w).alloc (Nat.le_refl _) _).alloc (by simp) _
  rw [hw2]
  clear hw2
  refine ⟨_, _, w2.heap.size, rfl, Nat.le_refl _, enters_of Try.func49 (by kernel_rfl) rfl, fun l J Jx W hW hJ hJx hY h0 => ?_⟩
  have HC1 : Hid (∀ wr, Below w2.heap.size W wr → wr.cell? ⟨w.heap.size, 0, none⟩ = some (.int .i64 (bs.length : Int))) := fun wr hr => by rw [hr.cell (p := ⟨w.heap.size, 0, none⟩) (by simp; omega), hW.cell (p := ⟨w.heap.size, 0, none⟩) (by simp; omega)]; exact c1
  have HC2 : Hid (∀ wr, Below w2.heap.size W wr → wr.cell? ⟨w.heap.size + 1, 0, none⟩ = some (.func (.func g) bd cp)) := fun wr hr => by rw [hr.cell (p := ⟨w.heap.size + 1, 0, none⟩) (by simp; omega), hW.cell (p := ⟨w.heap.size + 1, 0, none⟩) (by simp; omega)]; exact c2
  have HS : Hid (∀ wr, Below w2.heap.size W wr → ∀ k : Nat, k < bs.length → Calls Try.prog g (bd.push (Value.int .i64 (k : Int)) ++ cp) wr fun e W' => e = .returned (.bool (bs.getD k false)) ∧ Below wr.heap.size wr W') := fun wr hr k hk => hs wr (hb2.trans ((hW.trans hr).mono hb2.size)) k hk
  have HG := hide (show ∀ wr, Below w2.heap.size W wr → w2.heap.size ≤ wr.heap.size ∧ W.heap.size ≤ wr.heap.size from fun wr hr => ⟨Nat.le_trans hW.size hr.size, hr.size⟩)
  have HJ := hide hJ
  have HY := hide hY
  have HN := hide (show ∀ k, k < bs.length → bs.getD k false = true → Z.is (Z.ps bs k) ++ [(k : Int)] <+: Z.is (Z.ls bs) from fun k => is_prefix)
  have hc1 := HC1.out W (Below.refl _ _)
  obtain ⟨n, hn⟩ : ∃ n, bs.length = n := ⟨_, rfl⟩
  rw [hn] at hc1 HC1 HS HN hm
  have HE := hide hn
  clear hs hb2 hsz c1 c2 hJ hJx hY hW hn hv
  refine callsIn_of_wp Try.func49 rfl trivial ?_ rfl
  simp only [Try.ntmps49, List.size_toArray, List.length_cons, List.length_nil, Nat.reduceAdd, Nat.reduceSub, Array.replicate_succ, Array.replicate_zero, List.push_toArray, List.append_toArray, List.nil_append, List.cons_append]
  gi_wp2
  gi_loopw [6] (fun i wr => ∃ k : Nat, k ≤ n ∧ i = .int .i64 k ∧ J (Z.is (Z.ps bs k)) wr ∧ Below w2.heap.size W wr)
    (fun i _ => n - (intOf i).toNat)
  case atStart => exact ⟨0, Nat.zero_le _, rfl, h0, Below.refl _ _⟩
  case round =>
    obtain ⟨k, hk, rfl, hJs, hnx⟩ := hrel
    by_cases hlt : k < n
    · have hc2 := HC2.out wr hnx
      have hcall := HS.out wr hnx k hlt
      obtain ⟨c, hcb⟩ : ∃ c, bs.getD k false = c := ⟨_, rfl⟩
      rw [hcb] at hcall
      replace hcb := hide hcb
      have HCALL := hide hcall
      clear hcall
      cases c with
      | false =>
        gi_wp2
        refine ⟨trivial, callsIn_wide.2 (HCALL.out.mono ?_)⟩
        rintro e w3 ⟨rfl, hb3⟩
        have hnx3 := hnx.trans (hb3.mono (HG.out wr hnx).1)
        have hJ3 : J (Z.is (Z.ps bs k)) w3 := HJ.out _ _ _ none hJs (below_grows hb3) (fun r hr => by cases hr)
        clear hb3 hc2
        gi_wp2
        refine ⟨fun _ h => trivial, ?_⟩
        gi_wp2
        go_roundw
        case rel => exact ⟨k + 1, by omega, by simp, by rw [ps_no hcb.out]; exact hJ3, hnx3⟩
        case measure => simp [intOf]; omega
      | true =>
        gi_wp2
        refine ⟨trivial, callsIn_wide.2 (HCALL.out.mono ?_)⟩
        rintro e w3 ⟨rfl, hb3⟩
        have hnx3 := hnx.trans (hb3.mono (HG.out wr hnx).1)
        have hJ3 : J (Z.is (Z.ps bs k)) w3 := HJ.out _ _ _ none hJs (below_grows hb3) (fun r hr => by cases hr)
        obtain ⟨fn, tmps, assign, body, hy, hR⟩ := HY.out _ (k : Int) w3 hJ3 (HN.out k hlt hcb.out)
        clear hb3 hc2
        try dsimp only at hy
        gi_wp2
        refine hR.mono ?_
        rintro e W3 (⟨rfl, hJ4, hk4⟩ | ⟨rfl, hJx4⟩)
        · gi_wp2
          go_roundw
          case rel => exact ⟨k + 1, by omega, by simp, by rw [ps_yes hcb.out, is_snoc]; exact hJ4, hnx3.trans hk4⟩
          case measure => simp [intOf]; omega
        · gi_wp2
          refine bodyPost_ret (results_none rfl _ _ _) rfl ?_
          exact ⟨⟨_, rfl⟩, .inr ⟨_, trivial, hJx4⟩⟩
    · obtain rfl : k = n := by omega
      gi_wp2
      go_end0
      exact ⟨⟨_, rfl⟩, .inl ⟨_, rfl, by rw [ps_out (by rw [HE.out]; exact Nat.le_refl _)] at hJs; exact hJs⟩⟩
end Go.Proofs.Ytlbchdlokimpfaa

/- DictWords: words rise, each once; words of words are these; each value is one, and each word a value. Conditions: none. -/
import Derived.Test.YtmhfpipeoojacaaBdWP
import Derived.Test.YtmhfpipeoojacaaBdZC
namespace Go.Proofs.Ytmhfpipeoojacaa
set_option linter.unusedVariables false
set_option maxRecDepth 10000
open Go.RowKit Go.Sort
/-- Is one of the first ones the value? -/
def anyS (l : List Z.V) (x : Z.V) (k : Nat) : Bool := (l.take k).any fun y => Z.same y x
theorem anyS_succ {l : List Z.V} {x y : Z.V} {k : Nat} (h : l[k]? = some y) : anyS l x (k + 1) = (anyS l x k || Z.same y x) := by
  unfold anyS; rw [take_snocV h, List.any_append]; simp
theorem anyS_all {l : List Z.V} {x : Z.V} (h : x ∈ l) : anyS l x l.length = true := by
  unfold anyS; rw [List.take_length, List.any_eq_true]; exact ⟨x, h, Z.same_self x⟩
set_option maxHeartbeats 4000000 in
theorem dictWords_walk (w : World) (a : Option Addr) (len cap : Nat) (l : List Z.V) (h1 : SlV w a len cap l) (f1 : ∀ x ∈ l, Z.Wf x) (r1 : cap * 32 ≤ 140737488351232) :
    Calls Try.prog 6 #[.slice a len cap] w fun e w' => e = .returned (.bool true) ∧ Below w.heap.size w w' := by
  have b1 : len ≤ 140737488355328 := by have := h1.2.1; omega
  obtain rfl : len = l.length := h1.1.symm
  have H1 := hide h1
  have S1 : Hid (∀ x ∈ l, x.s.size ≤ 9223372036854775807) := fun x hx => (f1 x hx).2.2
  clear h1 f1
  go_enter Try.func6, Try.ntmps6
  go_wp2_with fail
  refine (dshown_any _).mono ?_
  rintro e w2 ⟨rfl, hb2⟩
  have HB2 := hide hb2
  clear hb2
  by_cases h60 : 200 < l.length
  · go_wp2
    go_ret
    exact ⟨rfl, HB2.out⟩
  · go_wp2_with fail
    refine (dfew_any a l.length cap l w2 (H1.out.below HB2.out) b1).mono ?_
    rintro e w3 ⟨q, rfl, hq, rfl⟩
    clear hq
    cases q with
    | false =>
      go_wp2
      go_ret
      exact ⟨rfl, HB2.out⟩
    | true =>
      go_wp2_with fail
      refine (words_some a l.length cap l _ (H1.out.below HB2.out) (by omega)).mono ?_
      rintro e w4 ⟨aw, nw, cw, rfl, hs4, _, hb4⟩
      have hwl := wds_len l
      obtain rfl : nw = (Z.wds l).length := hs4.1.symm
      obtain ⟨ws, hws⟩ : ∃ ws, Z.wds l = ws := ⟨_, rfl⟩
      have RI := hide (wds_rise l)
      have ME : Hid (∀ y ∈ Z.wds l, y ∈ l) := fun y hy => words_mem (words_of l) hy
      have HCD := hide (fun (w' : World) (hb : Below w4.heap.size w4 w') => codes_any aw cw (Z.wds l) a cap l w' (hs4.below hb) ((H1.out.below (HB2.out.trans (hb4.mono HB2.out.size))).below hb) (by omega) (by omega))
      have HB4 := hide (HB2.out.trans (hb4.mono HB2.out.size))
      have HS4 := hide hs4
      have EC : Hid (Z.cdE (Z.wds l) l = 0) := words_cdE l
      have EL : Hid ((ints (Z.cdL (Z.wds l) l)).length = l.length) := by show _ = _; rw [cdL_ok (words_cdE l)]; simp [ints]
      rw [hws] at hwl HS4 HCD RI ME EC EL ⊢
      have SW : Hid (∀ x ∈ ws, x.s.size ≤ 9223372036854775807) := fun x hx => S1.out x (ME.out x hx)
      clear hs4 hb4 hws
      go_wp2_with fail
      go_loopw [5] (fun i wr => ∃ j : Nat, 1 ≤ j ∧ i = .int .i64 j ∧ Hid (Below w4.heap.size w4 wr)) (fun i _ => ws.length - (intOf i).toNat)
      case atStart => exact ⟨1, Nat.le_refl _, rfl, hide (Below.refl _ _)⟩
      case round =>
        obtain ⟨j, hj, rfl, HQ⟩ := hrel
        by_cases hjl : j < ws.length
        · obtain ⟨r, hr⟩ : ∃ r, r + 1 = j := ⟨j - 1, by omega⟩
          have zr : (j : Int) - 1 = (r : Int) := by omega
          have hrz : (r : Int) < (ws.length : Int) := by omega
          have hr0 : (0 : Int) ≤ (r : Int) := by omega
          have hrt : ((r : Int)).toNat = r := by omega
          have rr : IntKind.i64.wrap (r : Int) = (r : Int) := by rw [IntKind.wrap_i64]; omega
          obtain ⟨b, off, xk, xi, xs, rfl, hx, d1, d2, d3⟩ := (HS4.out.below HQ.out).atP (j := r) (by omega)
          obtain ⟨b', off', yk, yi, ys, e, hy, e1, e2, e3⟩ := (HS4.out.below HQ.out).atP hjl
          obtain ⟨rfl, rfl⟩ : b = b' ∧ off = off' := by injection e with e; injection e with e1 e2 e3; exact ⟨e1, e2⟩
          have sx := SW.out _ (List.mem_of_getElem? hx)
          have sy := SW.out _ (List.mem_of_getElem? hy)
          have hlt := (rise_lt RI.out hx hy).1 (by omega)
          obtain ⟨c, hc⟩ : ∃ c, Z.cv ⟨xk, xi, xs⟩ ⟨yk, yi, ys⟩ = c := ⟨_, rfl⟩
          have CMP : Hid (∀ p : BBy wr, Calls Try.prog 19 #[.agg #[.int .i64 xk, .int .i64 xi, .string xs], .agg #[.int .i64 yk, .int .i64 yi, .string ys]] p.v fun e w' => e = .returned (.int .i64 c) ∧ Below p.v.heap.size p.v w') := fun p => by
            rw [← hc]; exact (ucompare_two xk xi xs yk yi ys p.v sx sy).mono fun _ _ h => h.below
          rw [hc] at hlt
          have inh : Nonempty (BBy wr) := ⟨⟨wr, Below.refl _ _⟩⟩
          have hge : decide (c ≥ 0) = false := decide_eq_false (by omega)
          have hge2 : decide (0 ≤ c) = false := decide_eq_false (by omega)
          clear e hx hy sx sy hc
          go_wp2_with fail
          refine region_below (by kernel_rfl) ?_
          repeat (quiet_step (first | (go_at_call 19; refine Calls.below_of (CMP.out _))))
          refine wpQuiet_nil ?_
          intro _ hw'
          obtain ⟨⟨w8, hb8⟩, hw''⟩ := hw'
          subst hw''
          have HQ2 := hide (HQ.out.trans (hb8.mono HQ.out.size))
          clear hb8 CMP d1 d2 d3 e1 e2 e3 HQ inh
          go_wp2
          go_roundw
          case rel => exact ⟨j + 1, by omega, by go_num, HQ2⟩
          case measure => simp [intOf]; omega
        · have hjz : ¬ (j : Int) < (ws.length : Int) := by omega
          go_wp2_with fail
          go_loopw [6] (fun i wr2 => ∃ t : Nat, t ≤ ws.length ∧ i = .int .i64 t ∧ Hid (Below w4.heap.size w4 wr2)) (fun i _ => ws.length - (intOf i).toNat)
          case atStart => exact ⟨0, Nat.zero_le _, rfl, HQ⟩
          case round =>
            clear HQ
            obtain ⟨t, ht, rfl, HQ⟩ := hrel
            by_cases htl : t < ws.length
            · obtain ⟨x, hx⟩ : ∃ x, ws[t]? = some x := ⟨ws[t], List.getElem?_eq_getElem htl⟩
              have HX := hide hx
              have HALL := hide (anyS_all (ME.out _ (List.mem_of_getElem? hx)))
              have HBW := hide (rise_blw RI.out hx (Z.cv_refl x))
              clear hx
              go_wp2_with fail
              go_loopw [7, 8] (fun f i wr3 => ∃ k : Nat, k ≤ l.length ∧ i = .int .i64 k ∧ f = .bool (anyS l x k) ∧ Hid (Below w4.heap.size w4 wr3)) (fun _ i _ => l.length - (intOf i).toNat)
              case atStart => exact ⟨0, Nat.zero_le _, rfl, rfl, HQ⟩
              case round =>
                clear HQ
                obtain ⟨k, hk, rfl, rfl, HQ⟩ := hrel
                by_cases hkl : k < l.length
                · cases hq : anyS l x k with
                  | true =>
                    have HN2 : Hid (anyS l x (k + 1) = true) := by
                      obtain ⟨y, hy⟩ : ∃ y, l[k]? = some y := ⟨l[k], List.getElem?_eq_getElem hkl⟩
                      show _ = _
                      rw [anyS_succ hy, hq]; rfl
                    clear hq
                    go_wp2_with fail
                    go_quiet (fail)
                    have HQ2 := hide (below_drewN HQ.out nq)
                    generalize wr.drewN nq = w9 at HQ2 ⊢
                    clear HQ nq
                    go_wp2
                    go_roundw
                    case rel => exact ⟨k + 1, by omega, by go_num, by rw [HN2.out], HQ2⟩
                    case measure => simp [intOf]; omega
                  | false =>
                    obtain ⟨b, off, xk, xi, xs, rfl, hlt, hy, d1, d2, d3⟩ := ((H1.out.below HB4.out).below HQ.out).at hkl
                    obtain ⟨b', off', yk, yi, ys, rfl, hlt', hz, e1, e2, e3⟩ := (HS4.out.below HQ.out).at htl
                    obtain rfl : x = ⟨yk, yi, ys⟩ := by have := HX.out; rw [hz] at this; exact (Option.some.inj this).symm
                    obtain ⟨f, hf⟩ : ∃ f, Z.same ⟨xk, xi, xs⟩ ⟨yk, yi, ys⟩ = f := ⟨_, rfl⟩
                    have HN2 : Hid (anyS l ⟨yk, yi, ys⟩ (k + 1) = f) := by show _ = _; rw [anyS_succ hy, hq, hf]; rfl
                    have hv := veq_run xk xi xs yk yi ys
                    rw [hf] at hv
                    clear hq hf hy hz
                    go_wp2_with fail
                    go_quiet (fail)
                    have HQ2 := hide (below_drewN HQ.out nq)
                    generalize wr.drewN nq = w9 at HQ2 ⊢
                    clear HQ nq d1 d2 d3 e1 e2 e3 hv
                    go_wp2
                    go_roundw
                    case rel => exact ⟨k + 1, by omega, by go_num, by rw [HN2.out], HQ2⟩
                    case measure => simp [intOf]; omega
                · obtain rfl : k = l.length := by omega
                  rw [HALL.out]
                  obtain ⟨b', off', yk, yi, ys, rfl, hlt', hz, e1, e2, e3⟩ := (HS4.out.below HQ.out).at htl
                  obtain rfl : x = ⟨yk, yi, ys⟩ := by have := HX.out; rw [hz] at this; exact (Option.some.inj this).symm
                  have HBL := hide (dbelow_any _ ws.length cw ws yk yi ys wr (HS4.out.below HQ.out) (by omega))
                  rw [HBW.out] at HBL
                  clear hz
                  go_wp2_with fail
                  refine Calls.mono HBL.out ?_
                  rintro e w9 ⟨rfl, hb9⟩
                  have HQ2 := hide (HQ.out.trans (hb9.mono HQ.out.size))
                  clear HQ hb9 e1 e2 e3 HBL
                  go_wp2
                  go_roundw
                  case rel => exact ⟨t + 1, by omega, by go_num, HQ2⟩
                  case measure => simp [intOf]; omega
            · go_wp2_with fail
              refine Calls.mono (HCD.out _ HQ.out) ?_
              rintro e w5 ⟨ac, nc, cc, rfl, hs5, hb5⟩
              rw [EC.out]
              obtain rfl : nc = l.length := by rw [← hs5.1]; exact EL.out
              have HQ5 := hide (HQ.out.trans (hb5.mono HQ.out.size))
              have HW5 := hide (words_some aw ws.length cw ws w5 (HS4.out.below HQ5.out) (by omega))
              clear hs5 hb5 HQ
              go_wp2_with fail
              refine Calls.mono HW5.out ?_
              rintro e w6 ⟨ax, nx, cx, rfl, hs6, _, hb6⟩
              rw [wds_self RI.out] at hs6
              obtain rfl : nx = ws.length := hs6.1.symm
              have HQ6 := hide (HQ5.out.trans (hb6.mono HQ5.out.size))
              have HSM := hide (vsame_yes ax aw ws.length cx cw ws w6 hs6 (HS4.out.below HQ6.out) (by omega))
              clear hs6 hb6 HQ5 HW5
              go_wp2_with fail
              refine Calls.mono HSM.out ?_
              rintro e w7 ⟨rfl, hb7⟩
              have FIN := hide (HB4.out.trans ((HQ6.out.trans (hb7.mono HQ6.out.size)).mono HB4.out.size))
              clear hb7 HSM
              go_wp2
              go_ret
              exact ⟨rfl, FIN.out⟩
end Go.Proofs.Ytmhfpipeoojacaa

/- delta's toSteps, toVals: a width and steps, of bytes; numbers, of steps. Conditions: fewer than 2^47 bytes. -/
import Derived.Test.YtkcpfgjkplailaaBdN
import Derived.Test.YtkcpfgjkplailaaBdO
import Derived.Test.YtkcpfgjkplailaaBdR
import Derived.Test.YtkcpfgjkplailaaBdT
import Derived.Test.YtkcpfgjkplailaaBdG
import Derived.Test.YtkcpfgjkplailaaBdX
import Derived.Test.YtkcpfgjkplailaaBdP
namespace Go.Proofs.Ytkcpfgjkplailaa
set_option linter.unusedVariables false
set_option maxRecDepth 10000
open Go.RowKit
/-- The steps that bytes tell, so many; what is wrong with them. -/
def Z.tS (m : Nat) (c : List Nat) : List Nat := (nums (c.drop (E.gK c)) m (E.gN c)).map Int.toNat
def Z.tN (m : Nat) (c : List Nat) : Nat := if E.gE c ≠ 0 then E.gE c else if 64 < E.gN c then 4 else if jb (c.drop (E.gK c)) (m * E.gN c) ≠ 0 then jb (c.drop (E.gK c)) (m * E.gN c) else if wid (ints (Z.tS m c)) ≠ E.gN c then 4 else 0
theorem fN_tN (n : Nat) (b : List Nat) : Z.fN n b = if E.gE b ≠ 0 then E.gE b else Z.tN (n - 1) (Z.fb b) := rfl
theorem fs_tS (n : Nat) (b : List Nat) : Z.fs n b = Z.tS (n - 1) (Z.fb b) := rfl
theorem tS_ints (m : Nat) (c : List Nat) : ints (Z.tS m c) = nums (c.drop (E.gK c)) m (E.gN c) := nums_nat' _ _ _
theorem tS_length (m : Nat) (c : List Nat) : (Z.tS m c).length = m := by unfold Z.tS; rw [List.length_map, nums_length]
theorem tS_lt {m : Nat} {c : List Nat} (hw : E.gN c ≤ 64) : ∀ s ∈ Z.tS m c, s < 18446744073709551616 := fun s hs => by
  obtain ⟨x, hx, rfl⟩ := List.mem_map.1 hs
  have := (In64_nums (c.drop (E.gK c)) m (E.gN c) hw).1 x hx
  omega
theorem tN_num {m : Nat} {c : List Nat} (h : E.gE c ≠ 0) : Z.tN m c = E.gE c := by unfold Z.tN; rw [if_pos h]
theorem tN_most {m : Nat} {c : List Nat} (h : E.gE c = 0) (h1 : 64 < E.gN c) : Z.tN m c = 4 := by unfold Z.tN; rw [if_neg (by omega), if_pos h1]
theorem tN_bits {m : Nat} {c : List Nat} (h : E.gE c = 0) (h1 : E.gN c ≤ 64) (h2 : jb (c.drop (E.gK c)) (m * E.gN c) ≠ 0) : Z.tN m c = jb (c.drop (E.gK c)) (m * E.gN c) := by unfold Z.tN; rw [if_neg (by omega), if_neg (by omega), if_pos h2]
theorem tN_just {m : Nat} {c : List Nat} (h : E.gE c = 0) (h1 : E.gN c ≤ 64) (h2 : jb (c.drop (E.gK c)) (m * E.gN c) = 0) (h3 : wid (ints (Z.tS m c)) ≠ E.gN c) : Z.tN m c = 4 := by unfold Z.tN; rw [if_neg (by omega), if_neg (by omega), if_neg (by omega), if_pos h3]
theorem tN_ok {m : Nat} {c : List Nat} (h : E.gE c = 0) (h1 : E.gN c ≤ 64) (h2 : jb (c.drop (E.gK c)) (m * E.gN c) = 0) (h3 : wid (ints (Z.tS m c)) = E.gN c) : Z.tN m c = 0 := by unfold Z.tN; rw [if_neg (by omega), if_neg (by omega), if_neg (by omega), if_neg (by omega)]
theorem unp_of {m : Nat} {M : Nat} (r : List Nat) (hm : m ≤ 4096) (hM : M ≤ 64) : unpC r (m : Int) (M : Int) = ((jb r (m * M) : Nat) : Int) ∧ (jb r (m * M) = 0 → unpL r (m : Int) (M : Int) = nums r m M) := by
  have ha : unpArg (m : Int) (M : Int) = true := (unpArg_iff _ _).2 ⟨by omega, by omega, by omega, by omega⟩
  unfold unpC unpL
  rw [ha, if_pos rfl, Int.toNat_natCast, Int.toNat_natCast]
  exact ⟨rfl, fun h => by rw [h]; rfl⟩
def ToStepsAns (c : List Nat) (m : Nat) (w : World) (e : Ending) (w' : World) : Prop :=
  Below w.heap.size w w' ∧ ((Z.tN m c ≠ 0 ∧ e = .returned (.tuple #[.slice none 0 0, .int .i64 ((Z.tN m c : Nat) : Int)])) ∨
    (Z.tN m c = 0 ∧ ∃ a k, e = .returned (.tuple #[.slice a m k, .int .i64 0]) ∧ Sl w' .u64 a m k (ints (Z.tS m c)) ∧ ∀ s ∈ Z.tS m c, s < 18446744073709551616))
theorem ToStepsAns.no {c : List Nat} {m : Nat} {E : Int} {w w' : World} (h : ((Z.tN m c : Nat) : Int) = E) (h0 : E ≠ 0) (hb : Below w.heap.size w w') : ToStepsAns c m w (.returned (.tuple #[.slice none 0 0, .int .i64 E])) w' :=
  ⟨hb, .inl ⟨by omega, by rw [h]⟩⟩
set_option maxHeartbeats 2000000 in
theorem tosteps_any (ao : Option Addr) (len cap : Nat) (c : List Nat) (m : Nat) (w : World) (h : Sl w .u8 ao len cap (ints c)) (h256 : ∀ x ∈ c, x < 256) (hl : len ≤ 140737488355328) (hm : m ≤ 4096) :
    Calls Try.prog 33 #[.slice ao len cap, .int .i64 (m : Int)] w (ToStepsAns c m w) := by
  have hcl : c.length = len := by rw [← h.1, ints_length]
  have HS := hide h
  have H256 := hide h256
  have HL := hide hcl
  clear h h256 hcl
  go_enter Try.func33, Try.ntmps33
  go_wp2_with fail
  refine (get_any _ _ _ c _ HS.out H256.out hl).mono ?_
  rintro e w1 ⟨rfl, hb1⟩
  have HB1 := hide hb1
  obtain ⟨X, hX⟩ : ∃ X : Nat, E.gE c = X := ⟨_, rfl⟩
  obtain ⟨K, hK⟩ : ∃ K : Nat, E.gK c = K := ⟨_, rfl⟩
  obtain ⟨M, hM⟩ : ∃ M : Nat, E.gN c = M := ⟨_, rfl⟩
  rw [hX, hK, hM]
  have HE := hide hX
  have HKK := hide hK
  have HM := hide hM
  clear hb1 hX hK hM
  by_cases hX0 : X = 0
  · subst hX0
    by_cases hbig : 64 < M
    · have HP : Hid (((Z.tN m c : Nat) : Int) = 4) := by show _ = _; rw [tN_most HE.out (by rw [HM.out]; exact hbig)]; rfl
      go_wp2
      go_ret2
      exact ToStepsAns.no HP.out (by decide) HB1.out
    · have hM64 : M ≤ 64 := by omega
      have hKl : K ≤ len := by rw [← HKK.out, ← HL.out]; exact (E.gE_zero HE.out H256.out).1
      obtain ⟨qa, hq, hr1, hr2⟩ := rest_of (HS.out.below HB1.out) hKl
      obtain ⟨r, hr⟩ : ∃ d, c.drop K = d := ⟨_, rfl⟩
      rw [hr] at hq
      have hr256 : ∀ x ∈ r, x < 256 := fun x hx => H256.out x (by rw [← hr] at hx; exact List.mem_of_mem_drop hx)
      have HUP := hide (unpack_u qa (len - K) (cap - K) r (m : Int) (M : Int) w1 hq hr256 (by omega))
      obtain ⟨u1, u2⟩ := unp_of r hm hM64
      obtain ⟨J, hJ⟩ : ∃ J, jb r (m * M) = J := ⟨_, rfl⟩
      rw [hJ] at u1 u2
      rw [u1] at HUP
      have eM : IntKind.i64.wrap (M : Int) = (M : Int) := by rw [IntKind.wrap_i64]; omega
      have hjc : jb (c.drop (E.gK c)) (m * E.gN c) = J := by rw [HKK.out, HM.out, hr, hJ]
      have HJC := hide hjc
      have HU2 := hide u2
      have HTS : Hid (ints (Z.tS m c) = nums r m M) := by show _ = _; rw [tS_ints, HKK.out, HM.out, hr]
      clear hq hr hr256 u1 u2 hJ hjc
      go_wp2_with fail
      refine HUP.out.mono ?_
      rintro e w2 ⟨v2, rfl, ho2, hb2⟩
      have HB2 := hide (bthen HB1.out hb2)
      clear hr1 hr2 hb2 HUP
      by_cases hJ0 : J = 0
      · subst hJ0
        rw [HU2.out rfl] at ho2
        obtain ⟨sa, sc, hv2, hs2, _⟩ := Sl.of_owns ho2
        rw [nums_length] at hv2 hs2
        subst hv2
        have hin := In64_nums r m M hM64
        have HS2 := hide hs2
        have HIN := hide hin.1
        obtain ⟨W, hW⟩ : ∃ W, wid (nums r m M) = W := ⟨_, rfl⟩
        have HWD : Hid (Calls Try.prog 21 #[.slice sa m sc] w2 fun e w' => e = .returned (.int .i64 (W : Int)) ∧ w' = w2) := by
          have := width_w sa m sc (nums r m M) w2 hs2 (by omega) hin.1
          rwa [hW] at this
        have HW := hide hW
        clear ho2 hs2 hin hW HU2
        go_wp2_with fail
        refine HWD.out.mono ?_
        rintro e w3 ⟨rfl, rfl⟩
        clear HWD
        by_cases hWM : W = M
        · subst hWM
          have HP : Hid (Z.tN m c = 0) := tN_ok HE.out (by rw [HM.out]; exact hM64) HJC.out (by rw [HTS.out, HW.out, HM.out])
          have HLT : Hid (∀ s ∈ Z.tS m c, s < 18446744073709551616) := tS_lt (by rw [HM.out]; exact hM64)
          have FIN : Hid (ToStepsAns c m w (.returned (.tuple #[.slice sa m sc, .int .i64 0])) w3) := ⟨HB2.out, .inr ⟨HP.out, sa, sc, rfl, by rw [HTS.out]; exact HS2.out, HLT.out⟩⟩
          go_wp2
          go_ret2
          exact FIN.out
        · have HP : Hid (((Z.tN m c : Nat) : Int) = 4) := by show _ = _; rw [tN_just HE.out (by rw [HM.out]; exact hM64) HJC.out (by rw [HTS.out, HW.out, HM.out]; exact hWM)]; rfl
          have hne : ((W : Int) != (M : Int)) = true := by simp; omega
          go_wp2
          go_ret2
          exact ToStepsAns.no HP.out (by decide) HB2.out
      · have HP : Hid (((Z.tN m c : Nat) : Int) = (J : Int)) := by show _ = _; rw [tN_bits HE.out (by rw [HM.out]; exact hM64) (by rw [HJC.out]; exact hJ0), HJC.out]
        have hne : ((J : Int) != 0) = true := by simp; omega
        have HJ0 : Hid ((J : Int) ≠ 0) := by show _ ≠ _; omega
        clear ho2 hJ0 HU2
        go_wp2
        go_ret2
        exact ToStepsAns.no HP.out HJ0.out HB2.out
  · have HP : Hid (((Z.tN m c : Nat) : Int) = (X : Int)) := by show _ = _; rw [tN_num (by rw [HE.out]; exact hX0), HE.out]
    have hne : ((X : Int) != 0) = true := by simp; omega
    have HX0 : Hid ((X : Int) ≠ 0) := by show _ ≠ _; omega
    clear hX0
    go_wp2
    go_ret2
    exact ToStepsAns.no HP.out HX0.out HB1.out
end Go.Proofs.Ytkcpfgjkplailaa
/- The document's answer for null: Same of bools, Same of values, Count. -/
namespace Go.Proofs.Ytkcpfgjkplailaa
set_option linter.unusedVariables false
open Go.RowKit

theorem vsame_none (ao bo : Option Addr) (ca cb : Nat) (w : World) :
    Calls Try.prog 19 #[.slice ao 0 ca, .slice bo 0 cb] w fun e w' => e = .returned (.bool true) ∧ Below w.heap.size w w' := by
  go_enter Try.func19, Try.ntmps19
  go_wp2_with fail
  go_rounds 1
  go_ret
  exact ⟨rfl, Below.refl _ _⟩
set_option maxHeartbeats 1000000 in
theorem vsame_some (b1 o1 b2 o2 len ca cb : Nat) (l : List Z.V) (w : World) (hl : l.length = len) (hm : len ≤ 140737488355328) (h1 : b1 < w.heap.size) (h2 : b2 < w.heap.size)
    (hc1 : ∀ j x, l[j]? = some x → w.cell? ⟨b1, o1 + j * 3, none⟩ = some (.int .i64 x.k) ∧ w.cell? ⟨b1, o1 + j * 3 + 1, none⟩ = some (.int .i64 x.i) ∧ w.cell? ⟨b1, o1 + j * 3 + 2, none⟩ = some (.string x.s))
    (hc2 : ∀ j x, l[j]? = some x → w.cell? ⟨b2, o2 + j * 3, none⟩ = some (.int .i64 x.k) ∧ w.cell? ⟨b2, o2 + j * 3 + 1, none⟩ = some (.int .i64 x.i) ∧ w.cell? ⟨b2, o2 + j * 3 + 2, none⟩ = some (.string x.s)) :
    Calls Try.prog 19 #[.slice (some ⟨b1, o1, none⟩) len ca, .slice (some ⟨b2, o2, none⟩) len cb] w fun e w' => e = .returned (.bool true) ∧ Below w.heap.size w w' := by
  have hb : ((len : Int) != (len : Int)) = false := by simp
  have HC1 := hide hc1
  have HC2 := hide hc2
  have HL := hide hl
  clear hc1 hc2 hl
  go_enter Try.func19, Try.ntmps19
  go_wp2_with fail
  go_loopw [5] (fun i wr => ∃ k : Nat, k ≤ len ∧ i = .int .i64 k ∧ Hid (Below w.heap.size w wr)) (fun i _ => len - (intOf i).toNat)
  case atStart => exact ⟨0, Nat.zero_le _, rfl, hide (Below.refl _ _)⟩
  case round =>
    obtain ⟨k, hk, rfl, hkr⟩ := hrel
    by_cases hlt : k < len
    · obtain ⟨⟨xk, xi, xs⟩, hx⟩ : ∃ x, l[k]? = some x := ⟨l[k]'(by rw [HL.out]; exact hlt), List.getElem?_eq_getElem _⟩
      obtain ⟨c1, c2, c3⟩ := HC1.out k _ hx
      obtain ⟨d1, d2, d3⟩ := HC2.out k _ hx
      have e1 : wr.cell? ⟨b1, o1 + k * 3, none⟩ = some (.int .i64 xk) := by rw [hkr.out.cell (p := ⟨b1, o1 + k * 3, none⟩) h1]; exact c1
      have e2 : wr.cell? ⟨b1, o1 + k * 3 + 1, none⟩ = some (.int .i64 xi) := by rw [hkr.out.cell (p := ⟨b1, o1 + k * 3 + 1, none⟩) h1]; exact c2
      have e3 : wr.cell? ⟨b1, o1 + k * 3 + 2, none⟩ = some (.string xs) := by rw [hkr.out.cell (p := ⟨b1, o1 + k * 3 + 2, none⟩) h1]; exact c3
      have g1 : wr.cell? ⟨b2, o2 + k * 3, none⟩ = some (.int .i64 xk) := by rw [hkr.out.cell (p := ⟨b2, o2 + k * 3, none⟩) h2]; exact d1
      have g2 : wr.cell? ⟨b2, o2 + k * 3 + 1, none⟩ = some (.int .i64 xi) := by rw [hkr.out.cell (p := ⟨b2, o2 + k * 3 + 1, none⟩) h2]; exact d2
      have g3 : wr.cell? ⟨b2, o2 + k * 3 + 2, none⟩ = some (.string xs) := by rw [hkr.out.cell (p := ⟨b2, o2 + k * 3 + 2, none⟩) h2]; exact d3
      have hq : ∀ w : World, (binOp .neq 42 (.agg #[.int .i64 xk, .int .i64 xi, .string xs]) (.agg #[.int .i64 xk, .int .i64 xi, .string xs])).run Try.prog w = .ok (.bool false) w := fun w => by rw [vne_run, Z.same_self]; rfl
      clear c1 c2 c3 d1 d2 d3 hx
      go_wp2
      go_region
      all_goals go_wp2
      all_goals
        go_roundw
        case rel => exact ⟨k + 1, by omega, by go_num, hide hkr.out.drew⟩
        case measure => simp [intOf]; omega
    · go_wp2
      go_ret
      exact ⟨rfl, hkr.out⟩
/-- The reference's Same, of two lists of values that are the same. -/
theorem vsame_yes (ao bo : Option Addr) (len ca cb : Nat) (l : List Z.V) (w : World) (h1 : SlV w ao len ca l) (h2 : SlV w bo len cb l) (hm : len ≤ 140737488355328) :
    Calls Try.prog 19 #[.slice ao len ca, .slice bo len cb] w fun e w' => e = .returned (.bool true) ∧ Below w.heap.size w w' := by
  by_cases h0 : len = 0
  · subst h0; exact vsame_none ao bo ca cb w
  · rcases h1.2.2.2.2 with h | ⟨b1, o1, rfl, hb1, hc1⟩
    · omega
    · rcases h2.2.2.2.2 with h | ⟨b2, o2, rfl, hb2, hc2⟩
      · omega
      · exact vsame_some b1 o1 b2 o2 len ca cb l w h1.1 hm hb1 hb2 hc1 hc2

theorem cntT_le (bs : List Bool) (k : Nat) : cntT (bs.take k) ≤ k := by
  unfold cntT
  exact Nat.le_trans List.count_le_length (by rw [List.length_take]; omega)
end Go.Proofs.Ytkcpfgjkplailaa
/- The document's answer for null: Split. -/
namespace Go.Proofs.Ytkcpfgjkplailaa
set_option linter.unusedVariables false
open Go.RowKit

/-- One value, in new memory. -/
theorem slV_one (w : World) (k i : Int) (s : ByteArray) : SlV (w.alloc (.cells #[.int .i64 k, .int .i64 i, .string s] 42)) (some ⟨w.heap.size, 0, none⟩) 1 1 [⟨k, i, s⟩] := by
  refine ⟨rfl, Nat.le_refl _, by decide, by simp, .inr ⟨w.heap.size, 0, rfl, by simp, fun j x hx => ?_⟩⟩
  match j, hx with
  | 0, hx => simp at hx; subst hx; simp
/-- A row stays, whatever is appended to a row of another kind. -/
theorem keep_kind {w w' : World} {B B' s s' n n' : Nat} {e e' : TypeId} {v u : Value} {xs ys : List Value} (h : w.ownsRow B e s v n xs) (hu : w.ownsRow B' e' s' u n' ys) (hne : e ≠ e') (hk : Kept (fun k => u.ownBlock = some k) w w') : w'.ownsRow B e s v n xs :=
  owns_of_block h fun g hg => hk.block g (owns_lt h hg).2 (fun e => owns_ne h hu hne hg e)
theorem nus_snoc {l : List Z.V} {j : Nat} {x : Z.V} (h : l[j]? = some x) : nus (l.take (j + 1)) = nus (l.take j) ++ [x.k == 0] := by
  rw [take_snocV h]; simp [nus]
theorem oth_yes {l : List Z.V} {j : Nat} {x : Z.V} (h : l[j]? = some x) (hk : (x.k == 0) = true) : oth (l.take (j + 1)) = oth (l.take j) := by
  rw [take_snocV h]; simp [oth, hk]
theorem oth_no {l : List Z.V} {j : Nat} {x : Z.V} (h : l[j]? = some x) (hk : (x.k == 0) = false) : oth (l.take (j + 1)) = oth (l.take j) ++ [x] := by
  rw [take_snocV h]; simp [oth, hk]
theorem oth_le (l : List Z.V) (j : Nat) : (oth (l.take j)).length ≤ j := by
  unfold oth
  exact Nat.le_trans (List.length_filter_le _ _) (by rw [List.length_take]; omega)

end Go.Proofs.Ytkcpfgjkplailaa
/- delta.Of: a column's numbers, of bytes. Conditions: fewer than 2^47 bytes. -/
namespace Go.Proofs.Ytkcpfgjkplailaa
set_option linter.unusedVariables false
set_option maxRecDepth 10000
open Go.RowKit
theorem slV_bare (w : World) : SlV w none 0 0 [] := ⟨rfl, Nat.le_refl _, by simp [maxLen], fun _ => rfl, .inl rfl⟩
theorem sms_get : ∀ (p : Int) (S : List Nat) (j s : Nat), S[j]? = some s → ∃ q, (p :: Z.sms p S)[j]? = some q ∧ (p :: Z.sms p S)[j + 1]? = some (wrap64 (q + E.zag s))
  | p, [], j, s, h => by simp at h
  | p, a :: t, 0, s, h => by
    simp at h; subst h
    exact ⟨p, rfl, rfl⟩
  | p, a :: t, j + 1, s, h => by
    obtain ⟨q, h1, h2⟩ := sms_get (wrap64 (p + E.zag a)) t j s (by simpa using h)
    exact ⟨q, by rw [List.getElem?_cons_succ, Z.sms]; exact h1, by rw [List.getElem?_cons_succ, Z.sms]; exact h2⟩
/-- The first of the numbers of steps. -/
def Z.fk (p : Int) (S : List Nat) (j : Nat) : List Z.V := Z.vals ((p :: Z.sms p S).take j)
theorem fk_length {p : Int} {S : List Nat} {j : Nat} (h : j ≤ S.length + 1) : (Z.fk p S j).length = j := by unfold Z.fk; rw [vals_length, List.length_take, List.length_cons, sms_length]; omega
theorem fk_all {p : Int} {S : List Nat} {j : Nat} (h : S.length + 1 ≤ j) : Z.fk p S j = Z.vals (p :: Z.sms p S) := by unfold Z.fk; rw [List.take_of_length_le (by rw [List.length_cons, sms_length]; exact h)]
theorem fk_next {p x : Int} {S : List Nat} {j : Nat} (h : (p :: Z.sms p S)[j]? = some x) : Z.fk p S j ++ [⟨1, x, ⟨#[]⟩⟩] = Z.fk p S (j + 1) := by
  unfold Z.fk Z.vals
  rw [List.take_add_one, h, List.map_append]
  rfl
theorem num_i64 {p x : Int} {S : List Nat} {j : Nat} (hp : Z.I64 p) (h : (p :: Z.sms p S)[j]? = some x) : Z.I64 x := by
  rcases List.mem_cons.1 (List.mem_of_getElem? h) with rfl | hx
  · exact hp
  · exact sms_i64 _ _ x hx
set_option maxHeartbeats 2000000 in
theorem tovals_any (p : Int) (ao : Option Addr) (m cap : Nat) (S : List Nat) (w : World) (h : Sl w .u64 ao m cap (ints S)) (hS : ∀ s ∈ S, s < 18446744073709551616) (hp : Z.I64 p) (hm : m ≤ 4096) :
    Calls Try.prog 34 #[.int .i64 p, .slice ao m cap] w fun e w' => ∃ v, e = .returned v ∧ OwnV w' w.heap.size v (Z.vals (p :: Z.sms p S)) ∧ Below w.heap.size w w' := by
  have hsl : S.length = m := by rw [← h.1, ints_length]
  have HS := hide h
  have HL := hide hsl
  have HL2 := hide hS
  have HP := hide hp
  have hb1 := below_one w (.cells #[.int .i64 1, .int .i64 p, .string ⟨#[]⟩] 42)
  have HB1 := hide hb1
  have hrow0 : OwnV (w.alloc (.cells #[.int .i64 1, .int .i64 p, .string ⟨#[]⟩] 42)) w.heap.size (.slice (some ⟨w.heap.size, 0, none⟩) 1 1) (Z.fk p S 1) := by
    have := World.ownsRow_lit (e := 42) (size := 3) w #[.int .i64 1, .int .i64 p, .string ⟨#[]⟩] 1 (Nat.le_refl _) (by decide) rfl
    exact this
  have HR0 := hide hrow0
  obtain ⟨w1, hw1⟩ : ∃ w1, w.alloc (.cells #[.int .i64 1, .int .i64 p, .string ⟨#[]⟩] 42) = w1 := ⟨_, rfl⟩
  rw [hw1] at HB1 HR0
  have HW := hide hw1
  clear h hsl hS hp hb1 hrow0 hw1
  go_enter Try.func34, Try.ntmps34
  go_wp2_with fail
  rw [HW.out]
  go_loopw [0, 5, 13] (fun at_ v i wr => ∃ (j : Nat) (q : Int), j ≤ m ∧ i = .int .i64 j ∧ at_ = .int .i64 q ∧ Hid ((p :: Z.sms p S)[j]? = some q) ∧ Hid (OwnV wr w.heap.size v (Z.fk p S (j + 1))) ∧ Hid (Below w.heap.size w wr)) (fun _ _ i _ => m - (intOf i).toNat)
  case atStart => exact ⟨0, p, Nat.zero_le _, rfl, rfl, hide rfl, HR0, HB1⟩
  case round =>
    obtain ⟨j, q, hj, rfl, rfl, hq, hrow, hbw⟩ := hrel
    by_cases hjl : j < m
    · obtain ⟨bb, off, rfl, hlt, c0⟩ := HS.out.here hjl
      obtain ⟨s, hs⟩ : ∃ s, S[j]? = some s := ⟨S[j]'(by rw [HL.out]; exact hjl), List.getElem?_eq_getElem _⟩
      have hsg : (ints S).getD j 0 = (s : Int) := by rw [ints_getD, List.getD_eq_getElem?_getD, hs]; rfl
      rw [hsg] at c0
      have d1 : wr.cell? ⟨bb, off + j, none⟩ = some (.int .u64 (s : Int)) := by rw [hbw.out.cell (p := ⟨bb, off + j, none⟩) hlt]; exact c0
      have hs64 := HL2.out s (List.mem_of_getElem? hs)
      obtain ⟨q', h1, h2⟩ := sms_get p S j s hs
      have hqq : q' = q := by have h3 := hq.out; rw [h1] at h3; exact Option.some.inj h3
      subst hqq
      have HZG : Hid (∀ w : World, Calls Try.prog 35 #[.int .u64 (s : Int)] w fun e w' => e = .returned (.int .i64 (E.zag s)) ∧ w' = w) := fun w => by
        have := zag_any (s : Int) w (by omega) (by omega)
        rwa [Int.toNat_natCast] at this
      obtain ⟨g, hg⟩ : ∃ g, E.zag s = g := ⟨_, rfl⟩
      rw [hg] at HZG h2
      obtain ⟨y, hy⟩ : ∃ y, wrap64 (q' + g) = y := ⟨_, rfl⟩
      have hy2 : IntKind.i64.wrap (q' + g) = y := by rw [IntKind.wrap_i64, ← hy]; unfold wrap64; omega
      rw [hy] at h2
      have HY := hide h2
      have HFN := hide (fk_next h2)
      have HFL := hide (fk_length (p := p) (S := S) (j := j + 1) (by rw [HL.out]; omega))
      have HR2 := hide (World.ownsRow.alloc hrow.out (.cells #[.int .i64 1, .int .i64 y, .string ⟨#[]⟩] 42))
      have HB2 := hide (bthen hbw.out (below_one wr (.cells #[.int .i64 1, .int .i64 y, .string ⟨#[]⟩] 42)))
      have hsz2 := HB2.out.size
      clear c0 hs hsg h1 h2 hg hrow hq
      go_wp2_with fail
      refine (HZG.out _).mono ?_
      rintro e w2 ⟨rfl, hw2⟩
      obtain rfl : wr = w2 := hw2.symm
      clear HZG
      go_wp2_with (at_builtin; refine wpList_appV rfl _ _ rfl w.heap.size _ (Z.fk p S (j + 1)) rfl HR2.out (some ⟨wr.heap.size, 0, none⟩) 1 1 [⟨1, y, ⟨#[]⟩⟩] rfl (slV_one wr 1 y ⟨#[]⟩) (by rw [HFL.out]; omega) hsz2 ?_)
      intro v4 w4 ho4 has _
      have hb4 : Below w.heap.size w w4 := HB2.out.trans (has.below hsz2 (fun g hg => (owns_lt HR2.out hg).1))
      rw [HFN.out] at ho4
      have HO4 := hide ho4
      have HB4 := hide hb4
      clear ho4 hb4 has
      go_wp2
      go_roundw
      case rel => exact ⟨j + 1, y, hjl, by go_num, rfl, HY, HO4, HB4⟩
      case measure => simp [intOf]; omega
    · obtain rfl : j = m := by omega
      have hrow1 := hrow.out
      rw [fk_all (by rw [HL.out]; exact Nat.le_refl _)] at hrow1
      have HROW := hide hrow1
      clear hrow1 hrow
      go_wp2
      go_ret
      exact ⟨_, rfl, HROW.out, hbw.out⟩
def DeltaOfAns (b : List Nat) (n : Int) (w : World) (e : Ending) (w' : World) : Prop := ∃ a c, e = .returned (.tuple #[.slice a (Z.feL b n).length c, .int .i64 (Z.feE b n)]) ∧ SlV w' a (Z.feL b n).length c (Z.feL b n) ∧ Below w.heap.size w w'
theorem DeltaOfAns.no {b : List Nat} {n E : Int} {w w' : World} (h : Z.feE b n = E) (h0 : E ≠ 0) (hb : Below w.heap.size w w') : DeltaOfAns b n w (.returned (.tuple #[.slice none 0 0, .int .i64 E])) w' := by
  unfold DeltaOfAns; rw [feL_bad (by rw [h]; exact h0), h]
  exact ⟨none, 0, rfl, slV_bare _, hb⟩
theorem DeltaOfAns.bare {b : List Nat} {w w' : World} (h : Z.feE b 0 = 0) (hb : Below w.heap.size w w') : DeltaOfAns b 0 w (.returned (.tuple #[.slice none 0 0, .int .i64 0])) w' := by
  unfold DeltaOfAns; rw [feL_none, h]
  exact ⟨none, 0, rfl, slV_bare _, hb⟩
theorem DeltaOfAns.many {b : List Nat} {n : Int} {w w' : World} (h : n < 0 ∨ 4096 < n) (hb : Below w.heap.size w w') : DeltaOfAns b n w (.returned (.tuple #[.slice none 0 0, .int .i64 2])) w' := DeltaOfAns.no (feE_many h) (by decide) hb
theorem feE_num {b : List Nat} {N : Nat} (h0 : 0 < N) (hN : N ≤ 4096) (h : E.gE b ≠ 0) : Z.feE b (N : Int) = ((E.gE b : Nat) : Int) := by rw [feE_some h0 hN, fN_tN, if_pos h]
theorem feE_rest {b : List Nat} {N : Nat} (h0 : 0 < N) (hN : N ≤ 4096) (h : E.gE b = 0) : Z.feE b (N : Int) = ((Z.tN (N - 1) (Z.fb b) : Nat) : Int) := by rw [feE_some h0 hN, fN_tN, if_neg (by omega)]
set_option maxHeartbeats 2000000 in
theorem deof_some (ao : Option Addr) (len cap : Nat) (b : List Nat) (N : Nat) (w : World) (h : Sl w .u8 ao len cap (ints b)) (h256 : ∀ x ∈ b, x < 256) (hl : len ≤ 140737488355328) (h0 : 0 < N) (hN : N ≤ 4096) :
    Calls Try.prog 12 #[.slice ao len cap, .int .i64 (N : Int)] w (DeltaOfAns b (N : Int) w) := by
  have hcl : b.length = len := by rw [← h.1, ints_length]
  obtain ⟨m, hm⟩ : ∃ m, N - 1 = m := ⟨_, rfl⟩
  have hN1 : (N : Int) - 1 = (m : Int) := by omega
  have hnz : ((N : Int) == 0) = false := by simp; omega
  have hmm : IntKind.i64.wrap (m : Int) = (m : Int) := by rw [IntKind.wrap_i64]; omega
  have HS := hide h
  have H256 := hide h256
  have HL := hide hcl
  have HMM := hide hm
  have hm4 : m ≤ 4096 := by omega
  clear h h256 hcl hm
  go_enter Try.func12, Try.ntmps12
  go_wp2_with fail
  refine (get_any _ _ _ b _ HS.out H256.out hl).mono ?_
  rintro e w1 ⟨rfl, hb1⟩
  have HB1 := hide hb1
  obtain ⟨X, hX⟩ : ∃ X : Nat, E.gE b = X := ⟨_, rfl⟩
  obtain ⟨K, hK⟩ : ∃ K : Nat, E.gK b = K := ⟨_, rfl⟩
  obtain ⟨M, hM⟩ : ∃ M : Nat, E.gN b = M := ⟨_, rfl⟩
  have hM64 := E.gN_lt H256.out
  rw [hM] at hM64
  rw [hX, hK, hM]
  have HE := hide hX
  have HKK := hide hK
  have HM := hide hM
  clear hb1 hX hK hM
  by_cases hX0 : X = 0
  · subst hX0
    have hKl : K ≤ len := by rw [← HKK.out, ← HL.out]; exact (E.gE_zero HE.out H256.out).1
    obtain ⟨qa, hq, hr1, hr2⟩ := rest_of (HS.out.below HB1.out) hKl
    obtain ⟨r, hr⟩ : ∃ d, b.drop K = d := ⟨_, rfl⟩
    rw [hr] at hq
    have hfb : Z.fb b = r := by unfold Z.fb; rw [HKK.out, hr]
    have HFB := hide hfb
    have HTS := hide (tosteps_any qa (len - K) (cap - K) r m w1 hq (fun x hx => H256.out x (by rw [← hr] at hx; exact List.mem_of_mem_drop hx)) (by omega) hm4)
    clear hq hr hfb
    go_wp2_with fail
    refine HTS.out.mono ?_
    rintro e w2 ⟨hb2, ⟨hT, rfl⟩ | ⟨hT, sa, sc, rfl, hs2, hlt2⟩⟩
    · have HB2 := hide (bthen HB1.out hb2)
      obtain ⟨T, hTT⟩ : ∃ T : Nat, Z.tN m r = T := ⟨_, rfl⟩
      rw [hTT] at hT ⊢
      have HP : Hid (Z.feE b (N : Int) = (T : Int)) := by show _ = _; rw [feE_rest h0 hN HE.out, HFB.out, HMM.out, hTT]
      have hne : ((T : Int) != 0) = true := by simp; omega
      have HT0 : Hid ((T : Int) ≠ 0) := by show _ ≠ _; omega
      clear hT hTT hb2 HTS hr1 hr2
      go_wp2
      go_ret2
      exact DeltaOfAns.no HP.out HT0.out HB2.out
    · have HB2 := hide (bthen HB1.out hb2)
      have hE0 : Z.feE b (N : Int) = 0 := by rw [feE_rest h0 hN HE.out, HFB.out, HMM.out, hT]; rfl
      have HE0 := hide hE0
      have hFL : Z.feL b (N : Int) = Z.vals (E.zag M :: Z.sms (E.zag M) (Z.tS m r)) := by
        rw [feL_some h0 hE0]
        unfold Z.fl
        rw [fs_tS, HM.out, HMM.out, HFB.out]
      have HZ64 := hide (zag_i64 hM64)
      obtain ⟨g, hg⟩ : ∃ g, E.zag M = g := ⟨_, rfl⟩
      have HZG : Hid (∀ w : World, Calls Try.prog 35 #[.int .u64 (M : Int)] w fun e w' => e = .returned (.int .i64 g) ∧ w' = w) := fun w => by
        have := zag_any (M : Int) w (by omega) (by omega)
        rwa [Int.toNat_natCast, hg] at this
      rw [hg] at hFL HZ64
      have HFL := hide hFL
      have HTV := hide (tovals_any g sa m sc (Z.tS m r) w2 hs2 hlt2 HZ64.out hm4)
      clear hs2 hlt2 hb2 hE0 hFL hg HTS hT hr1 hr2
      go_wp2_with fail
      refine (HZG.out _).mono ?_
      rintro e w3 ⟨rfl, hw3⟩
      obtain rfl : w2 = w3 := hw3.symm
      clear HZG
      go_wp2_with fail
      refine HTV.out.mono ?_
      rintro e w4 ⟨v4, rfl, ho4, hb4⟩
      rw [← HFL.out] at ho4
      obtain ⟨xa, xc, hv4, hs4, _⟩ := SlV.of_own ho4
      have FIN : Hid (DeltaOfAns b (N : Int) w (.returned (.tuple #[v4, .int .i64 0])) w4) := ⟨xa, xc, by rw [hv4, HE0.out], hs4, bthen HB2.out hb4⟩
      clear ho4 hv4 hs4 hb4 HTV
      go_wp2
      go_ret2
      exact FIN.out
  · have HP : Hid (Z.feE b (N : Int) = (X : Int)) := by show _ = _; rw [feE_num h0 hN (by rw [HE.out]; exact hX0), HE.out]
    have hne : ((X : Int) != 0) = true := by simp; omega
    have HX0 : Hid ((X : Int) ≠ 0) := by show _ ≠ _; omega
    clear hX0
    go_wp2
    go_ret2
    exact DeltaOfAns.no HP.out HX0.out HB1.out
theorem nothing_any (ao : Option Addr) (len cap : Nat) (w : World) : Calls Try.prog 31 #[.slice ao len cap] w fun e w' => e = .returned (.int .i64 (if len = 0 then 0 else 4)) ∧ w' = w := by
  by_cases h : len = 0
  · subst h
    go_enter Try.func31, Try.ntmps31
    go_wp2
    go_ret
    exact ⟨rfl, rfl⟩
  · have h1 : decide ((0 : Int) < (len : Int)) = true := by simp; omega
    rw [if_neg h]
    have h2 : 0 < len := by omega
    clear h
    go_enter Try.func31, Try.ntmps31
    go_wp2
    go_ret
    exact ⟨rfl, rfl⟩
theorem deof_any (ao : Option Addr) (len cap : Nat) (b : List Nat) (n : Int) (w : World) (h : Sl w .u8 ao len cap (ints b)) (h256 : ∀ x ∈ b, x < 256) (hl : len ≤ 140737488355328) :
    Calls Try.prog 12 #[.slice ao len cap, .int .i64 n] w (DeltaOfAns b n w) := by
  by_cases hn : n < 0 ∨ 4096 < n
  · have FIN : Hid (∀ w', Below w.heap.size w w' → DeltaOfAns b n w (.returned (.tuple #[.slice none 0 0, .int .i64 2])) w') := fun w' hb => DeltaOfAns.many hn hb
    have HB0 : Hid (Below w.heap.size w w) := Below.refl _ _
    clear h h256
    rcases hn with hn | hn
    · go_enter Try.func12, Try.ntmps12
      go_wp2
      go_ret2
      exact FIN.out _ HB0.out
    · have hn0 : ¬ n < 0 := by omega
      go_enter Try.func12, Try.ntmps12
      go_wp2
      go_ret2
      exact FIN.out _ HB0.out
  · obtain ⟨N, rfl⟩ := Int.eq_ofNat_of_zero_le (show 0 ≤ n by omega)
    by_cases h0 : N = 0
    · subst h0
      have hcl : b.length = len := by rw [← h.1, ints_length]
      have hE : Z.feE b 0 = if len = 0 then 0 else 4 := by
        rw [feE_none]
        cases b with
        | nil => rw [← hcl]; rfl
        | cons x t => rw [← hcl, if_neg (by simp), if_neg (by simp)]
      obtain ⟨X, hX⟩ : ∃ X : Int, (if len = 0 then 0 else 4) = X := ⟨_, rfl⟩
      rw [hX] at hE
      have HNT := hide (nothing_any ao len cap w)
      rw [hX] at HNT
      have FIN : Hid (∀ w', Below w.heap.size w w' → DeltaOfAns b ((0 : Nat) : Int) w (.returned (.tuple #[.slice none 0 0, .int .i64 X])) w') := fun w' hb => by
        by_cases hX0 : X = 0
        · subst hX0; exact DeltaOfAns.bare hE hb
        · exact DeltaOfAns.no hE hX0 hb
      have HB0 : Hid (Below w.heap.size w w) := Below.refl _ _
      clear h h256 hX hE hcl
      go_enter Try.func12, Try.ntmps12
      go_wp2_with fail
      refine HNT.out.mono ?_
      rintro e w1 ⟨rfl, hw1⟩
      obtain rfl : w = w1 := hw1.symm
      clear HNT
      go_wp2
      go_ret2
      exact FIN.out _ HB0.out
    · exact deof_some ao len cap b N w h h256 hl (by omega) (by omega)
end Go.Proofs.Ytkcpfgjkplailaa

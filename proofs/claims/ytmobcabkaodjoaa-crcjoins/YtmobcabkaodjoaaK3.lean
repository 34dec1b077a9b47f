/- Plain facts on bits that are turned in a block; nothing of the program. -/
import Derived.Test.YtmobcabkaodjoaaK2
namespace Go.Proofs.Ytmobcabkaodjoaa.K
set_option linter.unusedVariables false

/-- Bytes whose bits are told one by one. -/
theorem bits_of : ∀ (d : List Nat) (e : Nat → Nat), (∀ j, j < d.length → ∀ b, b < 8 → d.getD j 0 / 2 ^ b % 2 = e (8 * j + b)) → bitsB d = (List.range (8 * d.length)).map e
  | [], e, _ => rfl
  | c :: r, e, h => by
    have ih := bits_of r (fun k => e (8 + k)) (fun j hj b hb => by
      have := h (j + 1) (by simp; omega) b hb
      simp only [List.getD_cons_succ] at this
      rw [this, show 8 * (j + 1) + b = 8 + (8 * j + b) by omega])
    have e8 : bits8 c = (List.range 8).map e := by
      have h0 := fun b hb => h 0 (by simp) b hb
      simp only [List.getD_cons_zero, Nat.mul_zero, Nat.zero_add] at h0
      have := h0 0 (by omega); have := h0 1 (by omega); have := h0 2 (by omega); have := h0 3 (by omega)
      have := h0 4 (by omega); have := h0 5 (by omega); have := h0 6 (by omega); have := h0 7 (by omega)
      simp only [List.range, List.range.loop, List.map_cons, List.map_nil, bits8]
      simp_all
    have : bitsB (c :: r) = bits8 c ++ bitsB r := rfl
    rw [this, ih, e8, List.length_cons, show 8 * (r.length + 1) = 8 + 8 * r.length by omega, range_split e 8]

theorem xor_bit (x y m n : Nat) (hx : x < 2) (hy : y < 2) : (x + 2 * m) ^^^ (y + 2 * n) = (x + y) % 2 + 2 * (m ^^^ n) := by
  have h1 := xor_mod2 (x + 2 * m) (y + 2 * n)
  have h2 := xor_div2 (x + 2 * m) (y + 2 * n)
  rw [show (x + 2 * m) / 2 = m by omega, show (y + 2 * n) / 2 = n by omega] at h2
  omega
theorem val2_join : ∀ (u v : List Nat), bin u → bin v → u.length = v.length → val2 (joinB u v) = val2 u ^^^ val2 v
  | [], [], _, _, _ => rfl
  | x :: r, y :: q, hu, hv, h => by
    have ih := val2_join r q (fun z hz => hu z (by simp [hz])) (fun z hz => hv z (by simp [hz])) (by simpa using h)
    simp only [joinB, val2, ih]
    rw [xor_bit x y _ _ (hu x (by simp)) (hv y (by simp))]
  | [], _ :: _, _, _, h => by simp at h
  | _ :: _, [], _, _, h => by simp at h
theorem val2_bits8 (c : Nat) (h : c < 256) : val2 (bits8 c) = c := by
  simp only [bits8, val2]; omega
theorem val2_four (a b c d : Nat) (ha : a < 256) (hb : b < 256) (hc : c < 256) (hd : d < 256) : val2 (bitsB [a, b, c, d]) = of4 [a, b, c, d] := by
  have : bitsB [a, b, c, d] = bits8 a ++ (bits8 b ++ (bits8 c ++ bits8 d)) := by simp [bitsB]
  have l8 : ∀ c, (bits8 c).length = 8 := fun _ => rfl
  rw [this, val2_append, val2_append, val2_append, val2_bits8 a ha, val2_bits8 b hb, val2_bits8 c hc, val2_bits8 d hd, l8, l8, l8]
  simp [of4]; omega
theorem of4_val (s : List Nat) (hs : s.length = 4) (h : ∀ x ∈ s, x < 256) : of4 s = val2 (bitsB s) := by
  match s, hs with
  | [a, b, c, d], _ => rw [val2_four a b c d (h a (by simp)) (h b (by simp)) (h c (by simp)) (h d (by simp))]
theorem crc_join (x l : List Nat) (h : x.length = l.length) : crc x ^^^ crc l = reg 0 (joinL x l) := by
  have h1 := reg_xor 4294967295 4294967295 x l h
  rw [Nat.xor_self] at h1
  unfold crc
  rw [not_xor _ (reg_lt _ _ (by omega)), not_xor _ (reg_lt _ _ (by omega)), xor4, Nat.xor_self, Nat.xor_zero, h1]
theorem joinL_length : ∀ (a b : List Nat), a.length = b.length → (joinL a b).length = a.length
  | [], [], _ => rfl
  | x :: r, y :: q, h => by simp only [joinL, List.length_cons]; rw [joinL_length r q (by simpa using h)]
  | [], _ :: _, h => by simp at h
  | _ :: _, [], h => by simp at h
theorem joinL_getD : ∀ (a b : List Nat) (j : Nat), a.length = b.length → j < a.length → (joinL a b).getD j 0 = a.getD j 0 ^^^ b.getD j 0
  | x :: r, y :: q, 0, _, _ => by simp [joinL]
  | x :: r, y :: q, j + 1, h, hj => by
    simp only [joinL, List.getD_cons_succ]
    exact joinL_getD r q j (by simpa using h) (by simpa using hj)
  | [], [], j, _, hj => by simp at hj
  | [], _ :: _, _, h, _ => by simp at h
  | _ :: _, [], _, h, _ => by simp at h

/-- Whether a bit is turned. -/
def Dt (at_ mask : Nat) (k : Nat) (p : Nat) : Bool := decide (at_ ≤ p) && decide (p < at_ + k) && mask.testBit (p - at_)
/-- The bytes p are the bytes q with just these bits turned. -/
def Turn (D : Nat → Bool) (p q : List Nat) : Prop := p.length = q.length ∧ (∀ x ∈ p, x < 256) ∧ ∀ j, j < q.length → ∀ b, b < 8 → (p.getD j 0).testBit b = Bool.xor ((q.getD j 0).testBit b) (D (8 * j + b))
theorem testBit_nat (n b : Nat) : n / 2 ^ b % 2 = if n.testBit b then 1 else 0 := by
  have h := Nat.testBit_eq_decide_div_mod_eq (x := n) (i := b)
  rw [h]
  by_cases hc : n / 2 ^ b % 2 = 1
  · simp [hc]
  · have := Nat.mod_two_eq_zero_or_one (n / 2 ^ b)
    simp [hc]; omega
theorem Turn.bit {D : Nat → Bool} {p q : List Nat} (h : Turn D p q) (j b : Nat) (hj : j < q.length) (hb : b < 8) : (p.getD j 0 ^^^ q.getD j 0) / 2 ^ b % 2 = if D (8 * j + b) then 1 else 0 := by
  rw [testBit_nat, Nat.testBit_xor, h.2.2 j hj b hb]
  cases (q.getD j 0).testBit b <;> cases D (8 * j + b) <;> rfl
theorem getD_take' (l : List Nat) (n j : Nat) (h : j < n) : (l.take n).getD j 0 = l.getD j 0 := by
  simp [List.getD, h]
theorem getD_drop' (l : List Nat) (n j : Nat) : (l.drop n).getD j 0 = l.getD (n + j) 0 := by
  simp [List.getD, List.getElem?_drop]

/-- The heart: bits turned within 32 of a block's bytes and its sum's. -/
theorem turned_sum (l : List Nat) (h256 : ∀ x ∈ l, x < 256) (D : Nat → Bool) (p : List Nat) (h : Turn D p (l ++ le4 (crc l))) (lo : Nat) (hw : ∀ k, D k = true → lo ≤ k ∧ k < lo + 32) (hz : ∃ k, k < 8 * (l.length + 4) ∧ D k = true) :
    p.drop l.length ≠ le4 (crc (p.take l.length)) := by
  intro he
  have hpl : p.length = l.length + 4 := by rw [h.1, List.length_append, le4_length]
  have hx : (p.take l.length).length = l.length := by rw [List.length_take]; omega
  have hs : (p.drop l.length).length = 4 := by rw [List.length_drop]; omega
  have hsb : ∀ x ∈ p.drop l.length, x < 256 := fun x hx => h.2.1 x (List.mem_of_mem_drop hx)
  have h1 := burst (fun k => if D k then 1 else 0) (fun k => by split <;> omega) (8 * l.length) lo (fun k hk => hw k (by
    cases hd : D k with
    | true => rfl
    | false => simp [hd] at hk)) (by
    obtain ⟨k, hk, hd⟩ := hz
    exact ⟨k, by omega, by simp [hd]⟩)
  apply h1
  -- the bytes' part
  have hb1 : bitsB (joinL (p.take l.length) l) = (List.range (8 * l.length)).map fun k => if D k then 1 else 0 := by
    have := bits_of (joinL (p.take l.length) l) (fun k => if D k then 1 else 0) (fun j hj b hb => by
      rw [joinL_length _ _ hx, hx] at hj
      rw [joinL_getD _ _ j hx (by omega), getD_take' _ _ _ hj]
      have := h.bit j b (by rw [List.length_append]; omega) hb
      rwa [show (l ++ le4 (crc l)).getD j 0 = l.getD j 0 by simp [List.getD, List.getElem?_append_left hj]] at this)
    rwa [joinL_length _ _ hx, hx] at this
  -- the sum's part
  have hb2 : bitsB (joinL (p.drop l.length) (le4 (crc l))) = (List.range 32).map fun k => if D (8 * l.length + k) then 1 else 0 := by
    have h4 : (p.drop l.length).length = (le4 (crc l)).length := by rw [hs, le4_length]
    have := bits_of (joinL (p.drop l.length) (le4 (crc l))) (fun k => if D (8 * l.length + k) then 1 else 0) (fun j hj b hb => by
      rw [joinL_length _ _ h4, hs] at hj
      rw [joinL_getD _ _ j h4 (by omega), getD_drop']
      have := h.bit (l.length + j) b (by rw [List.length_append, le4_length]; omega) hb
      rw [show (l ++ le4 (crc l)).getD (l.length + j) 0 = (le4 (crc l)).getD j 0 by simp [List.getD, List.getElem?_append_right]] at this
      rw [this, show 8 * (l.length + j) + b = 8 * l.length + (8 * j + b) by omega])
    rwa [joinL_length _ _ h4, hs] at this
  rw [← hb2, ← hb1, bitsB_join (p.drop l.length) (le4 (crc l)) (by rw [hs, le4_length]), val2_join _ _ (bitsB_bin _) (bitsB_bin _) (by rw [bitsB_length, bitsB_length, hs, le4_length]), ← of4_val _ hs hsb, ← of4_val _ (le4_length _) (le4_lt _), of4_le4 _ (crc_lt l), he, of4_le4 _ (crc_lt _), crc_join _ _ hx]
  rfl

theorem Dt_next (a m k p : Nat) : Dt a m (k + 1) p = (Dt a m k p || (decide (p = a + k) && m.testBit k)) := by
  unfold Dt
  by_cases h1 : p = a + k
  · subst h1
    simp [show a + k - a = k by omega]
  · by_cases h2 : a ≤ p <;> by_cases h3 : p < a + k
    · simp [h1, h2, h3, show p < a + (k + 1) by omega]
    · simp [h1, h3, show ¬ p < a + (k + 1) by omega]
    · simp [h1, h2]
    · simp [h1, h2]
theorem Dt_zero (a m p : Nat) : Dt a m 0 p = false := by
  unfold Dt
  by_cases h : a ≤ p
  · simp [show ¬ p < a by omega]
  · simp [h]
theorem Dt_late (a m k : Nat) : Dt a m k (a + k) = false := by
  unfold Dt; simp
theorem Turn.zero (a m : Nat) (q : List Nat) (h : ∀ x ∈ q, x < 256) : Turn (Dt a m 0) q q :=
  ⟨rfl, h, fun j _ b _ => by rw [Dt_zero]; simp⟩
theorem Turn.congr {D D' : Nat → Bool} {p q : List Nat} (h : Turn D p q) (hd : ∀ j, j < q.length → ∀ b, b < 8 → D (8 * j + b) = D' (8 * j + b)) : Turn D' p q :=
  ⟨h.1, h.2.1, fun j hj b hb => by rw [← hd j hj b hb]; exact h.2.2 j hj b hb⟩
theorem Turn.skip {a m k : Nat} {p q : List Nat} (h : Turn (Dt a m k) p q) (hs : m.testBit k = false ∨ q.length ≤ (a + k) / 8) : Turn (Dt a m (k + 1)) p q := by
  refine h.congr fun j hj b hb => ?_
  rw [Dt_next]
  rcases hs with hs | hs
  · simp [hs]
  · simp [show ¬ 8 * j + b = a + k by omega]
theorem testBit_two_pow (i j : Nat) : (2 ^ i).testBit j = decide (i = j) := by
  rw [Nat.testBit_two_pow]
theorem Turn.flip {a m k : Nat} {p q : List Nat} (h : Turn (Dt a m k) p q) (hm : m.testBit k = true) (hj : (a + k) / 8 < q.length) :
    Turn (Dt a m (k + 1)) (p.set ((a + k) / 8) (p.getD ((a + k) / 8) 0 ^^^ 2 ^ ((a + k) % 8))) q := by
  have hpl := h.1
  have hlt : p.getD ((a + k) / 8) 0 ^^^ 2 ^ ((a + k) % 8) < 256 := by
    have h1 : p.getD ((a + k) / 8) 0 < 2 ^ 8 := E.getD_lt h.2.1 _
    have h2 : 2 ^ ((a + k) % 8) < 2 ^ 8 := Nat.pow_lt_pow_right (by omega) (by omega)
    exact Nat.xor_lt_two_pow (n := 8) h1 h2
  refine ⟨by simp [hpl], fun x hx => ?_, fun j hj' b hb => ?_⟩
  · rcases List.mem_or_eq_of_mem_set hx with h1 | rfl
    · exact h.2.1 x h1
    · exact hlt
  · have hjp : j < p.length := by omega
    rw [Dt_next]
    by_cases he : j = (a + k) / 8
    · subst he
      have e1 : (p.set ((a + k) / 8) (p.getD ((a + k) / 8) 0 ^^^ 2 ^ ((a + k) % 8))).getD ((a + k) / 8) 0 = p.getD ((a + k) / 8) 0 ^^^ 2 ^ ((a + k) % 8) := by
        simp [List.getD, hjp]
      rw [e1, Nat.testBit_xor, testBit_two_pow, h.2.2 _ hj b hb]
      by_cases hbb : (a + k) % 8 = b
      · have e2 : 8 * ((a + k) / 8) + b = a + k := by omega
        rw [e2, Dt_late]
        simp [hbb, hm]
      · have e2 : ¬ 8 * ((a + k) / 8) + b = a + k := by omega
        simp [hbb, e2]
    · have e1 : (p.set ((a + k) / 8) (p.getD ((a + k) / 8) 0 ^^^ 2 ^ ((a + k) % 8))).getD j 0 = p.getD j 0 := by
        simp [List.getD, List.getElem?_set_ne (fun e => he e.symm)]
      rw [e1, h.2.2 j hj' b hb]
      simp [show ¬ 8 * j + b = a + k by omega]
/-- Nothing turned: the bytes as they were. -/
theorem Turn.same {D : Nat → Bool} {p q : List Nat} (h : Turn D p q) (hq : ∀ x ∈ q, x < 256) (hd : ∀ k, k < 8 * q.length → D k = false) : p = q := by
  apply List.ext_getElem h.1
  intro j h1 h2
  apply Nat.eq_of_testBit_eq
  intro b
  by_cases hb : b < 8
  · have := h.2.2 j h2 b hb
    rw [hd _ (by omega)] at this
    simpa [List.getD, h1, h2] using this
  · have e1 : p[j] < 2 ^ b := Nat.lt_of_lt_of_le (h.2.1 _ (List.getElem_mem h1)) (by
      have : 2 ^ 8 ≤ 2 ^ b := Nat.pow_le_pow_right (by omega) (by omega)
      omega)
    have e2 : q[j] < 2 ^ b := Nat.lt_of_lt_of_le (hq _ (List.getElem_mem h2)) (by
      have : 2 ^ 8 ≤ 2 ^ b := Nat.pow_le_pow_right (by omega) (by omega)
      omega)
    rw [Nat.testBit_lt_two_pow e1, Nat.testBit_lt_two_pow e2]
theorem Dt_in {a m k p : Nat} (h : Dt a m k p = true) : a ≤ p ∧ p < a + k := by
  simp [Dt] at h; omega
end Go.Proofs.Ytmobcabkaodjoaa.K

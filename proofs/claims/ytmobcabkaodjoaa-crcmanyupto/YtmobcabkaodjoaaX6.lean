/- The walk of the statement: blocks one behind the other are opened one behind the other. -/
import Derived.Test.YtmobcabkaodjoaaV10
import Derived.Test.YtmobcabkaodjoaaH7
import Derived.Test.YtmobcabkaodjoaaH8
import Derived.Test.YtmobcabkaodjoaaX1
import Derived.Test.YtmobcabkaodjoaaRB
namespace Go.Proofs.Ytmobcabkaodjoaa
set_option linter.unusedVariables false
open Go.RowKit

/-- The blocks of parts, one behind the other. -/
def blocks (ps : List Pt) : List Nat := ps.flatMap fun p => K.block p.l
theorem blocks_take (ps : List Pt) (k : Nat) (p : Pt) (h : ps[k]? = some p) : blocks (ps.take (k + 1)) = blocks (ps.take k) ++ K.block p.l := by
  have hk := (List.getElem?_eq_some_iff.1 h).1
  rw [List.take_succ_eq_append_getElem hk, (List.getElem?_eq_some_iff.1 h).2]
  simp [blocks]
theorem blocks_drop (ps : List Pt) (k : Nat) (p : Pt) (h : ps[k]? = some p) : blocks (ps.drop k) = K.block p.l ++ blocks (ps.drop (k + 1)) := by
  have hk := (List.getElem?_eq_some_iff.1 h).1
  rw [List.drop_eq_getElem_cons hk, (List.getElem?_eq_some_iff.1 h).2]
  simp [blocks]
theorem blocks_le (lim : Nat) (hl : lim < 9223372036854775808) : ∀ (ps : List Pt), (∀ p ∈ ps, p.l.length ≤ lim) → (blocks ps).length ≤ ps.length * (lim + 14)
  | [], _ => by simp [blocks]
  | p :: r, h => by
    have ih := blocks_le lim hl r fun q hq => h q (by simp [hq])
    have hp := h p (by simp)
    have h1 := K.block_length p.l
    have h2 := E.leb_ten p.l.length (by omega)
    have e : blocks (p :: r) = K.block p.l ++ blocks r := by simp [blocks]
    rw [e, List.length_append, List.length_cons, Nat.add_mul]
    omega
theorem blocks_lt (ps : List Pt) (h : ∀ p ∈ ps, ∀ x ∈ p.l, x < 256) : ∀ x ∈ blocks ps, x < 256 := by
  intro x hx
  obtain ⟨p, hp, hx⟩ := List.mem_flatMap.1 hx
  exact K.block_lt p.l (h p hp) x hx
theorem oE_none : K.oE 9 [] = 3 := by decide

def manyTbl (b off len cap k : Nat) (a1 : Option Addr) (n1 c1 : Nat) (p : Pt) : List (Nat × V.Ent) :=
  [(9, V.Ent.is (.int .i64 0)), (7, V.Ent.is (.slice a1 n1 c1)), (0, V.Ent.is (.slice (some ⟨b, off, none⟩) len cap)), (6, V.Ent.is (.int .i64 (k : Int))),
   (58, V.Ent.is (.int .i64 0)), (59, V.Ent.is (.bool false)), (60, V.Ent.is (.bool false)), (61, V.Ent.is (.slice a1 n1 c1)), (62, V.Ent.is (.string (strOfNums (ints p.l)))), (63, V.Ent.is (.slice (some ⟨b, off, none⟩) len cap)), (64, V.Ent.is (.int .i64 (k : Int))),
   (65, V.Ent.is (.pointer (some ⟨b, off + (k : Int).toNat, none⟩))), (66, V.Ent.is (.slice p.a p.len p.cap)), (67, V.Ent.is (.string (strOfNums (ints p.l)))), (68, V.Ent.is (.bool false)), (69, V.Ent.is (.bool false))]

set_option maxHeartbeats 2000000 in
/-- Of no slices. -/
theorem crcMany_zero (w : World) (ao : Option Addr) (cap : Nat) :
    Calls Try.prog 8 #[.slice ao 0 cap] w fun e w' => e = .returned (.bool true) ∧ Below w.heap.size w w' := by
  go_enter Try.func8, Try.ntmps8
  go_wp2_with fail
  refine (shown_any w).mono ?_
  rintro e w2 ⟨rfl, hb⟩
  go_wp2_with fail
  go_loopw [4, 5] (fun v i wr => v = .slice none 0 0 ∧ i = .int .i64 0 ∧ wr = w2) (fun _ _ _ => 0)
  case atStart => exact ⟨rfl, rfl, rfl⟩
  case round =>
    obtain ⟨rfl, rfl, rfl⟩ := hrel
    go_wp2_with fail
    go_loopw [4, 6] (fun v i w3 => v = .slice none 0 0 ∧ i = .int .i64 0 ∧ w3 = wr) (fun _ _ _ => 0)
    case atStart => exact ⟨rfl, rfl, rfl⟩
    case round =>
      obtain ⟨rfl, rfl, rfl⟩ := hrel
      go_wp2_with fail
      refine (open_any none 0 0 [] 9 _ (Sl.nil _ _) (by omega) (by simp) (by omega) (by omega)).mono ?_
      rintro e w4 ⟨⟨a1, c1, a2, c2, rfl, _, _⟩, hb4⟩
      rw [oE_none]
      obtain ⟨n1, hn1⟩ : ∃ n1, (K.zX 9 []).length = n1 := ⟨_, rfl⟩
      obtain ⟨n2, hn2⟩ : ∃ n2, (K.zR 9 []).length = n2 := ⟨_, rfl⟩
      rw [hn1, hn2]
      clear hn1 hn2
      go_wp2
      go_ret
      exact ⟨rfl, hb.trans (hb4.mono hb.size)⟩

set_option maxHeartbeats 4000000 in
theorem crcMany_few (w : World) (b off len cap : Nat) (ps : List Pt) (hl : ps.length = len) (hlen : len ≤ 20) (hb0 : b < w.heap.size) (hrow : ∀ i p, ps[i]? = some p → w.cell? ⟨b, off + i, none⟩ = some p.v ∧ Sl w .u8 p.a p.len p.cap (ints p.l) ∧ (∀ x ∈ p.l, x < 256) ∧ p.cap ≤ 1048576) :
    Calls Try.prog 8 #[.slice (some ⟨b, off, none⟩) len cap] w fun e w' => e = .returned (.bool true) ∧ Below w.heap.size w w' := by
  obtain ⟨N, hN⟩ : ∃ N, len = N := ⟨_, rfl⟩
  subst hN
  have HL := hide hl
  have HR := hide hrow
  have HPL : Hid (∀ p ∈ ps, p.l.length ≤ 1048576) := hide (by
    intro p hp
    obtain ⟨i, hi⟩ := List.getElem?_of_mem hp
    obtain ⟨_, h2, _, h4⟩ := hrow i p hi
    have h5 := h2.1
    rw [ints_length] at h5
    have := h2.2.1
    omega)
  have HP2 : Hid (∀ p ∈ ps, ∀ x ∈ p.l, x < 256) := hide (by
    intro p hp
    obtain ⟨i, hi⟩ := List.getElem?_of_mem hp
    exact (hrow i p hi).2.2.1)
  clear hl hrow
  go_enter Try.func8, Try.ntmps8
  go_wp2_with fail
  refine (shown_any w).mono ?_
  rintro e w2 ⟨rfl, hb⟩
  have HB2 := hide hb
  clear hb
  go_wp2_with fail
  go_loopw [4, 5] (fun v i wr => ∃ (k : Nat) (r : List Nat), k ≤ len ∧ i = .int .i64 (k : Int) ∧ Hid (blocks (ps.take k) = r) ∧ wr.ownsRow w2.heap.size 5 1 v r.length (B8 r) ∧ Below w2.heap.size w2 wr) (fun _ i _ => len - (intOf i).toNat)
  case atStart => exact ⟨0, [], by omega, rfl, hide rfl, World.ownsRow_nil _ _ _ _, Below.refl _ _⟩
  case round =>
    obtain ⟨k, r, hk, rfl, HRr, hown, hbel⟩ := hrel
    have HO := hide hown
    have HB := hide hbel
    clear hown hbel
    have hrl : r.length ≤ 20971800 := by
      rw [← HRr.out]
      have h1 := blocks_le 1048576 (by omega) (ps.take k) (fun p hp => HPL.out p (List.mem_of_mem_take hp))
      have h2 : (ps.take k).length ≤ 20 := by rw [List.length_take]; omega
      have h3 := Nat.mul_le_mul_right (1048576 + 14) h2
      omega
    by_cases hlt : k < len
    · obtain ⟨p, hp⟩ : ∃ p, ps[k]? = some p := ⟨ps[k]'(by rw [HL.out]; omega), by simp⟩
      obtain ⟨q1, q2, q3, q4⟩ := HR.out k p hp
      have hbw := HB2.out.trans (HB.out.mono HB2.out.size)
      have hc : wr.cell? ⟨b, off + k, none⟩ = some (.slice p.a p.len p.cap) := by rw [hbw.cell (p := ⟨b, off + k, none⟩) hb0]; exact q1
      have HQ2 := hide (q2.below hbw)
      have HQ3 := hide q3
      have hpl : p.len ≤ 1048576 := by have := q2.2.1; omega
      have HPp := hide hp
      have hkl : (k : Int) < (len : Int) := by omega
      have hk20 : (k : Int) < 20 := by omega
      clear q1 q2 q3 q4 hp hbw
      go_wp2_with fail
      refine (block_any p.a p.len p.cap p.l wr HQ2.out (by omega) HQ3.out).mono ?_
      rintro e w3 ⟨g, rfl, hg, hBg, hb3⟩
      obtain ⟨n, hn⟩ : ∃ n, (K.block p.l).length = n := ⟨_, rfl⟩
      have hnb : n ≤ 1048600 := by
        have h1 := K.block_length p.l
        have h2 : p.l.length = p.len := by rw [← HQ2.out.1, ints_length]
        have h3 := E.leb_ten p.l.length (by omega)
        omega
      have hsf : Sl w3 .u8 (some ⟨g, 0, none⟩) n n (ints (K.block p.l)) := by
        have := Sl.of_row hg (by rw [hn]; unfold maxLen; omega)
        rwa [hn] at this
      rw [hn]
      have HSF := hide hsf
      have HB3 := hide hb3
      have HOW := hide (owns_of_block HO.out (w' := w3) (fun g' hg' => hb3.block g' (owns_lt HO.out hg').2))
      obtain ⟨r2, hr2⟩ : ∃ r2, r ++ K.block p.l = r2 := ⟨_, rfl⟩
      have HR2 := hide hr2
      clear hg hBg hb3 hn hsf hr2
      go_wp2_with (at_builtin; refine wpList_app rfl (.tmp 24) (.tmp 29) rfl w2.heap.size _ r rfl HOW.out (some ⟨g, 0, none⟩) n n (K.block p.l) rfl HSF.out (by omega) (Nat.le_trans HB.out.size HB3.out.size) r2 HR2.out ?_)
      intro v5 w5 ho5 has5
      have HO5 := hide ho5
      have HB5 := hide (HB.out.trans ((HB3.out.mono HB.out.size).trans (has5.below (Nat.le_trans HB.out.size HB3.out.size) (fun k hk => (owns_lt HOW.out hk).1))))
      clear ho5 has5
      go_wp2
      go_roundw
      case rel => exact ⟨k + 1, r2, hlt, by go_num, hide (by rw [blocks_take ps k p HPp.out, HRr.out, HR2.out]), HO5.out, HB5.out⟩
      case measure => simp [intOf]; omega
    · obtain rfl : k = len := by omega
      obtain ⟨n, hn⟩ : ∃ n, r.length = n := ⟨_, rfl⟩
      obtain ⟨a3, c3, rfl, hs3⟩ := Sl.of_own HO.out hn
      rw [hn] at hrl
      have HS3 := hide hs3
      have HBw := hide (HB2.out.trans (HB.out.mono HB2.out.size))
      have HN0 := hide hn
      clear hn hs3
      go_wp2_with fail
      go_loopw [4, 6] (fun v i w7 => ∃ (j : Nat) (r7 : List Nat) (a7 : Option Addr) (n7 c7 : Nat), j ≤ k ∧ i = .int .i64 (j : Int) ∧ v = .slice a7 n7 c7 ∧ n7 ≤ 20971800 ∧ Hid (blocks ((ps.take k).drop j) = r7 ∧ Sl w7 .u8 a7 n7 c7 (ints r7) ∧ Below w.heap.size w w7)) (fun _ i _ => k - (intOf i).toNat)
      case atStart => exact ⟨0, r, a3, n, c3, by omega, rfl, rfl, hrl, hide ⟨by rw [List.drop_zero]; exact HRr.out, HS3.out, HBw.out⟩⟩
      case round =>
        obtain ⟨j, r7, a7, n7, c7, hj, rfl, rfl, hn7, HRj⟩ := hrel
        have HL7 := hide (show r7.length = n7 by rw [← HRj.out.2.1.1, ints_length])
        have HR72 : Hid (∀ y ∈ r7, y < 256) := hide (by
          rw [← HRj.out.1]
          exact blocks_lt _ fun p hp => HP2.out p (List.mem_of_mem_take (List.mem_of_mem_drop hp)))
        by_cases hlt2 : j < k
        · obtain ⟨p, hp⟩ : ∃ p, ps[j]? = some p := ⟨ps[j]'(by rw [HL.out]; omega), by simp⟩
          obtain ⟨q1, q2, q3, q4⟩ := HR.out j p hp
          have hpt : (ps.take k)[j]? = some p := by rw [List.getElem?_take_of_lt hlt2]; exact hp
          have hbd := blocks_drop (ps.take k) j p hpt
          rw [HRj.out.1] at hbd
          have hpl : p.l.length = p.len := by rw [← q2.1, ints_length]
          have hpc := q2.2.1
          obtain ⟨rr, hrr⟩ : ∃ rr, blocks ((ps.take k).drop (j + 1)) = rr := ⟨_, rfl⟩
          rw [hrr] at hbd
          obtain ⟨o1, o2, o3⟩ := K.o_block p.l rr (by omega) 1048576 (by omega)
          rw [← hbd] at o1 o2 o3
          have HO1 := hide o1
          have HO2 := hide (show K.zX 1048576 r7 = p.l by rw [(K.z_good o1).1, o2])
          have HO3 := hide (show K.zR 1048576 r7 = rr by rw [(K.z_good o1).2, o3])
          have HRR := hide hrr
          have hrl2 : rr.length ≤ 20971800 := by
            have := congrArg List.length hbd
            rw [List.length_append, HL7.out] at this
            omega
          have HPL2 := hide hpl
          have hbig : decide (1048576 < (p.len : Int)) = false := by simp; omega
          have HQ1 := hide q1
          have HQ2 := hide q2
          have hkl : (j : Int) < (k : Int) := by omega
          have hk20 : (j : Int) < 20 := by omega
          have hp48 : p.len ≤ 1048576 := by omega
          clear q1 q2 q3 q4 hp hpt hbd hpl o1 o2 o3 hrr
          go_wp2_with fail
          refine (open_any a7 n7 c7 r7 1048576 _ HRj.out.2.1 (by omega) HR72.out (by omega) (by omega)).mono ?_
          rintro e w8 ⟨⟨a1, c1, a2, c2, rfl, s1, s2⟩, hb8⟩
          rw [HO1.out]
          rw [HO2.out] at s1 ⊢
          rw [HO3.out] at s2 ⊢
          rw [HPL2.out] at s1 ⊢
          obtain ⟨n2, hn2⟩ : ∃ n2, rr.length = n2 := ⟨_, rfl⟩
          rw [hn2] at s2 hrl2 ⊢
          have HB8 := hide (HRj.out.2.2.trans (hb8.mono HRj.out.2.2.size))
          have HS1 := hide s1
          have HS2 := hide s2
          have hc : w8.cell? ⟨b, off + j, none⟩ = some (.slice p.a p.len p.cap) := by rw [HB8.out.cell (p := ⟨b, off + j, none⟩) hb0]; exact HQ1.out
          have HC := hide hc
          have HSP := hide (HQ2.out.below HB8.out)
          clear s1 s2 hb8 hn2
          go_wp2_with fail
          have hb08 : b < w8.heap.size := by have := HB8.out.size; omega
          refine V.wp_region2 (w0 := w8) [58, 59, 60, 61, 62, 63, 64, 65, 66, 67, 68, 69] [9, 7, 0, 6] (manyTbl b off k cap j a1 p.len c1 p) rfl (by kernel_rfl) (by kernel_rfl) (Below.refl _ _) ?hb ?hs ?hd
          case hb =>
            intro d hd
            simp only [List.mem_cons, List.not_mem_nil, or_false] at hd
            rcases hd with rfl | rfl | rfl | rfl <;> rfl
          case hs =>
            refine ⟨?_, ?_, ?_, ?_, ?_, ?_, ?_, ?_, ?_, ?_, ?_, ?_, trivial⟩
            · exact V.Step.move (.inl rfl) (.inl rfl) (.inl ⟨_, rfl⟩) (fun _ h => by cases h; rfl)
            · exact V.Step.bin (v := .bool false) (.inl rfl) rfl (.inl ⟨_, rfl⟩) (.inr ⟨_, rfl⟩) rfl rfl (fun w => ⟨rfl, by simp [go_sem]⟩) (fun _ h => by cases h; rfl)
            · exact V.Step.move (.inl rfl) (.inl rfl) (.inl ⟨_, rfl⟩) (fun _ h => by cases h; rfl)
            · exact V.Step.move (.inr ⟨_, _, _, rfl, rfl, rfl⟩) (.inl rfl) (.inl ⟨_, rfl⟩) (fun _ h => by cases h; rfl)
            · exact V.Step.strOld (.inr ⟨_, _, _, rfl, rfl, rfl⟩) rfl rfl HS1.out (fun _ h => by cases h; rfl)
            · exact V.Step.move (.inr ⟨_, _, _, rfl, rfl, rfl⟩) (.inl rfl) (.inl ⟨_, rfl⟩) (fun _ h => by cases h; rfl)
            · exact V.Step.move (.inr ⟨_, _, _, rfl, rfl, rfl⟩) (.inl rfl) (.inl ⟨_, rfl⟩) (fun _ h => by cases h; rfl)
            · exact V.Step.atR (.inr ⟨_, _, _, rfl, rfl, rfl⟩) rfl rfl (.inl ⟨_, rfl⟩) rfl (by omega) (by omega) (fun _ h => by cases h; rfl)
            · exact V.Step.ldR (.inr ⟨_, _, _, rfl, rfl, rfl⟩) rfl rfl hb08 (by rw [Int.toNat_natCast]; exact HC.out) (fun _ h => by cases h; rfl)
            · exact V.Step.strOld (.inr ⟨_, _, _, rfl, rfl, rfl⟩) rfl rfl HSP.out (fun _ h => by cases h; rfl)
            · exact V.Step.bin (v := .bool false) (.inr ⟨_, _, _, rfl, rfl, rfl⟩) rfl (.inl ⟨_, rfl⟩) (.inl ⟨_, rfl⟩) rfl rfl (fun w => ⟨rfl, by simp [go_sem]⟩) (fun _ h => by cases h; rfl)
            · exact V.Step.pick (b := false) (.inl rfl) rfl ⟨_, rfl, rfl⟩ (.inl ⟨_, rfl⟩) (fun _ h => by cases h; rfl)
          case hd =>
            intro vs w9 hb9 hk9
            have h69 : vs 69 = .bool false := hk9 11 _ 69 rfl rfl
            simp only [V.puts, List.foldl_cons, List.foldl_nil, h69, Act.put, List.setIfInBounds_toArray, List.set_cons_zero, List.set_cons_succ]
            have HB9 := hide (HB8.out.trans (hb9.mono HB8.out.size))
            have HS9 := hide (HS2.out.below hb9)
            clear hk9 hb9 h69 hc
            go_wp2_with fail
            go_roundw
            case rel => exact ⟨j + 1, rr, a2, n2, c2, by omega, by go_num, rfl, hrl2, hide ⟨HRR.out, HS9.out, HB9.out⟩⟩
            case measure => simp [intOf]; omega
        · obtain rfl : j = k := by omega
          have hr0 : r7 = [] := by rw [← HRj.out.1, List.drop_eq_nil_of_le (by rw [List.length_take]; omega)]; rfl
          subst hr0
          have hn0 : n7 = 0 := by have := HL7.out; simpa using this.symm
          subst hn0
          have HS7 := hide HRj.out.2.1
          have HB7 := hide HRj.out.2.2
          clear hj hlt2
          go_wp2_with fail
          refine (open_any a7 0 c7 [] 9 _ HS7.out (by omega) (by simp) (by omega) (by omega)).mono ?_
          rintro e w8 ⟨⟨a1, c1, a2, c2, rfl, _, _⟩, hb8⟩
          rw [oE_none]
          obtain ⟨n1, hn1⟩ : ∃ n1, (K.zX 9 []).length = n1 := ⟨_, rfl⟩
          obtain ⟨n2, hn2⟩ : ∃ n2, (K.zR 9 []).length = n2 := ⟨_, rfl⟩
          rw [hn1, hn2]
          clear hn1 hn2
          go_wp2
          go_ret
          exact ⟨rfl, HB7.out.trans (hb8.mono HB7.out.size)⟩

set_option maxHeartbeats 4000000 in
theorem crcMany_lots (w : World) (b off len cap : Nat) (ps : List Pt) (hl : ps.length = len) (hlen : len ≤ 1048576) (hgt : 20 < len) (hb0 : b < w.heap.size) (hrow : ∀ i p, ps[i]? = some p → w.cell? ⟨b, off + i, none⟩ = some p.v ∧ Sl w .u8 p.a p.len p.cap (ints p.l) ∧ (∀ x ∈ p.l, x < 256) ∧ p.cap ≤ 1048576) :
    Calls Try.prog 8 #[.slice (some ⟨b, off, none⟩) len cap] w fun e w' => e = .returned (.bool true) ∧ Below w.heap.size w w' := by
  have HL := hide hl
  have HR := hide hrow
  have HPL : Hid (∀ p ∈ ps, p.l.length ≤ 1048576) := hide (by
    intro p hp
    obtain ⟨i, hi⟩ := List.getElem?_of_mem hp
    obtain ⟨_, h2, _, h4⟩ := hrow i p hi
    have h5 := h2.1
    rw [ints_length] at h5
    have := h2.2.1
    omega)
  have HP2 : Hid (∀ p ∈ ps, ∀ x ∈ p.l, x < 256) := hide (by
    intro p hp
    obtain ⟨i, hi⟩ := List.getElem?_of_mem hp
    exact (hrow i p hi).2.2.1)
  clear hl hrow
  go_enter Try.func8, Try.ntmps8
  go_wp2_with fail
  refine (shown_any w).mono ?_
  rintro e w2 ⟨rfl, hb⟩
  have HB2 := hide hb
  clear hb
  go_wp2_with fail
  go_loopw [4, 5] (fun v i wr => ∃ (k : Nat) (r : List Nat), k ≤ 20 ∧ i = .int .i64 (k : Int) ∧ Hid (blocks (ps.take k) = r) ∧ wr.ownsRow w2.heap.size 5 1 v r.length (B8 r) ∧ Below w2.heap.size w2 wr) (fun _ i _ => 20 - (intOf i).toNat)
  case atStart => exact ⟨0, [], by omega, rfl, hide rfl, World.ownsRow_nil _ _ _ _, Below.refl _ _⟩
  case round =>
    obtain ⟨k, r, hk, rfl, HRr, hown, hbel⟩ := hrel
    have HO := hide hown
    have HB := hide hbel
    clear hown hbel
    have hrl : r.length ≤ 20971800 := by
      rw [← HRr.out]
      have h1 := blocks_le 1048576 (by omega) (ps.take k) (fun p hp => HPL.out p (List.mem_of_mem_take hp))
      have h2 : (ps.take k).length ≤ 20 := by rw [List.length_take]; omega
      have h3 := Nat.mul_le_mul_right (1048576 + 14) h2
      omega
    by_cases hlt : k < 20
    · obtain ⟨p, hp⟩ : ∃ p, ps[k]? = some p := ⟨ps[k]'(by rw [HL.out]; omega), by simp⟩
      obtain ⟨q1, q2, q3, q4⟩ := HR.out k p hp
      have hbw := HB2.out.trans (HB.out.mono HB2.out.size)
      have hc : wr.cell? ⟨b, off + k, none⟩ = some (.slice p.a p.len p.cap) := by rw [hbw.cell (p := ⟨b, off + k, none⟩) hb0]; exact q1
      have HQ2 := hide (q2.below hbw)
      have HQ3 := hide q3
      have hpl : p.len ≤ 1048576 := by have := q2.2.1; omega
      have HPp := hide hp
      have hkl : (k : Int) < (len : Int) := by omega
      have hk20 : (k : Int) < 20 := by omega
      clear q1 q2 q3 q4 hp hbw
      go_wp2_with fail
      refine (block_any p.a p.len p.cap p.l wr HQ2.out (by omega) HQ3.out).mono ?_
      rintro e w3 ⟨g, rfl, hg, hBg, hb3⟩
      obtain ⟨n, hn⟩ : ∃ n, (K.block p.l).length = n := ⟨_, rfl⟩
      have hnb : n ≤ 1048600 := by
        have h1 := K.block_length p.l
        have h2 : p.l.length = p.len := by rw [← HQ2.out.1, ints_length]
        have h3 := E.leb_ten p.l.length (by omega)
        omega
      have hsf : Sl w3 .u8 (some ⟨g, 0, none⟩) n n (ints (K.block p.l)) := by
        have := Sl.of_row hg (by rw [hn]; unfold maxLen; omega)
        rwa [hn] at this
      rw [hn]
      have HSF := hide hsf
      have HB3 := hide hb3
      have HOW := hide (owns_of_block HO.out (w' := w3) (fun g' hg' => hb3.block g' (owns_lt HO.out hg').2))
      obtain ⟨r2, hr2⟩ : ∃ r2, r ++ K.block p.l = r2 := ⟨_, rfl⟩
      have HR2 := hide hr2
      clear hg hBg hb3 hn hsf hr2
      go_wp2_with (at_builtin; refine wpList_app rfl (.tmp 24) (.tmp 29) rfl w2.heap.size _ r rfl HOW.out (some ⟨g, 0, none⟩) n n (K.block p.l) rfl HSF.out (by omega) (Nat.le_trans HB.out.size HB3.out.size) r2 HR2.out ?_)
      intro v5 w5 ho5 has5
      have HO5 := hide ho5
      have HB5 := hide (HB.out.trans ((HB3.out.mono HB.out.size).trans (has5.below (Nat.le_trans HB.out.size HB3.out.size) (fun k hk => (owns_lt HOW.out hk).1))))
      clear ho5 has5
      go_wp2
      go_roundw
      case rel => exact ⟨k + 1, r2, hlt, by go_num, hide (by rw [blocks_take ps k p HPp.out, HRr.out, HR2.out]), HO5.out, HB5.out⟩
      case measure => simp [intOf]; omega
    · have hk20 : k = 20 := by omega
      have HK20 := hide hk20
      have hx1 : decide ((k : Int) < (len : Int)) = true := by simp; omega
      have hx2 : decide ((k : Int) < 20) = false := by simp; omega
      have hkl1 : k ≤ len := by omega
      clear hk20 hlt
      obtain ⟨n, hn⟩ : ∃ n, r.length = n := ⟨_, rfl⟩
      obtain ⟨a3, c3, rfl, hs3⟩ := Sl.of_own HO.out hn
      rw [hn] at hrl
      have HS3 := hide hs3
      have HBw := hide (HB2.out.trans (HB.out.mono HB2.out.size))
      have HN0 := hide hn
      clear hn hs3
      go_wp2_with fail
      go_loopw [4, 6] (fun v i w7 => ∃ (j : Nat) (r7 : List Nat) (a7 : Option Addr) (n7 c7 : Nat), j ≤ k ∧ i = .int .i64 (j : Int) ∧ v = .slice a7 n7 c7 ∧ n7 ≤ 20971800 ∧ Hid (blocks ((ps.take k).drop j) = r7 ∧ Sl w7 .u8 a7 n7 c7 (ints r7) ∧ Below w.heap.size w w7)) (fun _ i _ => k - (intOf i).toNat)
      case atStart => exact ⟨0, r, a3, n, c3, by omega, rfl, rfl, hrl, hide ⟨by rw [List.drop_zero]; exact HRr.out, HS3.out, HBw.out⟩⟩
      case round =>
        obtain ⟨j, r7, a7, n7, c7, hj, rfl, rfl, hn7, HRj⟩ := hrel
        have HL7 := hide (show r7.length = n7 by rw [← HRj.out.2.1.1, ints_length])
        have HR72 : Hid (∀ y ∈ r7, y < 256) := hide (by
          rw [← HRj.out.1]
          exact blocks_lt _ fun p hp => HP2.out p (List.mem_of_mem_take (List.mem_of_mem_drop hp)))
        by_cases hlt2 : j < k
        · obtain ⟨p, hp⟩ : ∃ p, ps[j]? = some p := ⟨ps[j]'(by rw [HL.out]; omega), by simp⟩
          obtain ⟨q1, q2, q3, q4⟩ := HR.out j p hp
          have hpt : (ps.take k)[j]? = some p := by rw [List.getElem?_take_of_lt hlt2]; exact hp
          have hbd := blocks_drop (ps.take k) j p hpt
          rw [HRj.out.1] at hbd
          have hpl : p.l.length = p.len := by rw [← q2.1, ints_length]
          have hpc := q2.2.1
          obtain ⟨rr, hrr⟩ : ∃ rr, blocks ((ps.take k).drop (j + 1)) = rr := ⟨_, rfl⟩
          rw [hrr] at hbd
          obtain ⟨o1, o2, o3⟩ := K.o_block p.l rr (by omega) 1048576 (by omega)
          rw [← hbd] at o1 o2 o3
          have HO1 := hide o1
          have HO2 := hide (show K.zX 1048576 r7 = p.l by rw [(K.z_good o1).1, o2])
          have HO3 := hide (show K.zR 1048576 r7 = rr by rw [(K.z_good o1).2, o3])
          have HRR := hide hrr
          have hrl2 : rr.length ≤ 20971800 := by
            have := congrArg List.length hbd
            rw [List.length_append, HL7.out] at this
            omega
          have HPL2 := hide hpl
          have hbig : decide (1048576 < (p.len : Int)) = false := by simp; omega
          have HQ1 := hide q1
          have HQ2 := hide q2
          have hkl : (j : Int) < (len : Int) := by omega
          have hk20 : (j : Int) < 20 := by have := HK20.out; omega
          have hp48 : p.len ≤ 1048576 := by omega
          clear q1 q2 q3 q4 hp hpt hbd hpl o1 o2 o3 hrr
          go_wp2_with fail
          refine (open_any a7 n7 c7 r7 1048576 _ HRj.out.2.1 (by omega) HR72.out (by omega) (by omega)).mono ?_
          rintro e w8 ⟨⟨a1, c1, a2, c2, rfl, s1, s2⟩, hb8⟩
          rw [HO1.out]
          rw [HO2.out] at s1 ⊢
          rw [HO3.out] at s2 ⊢
          rw [HPL2.out] at s1 ⊢
          obtain ⟨n2, hn2⟩ : ∃ n2, rr.length = n2 := ⟨_, rfl⟩
          rw [hn2] at s2 hrl2 ⊢
          have HB8 := hide (HRj.out.2.2.trans (hb8.mono HRj.out.2.2.size))
          have HS1 := hide s1
          have HS2 := hide s2
          have hc : w8.cell? ⟨b, off + j, none⟩ = some (.slice p.a p.len p.cap) := by rw [HB8.out.cell (p := ⟨b, off + j, none⟩) hb0]; exact HQ1.out
          have HC := hide hc
          have HSP := hide (HQ2.out.below HB8.out)
          clear s1 s2 hb8 hn2
          go_wp2_with fail
          have hb08 : b < w8.heap.size := by have := HB8.out.size; omega
          refine V.wp_region2 (w0 := w8) [58, 59, 60, 61, 62, 63, 64, 65, 66, 67, 68, 69] [9, 7, 0, 6] (manyTbl b off len cap j a1 p.len c1 p) rfl (by kernel_rfl) (by kernel_rfl) (Below.refl _ _) ?hb ?hs ?hd
          case hb =>
            intro d hd
            simp only [List.mem_cons, List.not_mem_nil, or_false] at hd
            rcases hd with rfl | rfl | rfl | rfl <;> rfl
          case hs =>
            refine ⟨?_, ?_, ?_, ?_, ?_, ?_, ?_, ?_, ?_, ?_, ?_, ?_, trivial⟩
            · exact V.Step.move (.inl rfl) (.inl rfl) (.inl ⟨_, rfl⟩) (fun _ h => by cases h; rfl)
            · exact V.Step.bin (v := .bool false) (.inl rfl) rfl (.inl ⟨_, rfl⟩) (.inr ⟨_, rfl⟩) rfl rfl (fun w => ⟨rfl, by simp [go_sem]⟩) (fun _ h => by cases h; rfl)
            · exact V.Step.move (.inl rfl) (.inl rfl) (.inl ⟨_, rfl⟩) (fun _ h => by cases h; rfl)
            · exact V.Step.move (.inr ⟨_, _, _, rfl, rfl, rfl⟩) (.inl rfl) (.inl ⟨_, rfl⟩) (fun _ h => by cases h; rfl)
            · exact V.Step.strOld (.inr ⟨_, _, _, rfl, rfl, rfl⟩) rfl rfl HS1.out (fun _ h => by cases h; rfl)
            · exact V.Step.move (.inr ⟨_, _, _, rfl, rfl, rfl⟩) (.inl rfl) (.inl ⟨_, rfl⟩) (fun _ h => by cases h; rfl)
            · exact V.Step.move (.inr ⟨_, _, _, rfl, rfl, rfl⟩) (.inl rfl) (.inl ⟨_, rfl⟩) (fun _ h => by cases h; rfl)
            · exact V.Step.atR (.inr ⟨_, _, _, rfl, rfl, rfl⟩) rfl rfl (.inl ⟨_, rfl⟩) rfl (by omega) (by omega) (fun _ h => by cases h; rfl)
            · exact V.Step.ldR (.inr ⟨_, _, _, rfl, rfl, rfl⟩) rfl rfl hb08 (by rw [Int.toNat_natCast]; exact HC.out) (fun _ h => by cases h; rfl)
            · exact V.Step.strOld (.inr ⟨_, _, _, rfl, rfl, rfl⟩) rfl rfl HSP.out (fun _ h => by cases h; rfl)
            · exact V.Step.bin (v := .bool false) (.inr ⟨_, _, _, rfl, rfl, rfl⟩) rfl (.inl ⟨_, rfl⟩) (.inl ⟨_, rfl⟩) rfl rfl (fun w => ⟨rfl, by simp [go_sem]⟩) (fun _ h => by cases h; rfl)
            · exact V.Step.pick (b := false) (.inl rfl) rfl ⟨_, rfl, rfl⟩ (.inl ⟨_, rfl⟩) (fun _ h => by cases h; rfl)
          case hd =>
            intro vs w9 hb9 hk9
            have h69 : vs 69 = .bool false := hk9 11 _ 69 rfl rfl
            simp only [V.puts, List.foldl_cons, List.foldl_nil, h69, Act.put, List.setIfInBounds_toArray, List.set_cons_zero, List.set_cons_succ]
            have HB9 := hide (HB8.out.trans (hb9.mono HB8.out.size))
            have HS9 := hide (HS2.out.below hb9)
            clear hk9 hb9 h69 hc
            go_wp2_with fail
            go_roundw
            case rel => exact ⟨j + 1, rr, a2, n2, c2, by omega, by go_num, rfl, hrl2, hide ⟨HRR.out, HS9.out, HB9.out⟩⟩
            case measure => simp [intOf]; omega
        · obtain rfl : j = k := by omega
          have hr0 : r7 = [] := by rw [← HRj.out.1, List.drop_eq_nil_of_le (by rw [List.length_take]; omega)]; rfl
          subst hr0
          have hn0 : n7 = 0 := by have := HL7.out; simpa using this.symm
          subst hn0
          have HS7 := hide HRj.out.2.1
          have HB7 := hide HRj.out.2.2
          clear hj hlt2
          go_wp2_with fail
          refine (open_any a7 0 c7 [] 9 _ HS7.out (by omega) (by simp) (by omega) (by omega)).mono ?_
          rintro e w8 ⟨⟨a1, c1, a2, c2, rfl, _, _⟩, hb8⟩
          rw [oE_none]
          obtain ⟨n1, hn1⟩ : ∃ n1, (K.zX 9 []).length = n1 := ⟨_, rfl⟩
          obtain ⟨n2, hn2⟩ : ∃ n2, (K.zR 9 []).length = n2 := ⟨_, rfl⟩
          rw [hn1, hn2]
          clear hn1 hn2
          go_wp2
          go_ret
          exact ⟨rfl, HB7.out.trans (hb8.mono HB7.out.size)⟩

/-- Of slices, at most so many. -/
theorem crcMany_walkU (w : World) (ao : Option Addr) (len cap : Nat) (ps : List Pt) (h : CameRows 1048576 w ao len cap ps) :
    Calls Try.prog 8 #[.slice ao len cap] w fun e w' => e = .returned (.bool true) ∧ Below w.heap.size w w' := by
  obtain ⟨h1, h2, h3, h4⟩ := h
  by_cases h0 : len = 0
  · subst h0; exact crcMany_zero w ao cap
  · rcases h4 with h4 | ⟨b, off, rfl, hb, hr⟩
    · omega
    · by_cases h20 : len ≤ 20
      · exact crcMany_few w b off len cap ps h1 h20 hb hr
      · exact crcMany_lots w b off len cap ps h1 (by omega) (by omega) hb hr
end Go.Proofs.Ytmobcabkaodjoaa

/- The walk of the statement: what was split is joined as it was; what was laid down is read. -/
import Derived.Test.YtbgofbajihdjdaaTE
import Derived.Test.YtbgofbajihdjdaaT9
import Derived.Test.YtbgofbajihdjdaaT7
import Derived.Test.YtbgofbajihdjdaaTD
namespace Go.Proofs.Ytbgofbajihdjdaa
set_option linter.unusedVariables false
open Go.RowKit

def nbackT (g off len cap h of2 cm j : Nat) (xi : Int) (xs : ByteArray) : List (Nat × V.Ent) :=
   [(0, V.Ent.is (.slice (some ⟨g, off, none⟩) len cap)),
    (6, V.Ent.is (.slice (some ⟨h, of2, none⟩) len cm)),
    (10, V.Ent.is (.int .i64 (j : Int))),
    (70, V.Ent.is (.slice (some ⟨g, off, none⟩) len cap)),
    (71, V.Ent.is (.int .i64 (j : Int))),
    (72, V.Ent.is (.pointer (some ⟨g, off + j * 3, none⟩))),
    (73, V.Ent.is (.pointer (some ⟨g, off + j * 3, none⟩))),
    (74, V.Ent.is (.int .i64 0)),
    (75, V.Ent.is (.bool true)),
    (76, V.Ent.is (.bool true)),
    (77, V.Ent.is (.slice (some ⟨h, of2, none⟩) len cm)),
    (78, V.Ent.is (.int .i64 (j : Int))),
    (79, V.Ent.is (.pointer (some ⟨h, of2 + j * 3, none⟩))),
    (80, V.Ent.is (.agg #[.int .i64 0, .int .i64 0, .string ⟨#[]⟩])),
    (81, V.Ent.is (.agg #[.int .i64 0, .int .i64 0, .string ⟨#[]⟩])),
    (82, V.Ent.is (.bool false)),
    (83, V.Ent.is (.bool false)),
    (84, V.Ent.is (.bool false)),
    (85, V.Ent.is (.slice (some ⟨g, off, none⟩) len cap)),
    (86, V.Ent.is (.int .i64 (j : Int))),
    (87, V.Ent.is (.pointer (some ⟨g, off + j * 3, none⟩))),
    (88, V.Ent.is (.pointer (some ⟨g, off + j * 3, none⟩))),
    (89, V.Ent.is (.int .i64 0)),
    (90, V.Ent.is (.bool false)),
    (91, V.Ent.is (.bool false)),
    (92, V.Ent.is (undef)),
    (93, V.Ent.is (undef)),
    (94, V.Ent.is (undef)),
    (95, V.Ent.is (undef)),
    (96, V.Ent.is (undef)),
    (97, V.Ent.is (undef)),
    (98, V.Ent.is (undef)),
    (99, V.Ent.is (undef)),
    (100, V.Ent.is (undef)),
    (101, V.Ent.is (.bool false)),
    (102, V.Ent.is (.bool false))]
def nbackF (g off len cap h of2 cm j : Nat) (xk xi : Int) (xs : ByteArray) : List (Nat × V.Ent) :=
   [(0, V.Ent.is (.slice (some ⟨g, off, none⟩) len cap)),
    (6, V.Ent.is (.slice (some ⟨h, of2, none⟩) len cm)),
    (10, V.Ent.is (.int .i64 (j : Int))),
    (70, V.Ent.is (.slice (some ⟨g, off, none⟩) len cap)),
    (71, V.Ent.is (.int .i64 (j : Int))),
    (72, V.Ent.is (.pointer (some ⟨g, off + j * 3, none⟩))),
    (73, V.Ent.is (.pointer (some ⟨g, off + j * 3, none⟩))),
    (74, V.Ent.is (.int .i64 xk)),
    (75, V.Ent.is (.bool false)),
    (76, V.Ent.is (.bool false)),
    (77, V.Ent.is (undef)),
    (78, V.Ent.is (undef)),
    (79, V.Ent.is (undef)),
    (80, V.Ent.is (undef)),
    (81, V.Ent.is (undef)),
    (82, V.Ent.is (undef)),
    (83, V.Ent.is (.bool false)),
    (84, V.Ent.is (.bool false)),
    (85, V.Ent.is (.slice (some ⟨g, off, none⟩) len cap)),
    (86, V.Ent.is (.int .i64 (j : Int))),
    (87, V.Ent.is (.pointer (some ⟨g, off + j * 3, none⟩))),
    (88, V.Ent.is (.pointer (some ⟨g, off + j * 3, none⟩))),
    (89, V.Ent.is (.int .i64 xk)),
    (90, V.Ent.is (.bool true)),
    (91, V.Ent.is (.bool true)),
    (92, V.Ent.is (.slice (some ⟨h, of2, none⟩) len cm)),
    (93, V.Ent.is (.int .i64 (j : Int))),
    (94, V.Ent.is (.pointer (some ⟨h, of2 + j * 3, none⟩))),
    (95, V.Ent.is (.agg #[.int .i64 xk, .int .i64 xi, .string xs])),
    (96, V.Ent.is (.slice (some ⟨g, off, none⟩) len cap)),
    (97, V.Ent.is (.int .i64 (j : Int))),
    (98, V.Ent.is (.pointer (some ⟨g, off + j * 3, none⟩))),
    (99, V.Ent.is (.agg #[.int .i64 xk, .int .i64 xi, .string xs])),
    (100, V.Ent.is (.bool false)),
    (101, V.Ent.is (.bool false)),
    (102, V.Ent.is (.bool false))]

theorem of_bytes (bs : List Bool) (h : bs.length ≤ 5000) : unpC (A.bytesOf bs) (bs.length : Int) 1 = 0 ∧ ofL (A.bytesOf bs) (bs.length : Int) = bs := by
  have h1 : unpArg (bs.length : Int) 1 = true := (unpArg_iff _ _).2 (by omega)
  have h2 : (bs.length : Int).toNat * (1 : Int).toNat = bs.length := by
    rw [Int.toNat_natCast]
    exact Nat.mul_one _
  have h3 := jb_bytes bs
  refine ⟨?_, ?_⟩
  · unfold unpC
    rw [h1, if_pos rfl, h2, h3]
    rfl
  · unfold ofL unpL
    rw [h1, h2, h3]
    show List.map _ (nums (A.bytesOf bs) (bs.length : Int).toNat (1 : Int).toNat) = bs
    have h4 := nums_pack (ones bs) 1 (ones_in bs) (ones_fit bs)
    rw [ones_bits, ones_length] at h4
    rw [Int.toNat_natCast, show (1 : Int).toNat = 1 from rfl, h4]
    unfold ones
    rw [List.map_map]
    conv => rhs; rw [← List.map_id bs]
    apply List.map_congr_left
    intro b _
    cases b <;> rfl

set_option maxHeartbeats 8000000 in
theorem nullBack_walk (w : World) (a : Option Addr) (len cap : Nat) (l : List Z.V) (hs : SlV w a len cap l) (hr : cap * 32 ≤ 140737488351232) :
    Calls Try.prog 5 #[.slice a len cap] w fun e w' => e = .returned (.bool true) ∧ Below w.heap.size w w' := by
  have hlen : len ≤ 140737488351232 := by have := hs.2.1; omega
  have HS := hide hs
  have HLL := hide hs.1
  have HNL : Hid ((nus l).length = len) := by show _ = _; rw [nus_length, hs.1]
  have hco := cntT_oth l
  rw [hs.1] at hco
  obtain ⟨no, hno⟩ : ∃ x, (oth l).length = x := ⟨_, rfl⟩
  obtain ⟨c, hc⟩ : ∃ c, cntT (nus l) = c := ⟨_, rfl⟩
  rw [hno, hc] at hco
  have HNO := hide hno
  have HC := hide hc
  have HCO := hide hco
  have hnl : no ≤ len := by omega
  have hcl : c ≤ len := by omega
  have HE : Hid (joinE (nus l) (oth l) = 0) := by show _ = _; unfold joinE; rw [joinOk_split]; rfl
  have HJ : Hid (joinL (nus l) (oth l) = l.map Z.bare) := by show _ = _; unfold joinL; rw [joinOk_split]; exact joinV_split l
  clear hs hr hno hc hco
  go_enter Try.func5, Try.ntmps5
  go_wp2_with fail
  refine (nshown_any _).mono ?_
  rintro e w1 ⟨rfl, hb⟩
  have b0 := hide hb
  clear hb
  by_cases hbig : 5000 < len
  · go_wp2
    go_ret
    exact ⟨rfl, b0.out⟩
  · go_wp2_with fail
    refine (zsplit_any a len cap l _ (HS.out.below b0.out) (by omega)).mono ?_
    rintro e w2 ⟨v1, v2, rfl, hn1, ho2, hb⟩
    obtain ⟨p1, c1, rfl, s1, _⟩ := Sb.of_owns (l := nus l) (by rw [HNL.out]; exact hn1)
    obtain ⟨p2, c2, rfl, s2, _⟩ := SlV.of_own ho2
    rw [HNL.out] at s1 ⊢
    rw [HNO.out] at s2 ⊢
    have HS1 := hide s1
    have HS2 := hide s2
    replace b0 := hide (bthen b0.out hb)
    clear hn1 ho2 hb s1 s2
    go_wp2_with fail
    refine (zjoin_any p1 len c1 (nus l) p2 no c2 (oth l) _ HS1.out HS2.out (by omega) (by omega)).mono ?_
    rintro e w3 ⟨v3, rfl, ho3, hb⟩
    rw [HJ.out] at ho3
    obtain ⟨pm, cm, rfl, s3, _⟩ := SlV.of_own ho3
    have hml : (l.map Z.bare).length = len := by rw [List.length_map, HLL.out]
    rw [hml] at s3 ⊢
    rw [HE.out]
    have HSM := hide s3
    replace HS1 := hide (HS1.out.below hb)
    replace b0 := hide (bthen b0.out hb)
    clear ho3 hb s3 hml HS2
    go_wp2_with fail
    refine (zbytes_any p1 len c1 (nus l) _ HS1.out (by omega)).mono ?_
    rintro e w4 ⟨v4, rfl, ho4, hb⟩
    obtain ⟨p4, c4, rfl, s4, _⟩ := Sl.of_bytes ho4
    have HS4 := hide s4
    replace HS1 := hide (HS1.out.below hb)
    replace HSM := hide (HSM.out.below hb)
    replace b0 := hide (bthen b0.out hb)
    obtain ⟨K, hK⟩ : ∃ K, (A.bytesOf (nus l)).length = K := ⟨_, rfl⟩
    have hKl : K ≤ 5000 := by rw [← hK, A.bytesOf_length, HNL.out]; omega
    rw [hK] at HS4 ⊢
    clear ho4 hb s4 hK
    have hof := of_bytes (nus l) (by rw [HNL.out]; omega)
    rw [HNL.out] at hof
    have HOF := hide hof
    clear hof
    go_wp2_with fail
    refine (zof_any p4 K c4 (A.bytesOf (nus l)) (len : Int) _ HS4.out (A.bytesOf_lt _) (by omega)).mono ?_
    rintro e w5 ⟨v5, rfl, ho5, hb⟩
    rw [HOF.out.2] at ho5
    rw [HOF.out.1]
    obtain ⟨p5, c5, rfl, s5, _⟩ := Sb.of_owns ho5
    rw [HNL.out] at s5 ⊢
    have HS5 := hide s5
    replace HS1 := hide (HS1.out.below hb)
    replace HSM := hide (HSM.out.below hb)
    replace b0 := hide (bthen b0.out hb)
    clear ho5 hb s5 HS4 HOF
    have hll : ((len : Int) != (len : Int)) = false := by simp
    go_wp2_with fail
    refine (bsame_yes p1 p5 len c1 c5 (nus l) _ HS1.out HS5.out (by omega)).mono ?_
    rintro e w6 ⟨rfl, hb⟩
    replace HS1 := hide (HS1.out.below hb)
    replace HSM := hide (HSM.out.below hb)
    replace b0 := hide (bthen b0.out hb)
    clear hb HS5
    go_wp2_with fail
    refine (zcount_any p1 len c1 (nus l) _ HS1.out (by omega)).mono ?_
    rintro e w6 ⟨rfl, hb⟩
    rw [HC.out]
    replace HSM := hide (HSM.out.below hb)
    replace b0 := hide (bthen b0.out hb)
    clear hb HS1
    have hsum : (((no : Int) + (c : Int)) != (len : Int)) = false := by rw [bne_eq_false_iff_eq]; have := HCO.out; omega
    go_wp2_with fail
    go_loopw [10] (fun i wr => ∃ j : Nat, j ≤ len ∧ i = .int .i64 j ∧ Hid (Below w6.heap.size w6 wr)) (fun i _ => len - (intOf i).toNat)
    case atStart => exact ⟨0, Nat.zero_le _, rfl, hide (Below.refl _ _)⟩
    case round =>
      obtain ⟨j, hj, rfl, hwr⟩ := hrel
      by_cases hjl : j < len
      · obtain ⟨⟨xk, xi, xs⟩, hx⟩ : ∃ x, l[j]? = some x := ⟨l[j]'(by rw [HLL.out]; exact hjl), List.getElem?_eq_getElem _⟩
        have hbx : (l.map Z.bare)[j]? = some (Z.bare ⟨xk, xi, xs⟩) := by rw [List.getElem?_map, hx]; rfl
        rcases HS.out.2.2.2.2 with h5 | ⟨g, off, rfl, hlt, h5⟩
        · omega
        rcases HSM.out.2.2.2.2 with h6 | ⟨h, of2, rfl, hlt2, h6⟩
        · omega
        obtain ⟨q1, q2, q3⟩ := h5 j _ hx
        obtain ⟨r1, r2, r3⟩ := h6 j _ hbx
        have hall := bthen b0.out hwr.out
        have hgl : g < wr.heap.size := by have := hall.size; omega
        have hml : h < wr.heap.size := by have := hwr.out.size; omega
        have d1 : wr.cell? ⟨g, off + j * 3, none⟩ = some (.int .i64 xk) := by rw [hall.cell (p := ⟨g, off + j * 3, none⟩) hlt]; exact q1
        have d2 : wr.cell? ⟨g, off + j * 3 + 1, none⟩ = some (.int .i64 xi) := by rw [hall.cell (p := ⟨g, off + j * 3 + 1, none⟩) hlt]; exact q2
        have d3 : wr.cell? ⟨g, off + j * 3 + 2, none⟩ = some (.string xs) := by rw [hall.cell (p := ⟨g, off + j * 3 + 2, none⟩) hlt]; exact q3
        have e1 : wr.cell? ⟨h, of2 + j * 3, none⟩ = some (.int .i64 (Z.bare ⟨xk, xi, xs⟩).k) := by rw [hwr.out.cell (p := ⟨h, of2 + j * 3, none⟩) hlt2]; exact r1
        have e2 : wr.cell? ⟨h, of2 + j * 3 + 1, none⟩ = some (.int .i64 (Z.bare ⟨xk, xi, xs⟩).i) := by rw [hwr.out.cell (p := ⟨h, of2 + j * 3 + 1, none⟩) hlt2]; exact r2
        have e3 : wr.cell? ⟨h, of2 + j * 3 + 2, none⟩ = some (.string (Z.bare ⟨xk, xi, xs⟩).s) := by rw [hwr.out.cell (p := ⟨h, of2 + j * 3 + 2, none⟩) hlt2]; exact r3
        clear q1 q2 q3 r1 r2 r3 h5 h6 hbx hx hall
        go_wp2_with fail
        by_cases hk0 : xk = 0
        · subst hk0
          have hz : Z.bare ⟨0, xi, xs⟩ = ⟨0, 0, ⟨#[]⟩⟩ := rfl
          rw [hz] at e1 e2 e3
          refine V.wp_region2 (w0 := wr) [70, 71, 72, 73, 74, 75, 76, 77, 78, 79, 80, 81, 82, 83, 84, 85, 86, 87, 88, 89, 90, 91, 92, 93, 94, 95, 96, 97, 98, 99, 100, 101, 102] [0, 6, 10] (nbackT g off len cap h of2 cm j xi xs) rfl (by kernel_rfl) (by kernel_rfl) (Below.refl _ _) ?hb ?hs ?hd
          case hb =>
            intro d hd
            simp only [List.mem_cons, List.not_mem_nil, or_false] at hd
            rcases hd with rfl | rfl | rfl <;> rfl
          case hs =>
            refine ⟨?_, ?_, ?_, ?_, ?_, ?_, ?_, ?_, ?_, ?_, ?_, ?_, ?_, ?_, ?_, ?_, ?_, ?_, ?_, ?_, ?_, ?_, ?_, ?_, ?_, ?_, ?_, ?_, ?_, ?_, ?_, ?_, ?_, trivial⟩
            · exact V.Step.move (.inl rfl) (.inl rfl) (.inl ⟨_, rfl⟩) (fun _ h => by cases h; rfl)
            · exact V.Step.move (.inl rfl) (.inl rfl) (.inl ⟨_, rfl⟩) (fun _ h => by cases h; rfl)
            · exact V.Step.idxV (k := .i64) (i := (j : Int)) (p := .pointer (some ⟨g, off + j * 3, none⟩)) (.inl rfl) rfl rfl (.inl ⟨_, rfl⟩) rfl (by omega) (by omega) rfl (fun _ h => by cases h; rfl)
            · exact V.Step.field0 (.inl rfl) rfl rfl (fun _ h => by cases h; rfl)
            · exact V.Step.ldT (.inl rfl) rfl rfl (.inr (.inr ⟨rfl, _, rfl⟩)) hgl d1 (fun _ h => by cases h; rfl)
            · exact V.Step.bin (v1 := .int .i64 0) (v2 := .int .i64 0) (v := .bool true) (.inl rfl) rfl (.inl ⟨_, rfl⟩) (.inr ⟨_, rfl⟩) rfl rfl (fun w => ⟨rfl, by simp [go_sem]⟩) (fun _ h => by cases h; rfl)
            · exact V.Step.move (.inl rfl) (.inl rfl) (.inl ⟨_, rfl⟩) (fun _ h => by cases h; rfl)
            · exact V.Step.move (.inr ⟨_, _, _, rfl, rfl, rfl⟩) (.inl rfl) (.inl ⟨_, rfl⟩) (fun _ h => by cases h; rfl)
            · exact V.Step.move (.inr ⟨_, _, _, rfl, rfl, rfl⟩) (.inl rfl) (.inl ⟨_, rfl⟩) (fun _ h => by cases h; rfl)
            · exact V.Step.idxV (k := .i64) (i := (j : Int)) (p := .pointer (some ⟨h, of2 + j * 3, none⟩)) (.inr ⟨_, _, _, rfl, rfl, rfl⟩) rfl rfl (.inl ⟨_, rfl⟩) rfl (by omega) (by omega) rfl (fun _ h => by cases h; rfl)
            · exact V.Step.ldV (.inr ⟨_, _, _, rfl, rfl, rfl⟩) rfl rfl hml e1 e2 e3 (fun _ h => by cases h; rfl)
            · exact V.Step.zeroV (.inr ⟨_, _, _, rfl, rfl, rfl⟩) rfl (fun _ h => by cases h; rfl)
            · exact V.Step.bin (v1 := .agg #[.int .i64 0, .int .i64 0, .string ⟨#[]⟩]) (v2 := .agg #[.int .i64 0, .int .i64 0, .string ⟨#[]⟩]) (v := .bool false) (.inr ⟨_, _, _, rfl, rfl, rfl⟩) rfl (.inl ⟨_, rfl⟩) (.inl ⟨_, rfl⟩) rfl rfl (fun w => ⟨run_eqGuard_agg _ _ _ _ _ _ _ (by kernel_rfl), by rw [vne_run, Z.same_self]; rfl⟩) (fun _ h => by cases h; rfl)
            · exact V.Step.pick (b := true) (.inl rfl) rfl ⟨_, rfl, rfl⟩ (.inl ⟨_, rfl⟩) (fun _ h => by cases h; rfl)
            · exact V.Step.move (.inl rfl) (.inl rfl) (.inl ⟨_, rfl⟩) (fun _ h => by cases h; rfl)
            · exact V.Step.move (.inr ⟨_, _, _, rfl, rfl, rfl⟩) (.inl rfl) (.inl ⟨_, rfl⟩) (fun _ h => by cases h; rfl)
            · exact V.Step.move (.inr ⟨_, _, _, rfl, rfl, rfl⟩) (.inl rfl) (.inl ⟨_, rfl⟩) (fun _ h => by cases h; rfl)
            · exact V.Step.idxV (k := .i64) (i := (j : Int)) (p := .pointer (some ⟨g, off + j * 3, none⟩)) (.inr ⟨_, _, _, rfl, rfl, rfl⟩) rfl rfl (.inl ⟨_, rfl⟩) rfl (by omega) (by omega) rfl (fun _ h => by cases h; rfl)
            · exact V.Step.field0 (.inr ⟨_, _, _, rfl, rfl, rfl⟩) rfl rfl (fun _ h => by cases h; rfl)
            · exact V.Step.ldT (.inr ⟨_, _, _, rfl, rfl, rfl⟩) rfl rfl (.inr (.inr ⟨rfl, _, rfl⟩)) hgl d1 (fun _ h => by cases h; rfl)
            · exact V.Step.bin (v1 := .int .i64 0) (v2 := .int .i64 0) (v := .bool false) (.inr ⟨_, _, _, rfl, rfl, rfl⟩) rfl (.inl ⟨_, rfl⟩) (.inr ⟨_, rfl⟩) rfl rfl (fun w => ⟨rfl, by simp [go_sem]⟩) (fun _ h => by cases h; rfl)
            · exact V.Step.move (.inr ⟨_, _, _, rfl, rfl, rfl⟩) (.inl rfl) (.inl ⟨_, rfl⟩) (fun _ h => by cases h; rfl)
            · exact V.Step.skip (.inl ⟨_, _, rfl, rfl, .inl rfl⟩) (fun _ h => by cases h; rfl)
            · exact V.Step.skip (.inl ⟨_, _, rfl, rfl, .inl rfl⟩) (fun _ h => by cases h; rfl)
            · exact V.Step.skip (.inl ⟨_, _, rfl, rfl, .inl rfl⟩) (fun _ h => by cases h; rfl)
            · exact V.Step.skip (.inl ⟨_, _, rfl, rfl, .inl rfl⟩) (fun _ h => by cases h; rfl)
            · exact V.Step.skip (.inl ⟨_, _, rfl, rfl, .inl rfl⟩) (fun _ h => by cases h; rfl)
            · exact V.Step.skip (.inl ⟨_, _, rfl, rfl, .inl rfl⟩) (fun _ h => by cases h; rfl)
            · exact V.Step.skip (.inl ⟨_, _, rfl, rfl, .inl rfl⟩) (fun _ h => by cases h; rfl)
            · exact V.Step.skip (.inl ⟨_, _, rfl, rfl, .inl rfl⟩) (fun _ h => by cases h; rfl)
            · exact V.Step.skip (.inl ⟨_, _, rfl, rfl, .inl rfl⟩) (fun _ h => by cases h; rfl)
            · exact V.Step.pick (b := false) (.inr ⟨_, _, _, rfl, rfl, rfl⟩) rfl ⟨_, rfl, rfl⟩ (.inr ⟨_, rfl⟩) (fun _ h => by cases h; rfl)
            · exact V.Step.pick (b := false) (.inl rfl) rfl ⟨_, rfl, rfl⟩ (.inl ⟨_, rfl⟩) (fun _ h => by cases h; rfl)
          case hd =>
          intro vs w7 hw7 hk
          have v70 : vs 70 = .slice (some ⟨g, off, none⟩) len cap := hk 0 _ 70 rfl rfl
          have v71 : vs 71 = .int .i64 (j : Int) := hk 1 _ 71 rfl rfl
          have v72 : vs 72 = .pointer (some ⟨g, off + j * 3, none⟩) := hk 2 _ 72 rfl rfl
          have v73 : vs 73 = .pointer (some ⟨g, off + j * 3, none⟩) := hk 3 _ 73 rfl rfl
          have v74 : vs 74 = .int .i64 0 := hk 4 _ 74 rfl rfl
          have v75 : vs 75 = .bool true := hk 5 _ 75 rfl rfl
          have v76 : vs 76 = .bool true := hk 6 _ 76 rfl rfl
          have v77 : vs 77 = .slice (some ⟨h, of2, none⟩) len cm := hk 7 _ 77 rfl rfl
          have v78 : vs 78 = .int .i64 (j : Int) := hk 8 _ 78 rfl rfl
          have v79 : vs 79 = .pointer (some ⟨h, of2 + j * 3, none⟩) := hk 9 _ 79 rfl rfl
          have v80 : vs 80 = .agg #[.int .i64 0, .int .i64 0, .string ⟨#[]⟩] := hk 10 _ 80 rfl rfl
          have v81 : vs 81 = .agg #[.int .i64 0, .int .i64 0, .string ⟨#[]⟩] := hk 11 _ 81 rfl rfl
          have v82 : vs 82 = .bool false := hk 12 _ 82 rfl rfl
          have v83 : vs 83 = .bool false := hk 13 _ 83 rfl rfl
          have v84 : vs 84 = .bool false := hk 14 _ 84 rfl rfl
          have v85 : vs 85 = .slice (some ⟨g, off, none⟩) len cap := hk 15 _ 85 rfl rfl
          have v86 : vs 86 = .int .i64 (j : Int) := hk 16 _ 86 rfl rfl
          have v87 : vs 87 = .pointer (some ⟨g, off + j * 3, none⟩) := hk 17 _ 87 rfl rfl
          have v88 : vs 88 = .pointer (some ⟨g, off + j * 3, none⟩) := hk 18 _ 88 rfl rfl
          have v89 : vs 89 = .int .i64 0 := hk 19 _ 89 rfl rfl
          have v90 : vs 90 = .bool false := hk 20 _ 90 rfl rfl
          have v91 : vs 91 = .bool false := hk 21 _ 91 rfl rfl
          have v92 : vs 92 = undef := hk 22 _ 92 rfl rfl
          have v93 : vs 93 = undef := hk 23 _ 93 rfl rfl
          have v94 : vs 94 = undef := hk 24 _ 94 rfl rfl
          have v95 : vs 95 = undef := hk 25 _ 95 rfl rfl
          have v96 : vs 96 = undef := hk 26 _ 96 rfl rfl
          have v97 : vs 97 = undef := hk 27 _ 97 rfl rfl
          have v98 : vs 98 = undef := hk 28 _ 98 rfl rfl
          have v99 : vs 99 = undef := hk 29 _ 99 rfl rfl
          have v100 : vs 100 = undef := hk 30 _ 100 rfl rfl
          have v101 : vs 101 = .bool false := hk 31 _ 101 rfl rfl
          have v102 : vs 102 = .bool false := hk 32 _ 102 rfl rfl
          simp only [V.puts, List.foldl_cons, List.foldl_nil, v70, v71, v72, v73, v74, v75, v76, v77, v78, v79, v80, v81, v82, v83, v84, v85, v86, v87, v88, v89, v90, v91, v92, v93, v94, v95, v96, v97, v98, v99, v100, v101, v102, Act.put, List.setIfInBounds_toArray, List.set_cons_zero, List.set_cons_succ]
          have HW7 := hide (bthen hwr.out hw7)
          clear hk hw7 hwr d1 d2 d3 e1 e2 e3 v70 v71 v72 v73 v74 v75 v76 v77 v78 v79 v80 v81 v82 v83 v84 v85 v86 v87 v88 v89 v90 v91 v92 v93 v94 v95 v96 v97 v98 v99 v100 v101 v102
          go_wp2
          go_roundw
          case rel => exact ⟨j + 1, hjl, by go_num, HW7⟩
          case measure => simp [intOf]; omega
        · have hz : Z.bare ⟨xk, xi, xs⟩ = ⟨xk, xi, xs⟩ := by simp [Z.bare, hk0]
          rw [hz] at e1 e2 e3
          clear hz
          refine V.wp_region2 (w0 := wr) [70, 71, 72, 73, 74, 75, 76, 77, 78, 79, 80, 81, 82, 83, 84, 85, 86, 87, 88, 89, 90, 91, 92, 93, 94, 95, 96, 97, 98, 99, 100, 101, 102] [0, 6, 10] (nbackF g off len cap h of2 cm j xk xi xs) rfl (by kernel_rfl) (by kernel_rfl) (Below.refl _ _) ?hb ?hs ?hd
          case hb =>
            intro d hd
            simp only [List.mem_cons, List.not_mem_nil, or_false] at hd
            rcases hd with rfl | rfl | rfl <;> rfl
          case hs =>
            refine ⟨?_, ?_, ?_, ?_, ?_, ?_, ?_, ?_, ?_, ?_, ?_, ?_, ?_, ?_, ?_, ?_, ?_, ?_, ?_, ?_, ?_, ?_, ?_, ?_, ?_, ?_, ?_, ?_, ?_, ?_, ?_, ?_, ?_, trivial⟩
            · exact V.Step.move (.inl rfl) (.inl rfl) (.inl ⟨_, rfl⟩) (fun _ h => by cases h; rfl)
            · exact V.Step.move (.inl rfl) (.inl rfl) (.inl ⟨_, rfl⟩) (fun _ h => by cases h; rfl)
            · exact V.Step.idxV (k := .i64) (i := (j : Int)) (p := .pointer (some ⟨g, off + j * 3, none⟩)) (.inl rfl) rfl rfl (.inl ⟨_, rfl⟩) rfl (by omega) (by omega) rfl (fun _ h => by cases h; rfl)
            · exact V.Step.field0 (.inl rfl) rfl rfl (fun _ h => by cases h; rfl)
            · exact V.Step.ldT (.inl rfl) rfl rfl (.inr (.inr ⟨rfl, _, rfl⟩)) hgl d1 (fun _ h => by cases h; rfl)
            · exact V.Step.bin (v1 := .int .i64 xk) (v2 := .int .i64 0) (v := .bool false) (.inl rfl) rfl (.inl ⟨_, rfl⟩) (.inr ⟨_, rfl⟩) rfl rfl (fun w => ⟨rfl, by simp [go_sem, hk0]⟩) (fun _ h => by cases h; rfl)
            · exact V.Step.move (.inl rfl) (.inl rfl) (.inl ⟨_, rfl⟩) (fun _ h => by cases h; rfl)
            · exact V.Step.skip (.inl ⟨_, _, rfl, rfl, .inl rfl⟩) (fun _ h => by cases h; rfl)
            · exact V.Step.skip (.inl ⟨_, _, rfl, rfl, .inl rfl⟩) (fun _ h => by cases h; rfl)
            · exact V.Step.skip (.inl ⟨_, _, rfl, rfl, .inl rfl⟩) (fun _ h => by cases h; rfl)
            · exact V.Step.skip (.inl ⟨_, _, rfl, rfl, .inl rfl⟩) (fun _ h => by cases h; rfl)
            · exact V.Step.skip (.inl ⟨_, _, rfl, rfl, .inl rfl⟩) (fun _ h => by cases h; rfl)
            · exact V.Step.skip (.inl ⟨_, _, rfl, rfl, .inl rfl⟩) (fun _ h => by cases h; rfl)
            · exact V.Step.pick (b := false) (.inl rfl) rfl ⟨_, rfl, rfl⟩ (.inr ⟨_, rfl⟩) (fun _ h => by cases h; rfl)
            · exact V.Step.move (.inl rfl) (.inl rfl) (.inl ⟨_, rfl⟩) (fun _ h => by cases h; rfl)
            · exact V.Step.move (.inr ⟨_, _, _, rfl, rfl, rfl⟩) (.inl rfl) (.inl ⟨_, rfl⟩) (fun _ h => by cases h; rfl)
            · exact V.Step.move (.inr ⟨_, _, _, rfl, rfl, rfl⟩) (.inl rfl) (.inl ⟨_, rfl⟩) (fun _ h => by cases h; rfl)
            · exact V.Step.idxV (k := .i64) (i := (j : Int)) (p := .pointer (some ⟨g, off + j * 3, none⟩)) (.inr ⟨_, _, _, rfl, rfl, rfl⟩) rfl rfl (.inl ⟨_, rfl⟩) rfl (by omega) (by omega) rfl (fun _ h => by cases h; rfl)
            · exact V.Step.field0 (.inr ⟨_, _, _, rfl, rfl, rfl⟩) rfl rfl (fun _ h => by cases h; rfl)
            · exact V.Step.ldT (.inr ⟨_, _, _, rfl, rfl, rfl⟩) rfl rfl (.inr (.inr ⟨rfl, _, rfl⟩)) hgl d1 (fun _ h => by cases h; rfl)
            · exact V.Step.bin (v1 := .int .i64 xk) (v2 := .int .i64 0) (v := .bool true) (.inr ⟨_, _, _, rfl, rfl, rfl⟩) rfl (.inl ⟨_, rfl⟩) (.inr ⟨_, rfl⟩) rfl rfl (fun w => ⟨rfl, by simp [go_sem, hk0]⟩) (fun _ h => by cases h; rfl)
            · exact V.Step.move (.inr ⟨_, _, _, rfl, rfl, rfl⟩) (.inl rfl) (.inl ⟨_, rfl⟩) (fun _ h => by cases h; rfl)
            · exact V.Step.move (.inr ⟨_, _, _, rfl, rfl, rfl⟩) (.inl rfl) (.inl ⟨_, rfl⟩) (fun _ h => by cases h; rfl)
            · exact V.Step.move (.inr ⟨_, _, _, rfl, rfl, rfl⟩) (.inl rfl) (.inl ⟨_, rfl⟩) (fun _ h => by cases h; rfl)
            · exact V.Step.idxV (k := .i64) (i := (j : Int)) (p := .pointer (some ⟨h, of2 + j * 3, none⟩)) (.inr ⟨_, _, _, rfl, rfl, rfl⟩) rfl rfl (.inl ⟨_, rfl⟩) rfl (by omega) (by omega) rfl (fun _ h => by cases h; rfl)
            · exact V.Step.ldV (.inr ⟨_, _, _, rfl, rfl, rfl⟩) rfl rfl hml e1 e2 e3 (fun _ h => by cases h; rfl)
            · exact V.Step.move (.inr ⟨_, _, _, rfl, rfl, rfl⟩) (.inl rfl) (.inl ⟨_, rfl⟩) (fun _ h => by cases h; rfl)
            · exact V.Step.move (.inr ⟨_, _, _, rfl, rfl, rfl⟩) (.inl rfl) (.inl ⟨_, rfl⟩) (fun _ h => by cases h; rfl)
            · exact V.Step.idxV (k := .i64) (i := (j : Int)) (p := .pointer (some ⟨g, off + j * 3, none⟩)) (.inr ⟨_, _, _, rfl, rfl, rfl⟩) rfl rfl (.inl ⟨_, rfl⟩) rfl (by omega) (by omega) rfl (fun _ h => by cases h; rfl)
            · exact V.Step.ldV (.inr ⟨_, _, _, rfl, rfl, rfl⟩) rfl rfl hgl d1 d2 d3 (fun _ h => by cases h; rfl)
            · exact V.Step.bin (v1 := .agg #[.int .i64 xk, .int .i64 xi, .string xs]) (v2 := .agg #[.int .i64 xk, .int .i64 xi, .string xs]) (v := .bool false) (.inr ⟨_, _, _, rfl, rfl, rfl⟩) rfl (.inl ⟨_, rfl⟩) (.inl ⟨_, rfl⟩) rfl rfl (fun w => ⟨run_eqGuard_agg _ _ _ _ _ _ _ (by kernel_rfl), by rw [vne_run, Z.same_self]; rfl⟩) (fun _ h => by cases h; rfl)
            · exact V.Step.pick (b := true) (.inr ⟨_, _, _, rfl, rfl, rfl⟩) rfl ⟨_, rfl, rfl⟩ (.inl ⟨_, rfl⟩) (fun _ h => by cases h; rfl)
            · exact V.Step.pick (b := false) (.inl rfl) rfl ⟨_, rfl, rfl⟩ (.inl ⟨_, rfl⟩) (fun _ h => by cases h; rfl)
          case hd =>
          intro vs w7 hw7 hk
          have v70 : vs 70 = .slice (some ⟨g, off, none⟩) len cap := hk 0 _ 70 rfl rfl
          have v71 : vs 71 = .int .i64 (j : Int) := hk 1 _ 71 rfl rfl
          have v72 : vs 72 = .pointer (some ⟨g, off + j * 3, none⟩) := hk 2 _ 72 rfl rfl
          have v73 : vs 73 = .pointer (some ⟨g, off + j * 3, none⟩) := hk 3 _ 73 rfl rfl
          have v74 : vs 74 = .int .i64 xk := hk 4 _ 74 rfl rfl
          have v75 : vs 75 = .bool false := hk 5 _ 75 rfl rfl
          have v76 : vs 76 = .bool false := hk 6 _ 76 rfl rfl
          have v77 : vs 77 = undef := hk 7 _ 77 rfl rfl
          have v78 : vs 78 = undef := hk 8 _ 78 rfl rfl
          have v79 : vs 79 = undef := hk 9 _ 79 rfl rfl
          have v80 : vs 80 = undef := hk 10 _ 80 rfl rfl
          have v81 : vs 81 = undef := hk 11 _ 81 rfl rfl
          have v82 : vs 82 = undef := hk 12 _ 82 rfl rfl
          have v83 : vs 83 = .bool false := hk 13 _ 83 rfl rfl
          have v84 : vs 84 = .bool false := hk 14 _ 84 rfl rfl
          have v85 : vs 85 = .slice (some ⟨g, off, none⟩) len cap := hk 15 _ 85 rfl rfl
          have v86 : vs 86 = .int .i64 (j : Int) := hk 16 _ 86 rfl rfl
          have v87 : vs 87 = .pointer (some ⟨g, off + j * 3, none⟩) := hk 17 _ 87 rfl rfl
          have v88 : vs 88 = .pointer (some ⟨g, off + j * 3, none⟩) := hk 18 _ 88 rfl rfl
          have v89 : vs 89 = .int .i64 xk := hk 19 _ 89 rfl rfl
          have v90 : vs 90 = .bool true := hk 20 _ 90 rfl rfl
          have v91 : vs 91 = .bool true := hk 21 _ 91 rfl rfl
          have v92 : vs 92 = .slice (some ⟨h, of2, none⟩) len cm := hk 22 _ 92 rfl rfl
          have v93 : vs 93 = .int .i64 (j : Int) := hk 23 _ 93 rfl rfl
          have v94 : vs 94 = .pointer (some ⟨h, of2 + j * 3, none⟩) := hk 24 _ 94 rfl rfl
          have v95 : vs 95 = .agg #[.int .i64 xk, .int .i64 xi, .string xs] := hk 25 _ 95 rfl rfl
          have v96 : vs 96 = .slice (some ⟨g, off, none⟩) len cap := hk 26 _ 96 rfl rfl
          have v97 : vs 97 = .int .i64 (j : Int) := hk 27 _ 97 rfl rfl
          have v98 : vs 98 = .pointer (some ⟨g, off + j * 3, none⟩) := hk 28 _ 98 rfl rfl
          have v99 : vs 99 = .agg #[.int .i64 xk, .int .i64 xi, .string xs] := hk 29 _ 99 rfl rfl
          have v100 : vs 100 = .bool false := hk 30 _ 100 rfl rfl
          have v101 : vs 101 = .bool false := hk 31 _ 101 rfl rfl
          have v102 : vs 102 = .bool false := hk 32 _ 102 rfl rfl
          simp only [V.puts, List.foldl_cons, List.foldl_nil, v70, v71, v72, v73, v74, v75, v76, v77, v78, v79, v80, v81, v82, v83, v84, v85, v86, v87, v88, v89, v90, v91, v92, v93, v94, v95, v96, v97, v98, v99, v100, v101, v102, Act.put, List.setIfInBounds_toArray, List.set_cons_zero, List.set_cons_succ]
          have HW7 := hide (bthen hwr.out hw7)
          clear hk hw7 hwr d1 d2 d3 e1 e2 e3 v70 v71 v72 v73 v74 v75 v76 v77 v78 v79 v80 v81 v82 v83 v84 v85 v86 v87 v88 v89 v90 v91 v92 v93 v94 v95 v96 v97 v98 v99 v100 v101 v102
          go_wp2
          go_roundw
          case rel => exact ⟨j + 1, hjl, by go_num, HW7⟩
          case measure => simp [intOf]; omega
      · go_wp2
        go_ret
        exact ⟨rfl, bthen b0.out hwr.out⟩
end Go.Proofs.Ytbgofbajihdjdaa

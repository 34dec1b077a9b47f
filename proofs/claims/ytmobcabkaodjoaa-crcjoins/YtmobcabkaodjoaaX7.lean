/- The walk of the statement: sums of rows that are joined are joined likewise. -/
import Derived.Test.YtmobcabkaodjoaaK5
import Derived.Test.YtmobcabkaodjoaaV11
import Derived.Test.YtmobcabkaodjoaaV9
import Derived.Test.YtmobcabkaodjoaaV7
import Derived.Test.YtmobcabkaodjoaaH8
import Derived.Test.YtmobcabkaodjoaaX1
import Derived.Test.YtmobcabkaodjoaaRU
namespace Go.Proofs.Ytmobcabkaodjoaa
set_option linter.unusedVariables false
open Go.RowKit

theorem build_one (w : World) (x : Int) : (Instr.buildSlice 22 1 #[(0, .int .u8 x)]).run Try.prog w = .ok (.slice (some ⟨w.heap.size, 0, none⟩) 1 1) (w.alloc (.cells #[.int .u8 x] 5)) := by
  simp [go_sem]
/-- A byte, as a slice of its own. -/
theorem V.Step.build1 {ops : Array Oper} {Q : Exit → Act → World → Prop} {tbl : List (Nat × V.Ent)} {w0 : World} {o : Oper} {s : Nat} {y : Int} (hw : V.Wants tbl ops o) (ho : o.op = .buildSlice 22 1 #[(0, .tmp s)]) (hs : V.get tbl s = V.Ent.is (.int .u8 y)) (hy : 0 ≤ y) (hd : ∀ d, o.dst = some d → V.get tbl d = V.Ent.sl 1 [y.toNat]) : V.Step Try.prog ops Q tbl w0 o := by
  refine V.Step.run hw fun a w1 hw1 hk => ?_
  have e1 : a.eval (.tmp s) = .int .u8 y := by
    have := hk s (V.looks_op (by rw [ho]; simp [Op.operands]))
    rwa [hs] at this
  refine ⟨.slice (some ⟨w1.heap.size, 0, none⟩) 1 1, w1.alloc (.cells #[.int .u8 y] 5), by simp [execOp, ho, e1, build_one], (Below.refl _ _).alloc (Nat.le_refl _) _, fun d h => ?_⟩
  rw [hd d h]
  have h1 := Sl.one w1 5 .u8 y
  have h2 : ints [y.toNat] = [y] := by simp [ints]; omega
  exact ⟨_, 1, rfl, by rw [h2]; exact h1⟩
def joinsTbl7 (v : Value) (b1 o1 b2 o2 b3 o3 len1 cap1 len2 cap2 len3 cap3 k : Nat) (x1 x2 x3 y1 y2 : Int) : List (Nat × V.Ent) :=
   [(9, V.Ent.is (v)),
    (0, V.Ent.is (.slice (some ⟨b1, o1, none⟩) len1 cap1)),
    (1, V.Ent.is (.slice (some ⟨b2, o2, none⟩) len2 cap2)),
    (2, V.Ent.is (.slice (some ⟨b3, o3, none⟩) len3 cap3)),
    (10, V.Ent.is (.int .i64 (k : Int))),
    (25, V.Ent.is (v)),
    (26, V.Ent.is (.slice (some ⟨b1, o1, none⟩) len1 cap1)),
    (27, V.Ent.is (.int .i64 (k : Int))),
    (28, V.Ent.is (.pointer (some ⟨b1, o1 + (k : Int).toNat, none⟩))),
    (29, V.Ent.is (.int .u8 x1)),
    (30, V.Ent.is (.slice (some ⟨b2, o2, none⟩) len2 cap2)),
    (31, V.Ent.is (.int .i64 (k : Int))),
    (32, V.Ent.is (.pointer (some ⟨b2, o2 + (k : Int).toNat, none⟩))),
    (33, V.Ent.is (.int .u8 x2)),
    (34, V.Ent.is (.int .u8 y1)),
    (35, V.Ent.is (.slice (some ⟨b3, o3, none⟩) len3 cap3)),
    (36, V.Ent.is (.int .i64 (k : Int))),
    (37, V.Ent.is (.pointer (some ⟨b3, o3 + (k : Int).toNat, none⟩))),
    (38, V.Ent.is (.int .u8 x3)),
    (39, V.Ent.is (.int .u8 y2)),
    (40, V.Ent.sl 1 ([y2.toNat]))]
def joinsTbl9 (a1 a2 a3 a9 : Option Addr) (len1 cap1 len2 cap2 len3 cap3 n n9 c9 B : Nat) (C : Array Value) (s1 s2 s3 t1 t2 : Int) : List (Nat × V.Ent) :=
   [(7, V.Ent.is (.bool true)),
    (0, V.Ent.is (.slice a1 len1 cap1)),
    (1, V.Ent.is (.slice a2 len2 cap2)),
    (2, V.Ent.is (.slice a3 len3 cap3)),
    (8, V.Ent.is (.int .i64 (n : Int))),
    (9, V.Ent.is (.slice a9 n9 c9)),
    (11, V.Ent.is (.pointer (some ⟨B, 0, none⟩))),
    (43, V.Ent.is (.bool true)),
    (44, V.Ent.is (.bool true)),
    (45, V.Ent.is (.agg C)),
    (46, V.Ent.is (.slice a1 len1 cap1)),
    (47, V.Ent.is (.int .i64 (n : Int))),
    (48, V.Ent.is (.slice a1 n cap1)),
    (49, V.Ent.is (.int .u32 s1)),
    (50, V.Ent.is (.agg C)),
    (51, V.Ent.is (.slice a2 len2 cap2)),
    (52, V.Ent.is (.int .i64 (n : Int))),
    (53, V.Ent.is (.slice a2 n cap2)),
    (54, V.Ent.is (.int .u32 s2)),
    (55, V.Ent.is (.int .u32 t1)),
    (56, V.Ent.is (.agg C)),
    (57, V.Ent.is (.slice a3 len3 cap3)),
    (58, V.Ent.is (.int .i64 (n : Int))),
    (59, V.Ent.is (.slice a3 n cap3)),
    (60, V.Ent.is (.int .u32 s3)),
    (61, V.Ent.is (.int .u32 t2)),
    (62, V.Ent.is (.agg C)),
    (63, V.Ent.is (.slice a9 n9 c9)),
    (64, V.Ent.is (.int .u32 t2)),
    (65, V.Ent.is (.bool true)),
    (66, V.Ent.is (.bool true)),
    (6, V.Ent.is (.bool true))]
theorem cell_of_sl {w : World} {ao : Option Addr} {len cap : Nat} {l : List Nat} (h : Sl w .u8 ao len cap (ints l)) {k : Nat} (hk : k < len) : ∃ b off, ao = some ⟨b, off, none⟩ ∧ b < w.heap.size ∧ w.cell? ⟨b, off + k, none⟩ = some (.int .u8 ((l.getD k 0 : Nat) : Int)) := by
  rcases h.2.2.2.2 with h5 | ⟨b, off, h1, h2, h3⟩
  · omega
  · exact ⟨b, off, h1, h2, by rw [h3 k hk, ints_getD]⟩

set_option maxHeartbeats 4000000 in
theorem crcJoins_in (w : World) (a1 : Option Addr) (len1 cap1 : Nat) (l1 : List Nat) (hsa : Sl w .u8 a1 len1 cap1 (ints l1)) (hm1 : len1 ≤ 140737488351232) (ha2 : ∀ x ∈ l1, x < 256) (a2 : Option Addr) (len2 cap2 : Nat) (l2 : List Nat) (hsb : Sl w .u8 a2 len2 cap2 (ints l2)) (hm2 : len2 ≤ 140737488351232) (hb2 : ∀ x ∈ l2, x < 256) (a3 : Option Addr) (len3 cap3 : Nat) (l3 : List Nat) (hsc : Sl w .u8 a3 len3 cap3 (ints l3)) (hm3 : len3 ≤ 140737488351232) (hc2 : ∀ x ∈ l3, x < 256) :
    Calls Try.prog 7 #[.slice a1 len1 cap1, .slice a2 len2 cap2, .slice a3 len3 cap3] w fun e w' => e = .returned (.bool true) ∧ Below w.heap.size w w' := by
  obtain ⟨hz, hi⟩ := zero_of_info Try.infoTab
  obtain ⟨Z, hZ⟩ : ∃ Z, Array.replicate 256 (Value.int .u32 0) = Z := ⟨_, rfl⟩
  have HZ : Hid (Z.size = 256) := hide (by rw [← hZ]; simp)
  rw [hZ] at hz
  have HI := hide hi
  have HSA := hide hsa
  have HSB := hide hsb
  have HSC := hide hsc
  have HA2 := hide ha2
  have HB2 := hide hb2
  have HC2 := hide hc2
  have HL1 := hide (show l1.length = len1 by rw [← hsa.1, ints_length])
  have HL2 := hide (show l2.length = len2 by rw [← hsb.1, ints_length])
  have HL3 := hide (show l3.length = len3 by rw [← hsc.1, ints_length])
  clear hsa hsb hsc ha2 hb2 hc2 hZ hi
  obtain ⟨n, hn⟩ : ∃ n, min len1 (min len2 len3) = n := ⟨_, rfl⟩
  have hmin : ∀ (ts : Array TypeId) (t : TypeId) (W : World), (Builtin.min_ ts t #[.int .i64 (len1 : Int), .int .i64 (len2 : Int), .int .i64 (len3 : Int)]).run Try.prog W = .ok (.int .i64 (n : Int)) W := fun ts t W => by
    rw [run_min_int3]
    congr 2
    split <;> split <;> omega
  have hn1 : n ≤ len1 := by omega
  have hn2 : n ≤ len2 := by omega
  have hn3 : n ≤ len3 := by omega
  clear hn
  go_enter Try.func7, Try.ntmps7
  go_wp2_with fail
  refine (shown_any w).mono ?_
  rintro e w2 ⟨rfl, hb⟩
  have HBw := hide hb
  clear hb
  go_wp2_with fail
  go_loopw [9, 10] (fun v i wr => ∃ (k : Nat) (r : List Nat), k ≤ n ∧ i = .int .i64 (k : Int) ∧ Hid (K.join3 (l1.take k) (l2.take k) (l3.take k) = r) ∧ Hid (wr.ownsRow w2.heap.size 5 1 v r.length (B8 r) ∧ Below w2.heap.size w2 wr)) (fun _ i _ => n - (intOf i).toNat)
  case atStart => exact ⟨0, [], by omega, rfl, hide rfl, hide ⟨World.ownsRow_nil _ _ _ _, Below.refl _ _⟩⟩
  case round =>
    obtain ⟨k, r, hk, rfl, HRr, HO⟩ := hrel
    have HT1 := hide (show (l1.take k).length = k by rw [List.length_take, HL1.out]; omega)
    have HT2 := hide (show (l2.take k).length = k by rw [List.length_take, HL2.out]; omega)
    have HT3 := hide (show (l3.take k).length = k by rw [List.length_take, HL3.out]; omega)
    have HRl : Hid (r.length = k) := hide (by rw [← HRr.out, K.join3_length _ _ _ (by rw [HT1.out, HT2.out]) (by rw [HT1.out, HT3.out]), HT1.out])
    by_cases hlt : k < n
    · have hbw := HBw.out.trans (HO.out.2.mono HBw.out.size)
      obtain ⟨b1, o1, rfl, hg1, hc1⟩ := cell_of_sl (HSA.out.below hbw) (k := k) (by omega)
      obtain ⟨b2, o2, rfl, hg2, hc2⟩ := cell_of_sl (HSB.out.below hbw) (k := k) (by omega)
      obtain ⟨b3, o3, rfl, hg3, hc3⟩ := cell_of_sl (HSC.out.below hbw) (k := k) (by omega)
      have q1 := getD_lt8 HA2.out k
      have q2 := getD_lt8 HB2.out k
      have q3 := getD_lt8 HC2.out k
      obtain ⟨x1, hx1⟩ : ∃ x : Int, ((l1.getD k 0 : Nat) : Int) = x := ⟨_, rfl⟩
      obtain ⟨x2, hx2⟩ : ∃ x : Int, ((l2.getD k 0 : Nat) : Int) = x := ⟨_, rfl⟩
      obtain ⟨x3, hx3⟩ : ∃ x : Int, ((l3.getD k 0 : Nat) : Int) = x := ⟨_, rfl⟩
      rw [hx1] at hc1
      rw [hx2] at hc2
      rw [hx3] at hc3
      rw [show k = (k : Int).toNat from rfl] at hc1 hc2 hc3
      have e12 := u8_xor x1 x2 (by omega) (by omega) (by omega) (by omega)
      have hxl : x1.toNat ^^^ x2.toNat < 256 := xor_lt8 (by omega) (by omega)
      obtain ⟨y1, hy1⟩ : ∃ y : Int, ((x1.toNat ^^^ x2.toNat : Nat) : Int) = y := ⟨_, rfl⟩
      rw [hy1] at e12
      have e3 := u8_xor y1 x3 (by omega) (by omega) (by omega) (by omega)
      have hyl : y1.toNat ^^^ x3.toNat < 256 := xor_lt8 (by omega) (by omega)
      obtain ⟨y2, hy2⟩ : ∃ y : Int, ((y1.toNat ^^^ x3.toNat : Nat) : Int) = y := ⟨_, rfl⟩
      rw [hy2] at e3
      have hyb : 0 ≤ y2 := by omega
      have HY : Hid (y2.toNat = (l1.getD k 0 ^^^ l2.getD k 0) ^^^ l3.getD k 0) := hide (by
        rw [← hy2, ← hy1, ← hx1, ← hx2, ← hx3]; simp only [Int.toNat_natCast])
      have HS1 := hide (take_snocN l1 k (by rw [HL1.out]; omega))
      have HS2 := hide (take_snocN l2 k (by rw [HL2.out]; omega))
      have HS3 := hide (take_snocN l3 k (by rw [HL3.out]; omega))
      clear hx1 hx2 hx3 hxl hyl hy1 hy2 q1 q2 q3 hbw
      go_wp2_with fail
      refine V.wp_region_tail (w0 := wr) 16 [25, 26, 27, 28, 29, 30, 31, 32, 33, 34, 35, 36, 37, 38, 39, 40] [9, 0, 1, 2, 10] (joinsTbl7 u9 b1 o1 b2 o2 b3 o3 len1 cap1 len2 cap2 len3 cap3 k x1 x2 x3 y1 y2) (by decide) rfl (by kernel_rfl) (by kernel_rfl) (by kernel_rfl) (Below.refl _ _) ?hb ?hs ?hd
      case hb =>
        intro d hd
        simp only [List.mem_cons, List.not_mem_nil, or_false] at hd
        rcases hd with rfl | rfl | rfl | rfl | rfl <;> rfl
      case hs =>
        refine ⟨?_, ?_, ?_, ?_, ?_, ?_, ?_, ?_, ?_, ?_, ?_, ?_, ?_, ?_, ?_, ?_, trivial⟩
        · exact V.Step.move (.inl rfl) (.inl rfl) (.inl ⟨_, rfl⟩) (fun _ h => by cases h; rfl)
        · exact V.Step.move (.inl rfl) (.inl rfl) (.inl ⟨_, rfl⟩) (fun _ h => by cases h; rfl)
        · exact V.Step.move (.inl rfl) (.inl rfl) (.inl ⟨_, rfl⟩) (fun _ h => by cases h; rfl)
        · exact V.Step.at (.inl rfl) rfl rfl (.inl ⟨_, rfl⟩) rfl (by omega) (by omega) (fun _ h => by cases h; rfl)
        · exact V.Step.byte (.inl rfl) rfl rfl hg1 hc1 (fun _ h => by cases h; rfl)
        · exact V.Step.move (.inl rfl) (.inl rfl) (.inl ⟨_, rfl⟩) (fun _ h => by cases h; rfl)
        · exact V.Step.move (.inl rfl) (.inl rfl) (.inl ⟨_, rfl⟩) (fun _ h => by cases h; rfl)
        · exact V.Step.at (.inl rfl) rfl rfl (.inl ⟨_, rfl⟩) rfl (by omega) (by omega) (fun _ h => by cases h; rfl)
        · exact V.Step.byte (.inl rfl) rfl rfl hg2 hc2 (fun _ h => by cases h; rfl)
        · exact V.Step.bin (v := .int .u8 y1) (.inl rfl) rfl (.inl ⟨_, rfl⟩) (.inl ⟨_, rfl⟩) rfl rfl (fun w => ⟨rfl, by rw [V.xor_int, e12]⟩) (fun _ h => by cases h; rfl)
        · exact V.Step.move (.inl rfl) (.inl rfl) (.inl ⟨_, rfl⟩) (fun _ h => by cases h; rfl)
        · exact V.Step.move (.inl rfl) (.inl rfl) (.inl ⟨_, rfl⟩) (fun _ h => by cases h; rfl)
        · exact V.Step.at (.inl rfl) rfl rfl (.inl ⟨_, rfl⟩) rfl (by omega) (by omega) (fun _ h => by cases h; rfl)
        · exact V.Step.byte (.inl rfl) rfl rfl hg3 hc3 (fun _ h => by cases h; rfl)
        · exact V.Step.bin (v := .int .u8 y2) (.inl rfl) rfl (.inl ⟨_, rfl⟩) (.inl ⟨_, rfl⟩) rfl rfl (fun w => ⟨rfl, by rw [V.xor_int, e3]⟩) (fun _ h => by cases h; rfl)
        · exact V.Step.build1 (.inl rfl) rfl rfl hyb (fun _ h => by cases h; rfl)
      case hd =>
        intro vs w5 hb5 hk5
        have h25 : vs 25 = u9 := hk5 0 _ 25 rfl rfl
        obtain ⟨a40, c40, h40, hs40⟩ := hk5 15 _ 40 rfl rfl
        have HO5 := hide (owns_of_block HO.out.1 (w' := w5) (fun g' hg' => hb5.block g' (owns_lt HO.out.1 hg').2))
        have HB5 := hide (HO.out.2.trans (hb5.mono HO.out.2.size))
        have HS40 := hide hs40
        obtain ⟨r2, hr2⟩ : ∃ r2, r ++ [y2.toNat] = r2 := ⟨_, rfl⟩
        have HR2 := hide hr2
        simp only [V.puts, List.foldl_cons, List.foldl_nil, h25, h40, Act.put, List.setIfInBounds_toArray, List.set_cons_zero, List.set_cons_succ]
        have hr47 : r.length + 1 ≤ 140737488355328 := by rw [HRl.out]; omega
        clear hk5 hb5 hs40 hr2 hc1 hc2 hc3
        simp only [List.drop]
        go_wp2_with (at_builtin; refine wpList_app rfl (.tmp 25) (.tmp 40) rfl w2.heap.size u9 r rfl HO5.out a40 1 c40 [y2.toNat] rfl HS40.out hr47 HB5.out.size r2 HR2.out ?_)
        intro v6 w6 ho6 has6
        have HO6 := hide (And.intro ho6 (HB5.out.trans (has6.below HB5.out.size (fun k hk => (owns_lt HO5.out hk).1))))
        clear ho6 has6
        go_wp2_with fail
        go_roundw
        case rel => exact ⟨k + 1, r2, hlt, by go_num, hide (by rw [HS1.out, HS2.out, HS3.out, K.join3_snoc _ _ _ _ _ _ (by rw [HT1.out, HT2.out]) (by rw [HT1.out, HT3.out]), HRr.out, ← HY.out, HR2.out]), HO6⟩
        case measure => simp [intOf]; omega
    · obtain rfl : k = n := by omega
      obtain ⟨a9, c9, rfl, hs9⟩ := Sl.of_own HO.out.1 HRl.out
      have hbw := HBw.out.trans (HO.out.2.mono HBw.out.size)
      have HS9w := hide hs9
      have HB9w := hide hbw
      clear hs9 hbw hlt hk
      go_wp2_with fail
      refine (table_any wr).mono ?_
      rintro e w3 ⟨C, rfl, hC, hb3⟩
      have HC := hide hC
      have HS := hide hC.1
      have H1 := hide hC.one
      have HB3 := hide (HB9w.out.trans (hb3.mono HB9w.out.size))
      have HS93 := hide (HS9w.out.below hb3)
      clear hb3 hC
      go_wp2_with (guard_target =~ wpList _ _ _ ((⟨none, .store _ _ _, _, _, _, _⟩ : Oper) :: _) _ _; refine wpList_store_row rfl 24 (.tmp 11) (.tmp 42) rfl w3.heap.size C rfl rfl 24 Z (heap_alloc_new _ _) (by rw [HS.out]; exact HI.out) (by rw [HS.out]; exact HZ.out) H1.out ?_; rw [World.setRow_alloc_new])
      have HB4 := hide (HB3.out.alloc HB3.out.size (.cells C 24))
      have HB0 := hide (heap_alloc_new w3 (.cells C 24))
      have HS9 := hide (HS93.out.below ((Below.refl w3.heap.size w3).alloc (Nat.le_refl _) (.cells C 24)))
      obtain ⟨w4, hw4⟩ : ∃ w4, w3.alloc (.cells C 24) = w4 := ⟨_, rfl⟩
      obtain ⟨B, hB⟩ : ∃ B, w3.heap.size = B := ⟨_, rfl⟩
      rw [hw4] at HB4 HS9
      rw [hw4, hB] at HB0 ⊢
      clear hw4 hB
      have hnc1 : k ≤ cap1 := by have := HSA.out.2.1; omega
      have hnc2 : k ≤ cap2 := by have := HSB.out.2.1; omega
      have hnc3 : k ≤ cap3 := by have := HSC.out.2.1; omega
      have HT1 : Hid (Sl w4 .u8 a1 k cap1 (ints (l1.take k))) := hide (by rw [ints_take]; exact (HSA.out.below (w' := w4) HB4.out).head k cap1 hn1 hnc1 (Nat.le_refl _))
      have HT2 : Hid (Sl w4 .u8 a2 k cap2 (ints (l2.take k))) := hide (by rw [ints_take]; exact (HSB.out.below (w' := w4) HB4.out).head k cap2 hn2 hnc2 (Nat.le_refl _))
      have HT3 : Hid (Sl w4 .u8 a3 k cap3 (ints (l3.take k))) := hide (by rw [ints_take]; exact (HSC.out.below (w' := w4) HB4.out).head k cap3 hn3 hnc3 (Nat.le_refl _))
      have HU1 : Hid (∀ y ∈ l1.take k, y < 256) := hide fun y hy => HA2.out y (List.mem_of_mem_take hy)
      have HU2 : Hid (∀ y ∈ l2.take k, y < 256) := hide fun y hy => HB2.out y (List.mem_of_mem_take hy)
      have HU3 : Hid (∀ y ∈ l3.take k, y < 256) := hide fun y hy => HC2.out y (List.mem_of_mem_take hy)
      have HU9 : Hid (∀ y ∈ r, y < 256) := hide (by
        rw [← HRr.out]
        exact K.joinL_lt _ _ (K.joinL_lt _ _ HU1.out HU2.out) HU3.out)
      have hn47 : k ≤ 140737488355328 := by omega
      have g1 := K.crc_lt (l1.take k)
      have g2 := K.crc_lt (l2.take k)
      have g3 := K.crc_lt (l3.take k)
      have hk12 : (l1.take k).length = (l2.take k).length := by rw [List.length_take, List.length_take, HL1.out, HL2.out]; omega
      have hk13 : (l1.take k).length = (l3.take k).length := by rw [List.length_take, List.length_take, HL1.out, HL3.out]; omega
      have hj := K.crc_join3 (l1.take k) (l2.take k) (l3.take k) hk12 hk13
      rw [HRr.out] at hj
      obtain ⟨s1, hs1⟩ : ∃ s : Int, ((K.crc (l1.take k) : Nat) : Int) = s := ⟨_, rfl⟩
      obtain ⟨s2, hs2⟩ : ∃ s : Int, ((K.crc (l2.take k) : Nat) : Int) = s := ⟨_, rfl⟩
      obtain ⟨s3, hs3⟩ : ∃ s : Int, ((K.crc (l3.take k) : Nat) : Int) = s := ⟨_, rfl⟩
      have e12 := u32_xor s1 s2 (by omega) (by omega) (by omega) (by omega)
      have hxl : s1.toNat ^^^ s2.toNat < 4294967296 := K.xor_lt32 (by omega) (by omega)
      obtain ⟨t1, ht1⟩ : ∃ t : Int, ((s1.toNat ^^^ s2.toNat : Nat) : Int) = t := ⟨_, rfl⟩
      rw [ht1] at e12
      have e3 := u32_xor t1 s3 (by omega) (by omega) (by omega) (by omega)
      obtain ⟨t2, ht2⟩ : ∃ t : Int, ((t1.toNat ^^^ s3.toNat : Nat) : Int) = t := ⟨_, rfl⟩
      rw [ht2] at e3
      have hs9 : ((K.crc r : Nat) : Int) = t2 := by
        rw [← hj, ← ht2, ← ht1, ← hs1, ← hs2, ← hs3]; simp only [Int.toNat_natCast]
      have KS1 : ∀ w1, Below w4.heap.size w4 w1 → Calls Try.prog 13 #[.agg C, .slice a1 k cap1] w1 fun e w' => e = .returned (.int .u32 s1) ∧ Below w1.heap.size w1 w' := fun w1 hw1 => by rw [← hs1]; exact sum_crc C a1 k cap1 (l1.take k) w1 HC.out (HT1.out.below hw1) hn47 HU1.out
      have KS2 : ∀ w1, Below w4.heap.size w4 w1 → Calls Try.prog 13 #[.agg C, .slice a2 k cap2] w1 fun e w' => e = .returned (.int .u32 s2) ∧ Below w1.heap.size w1 w' := fun w1 hw1 => by rw [← hs2]; exact sum_crc C a2 k cap2 (l2.take k) w1 HC.out (HT2.out.below hw1) hn47 HU2.out
      have KS3 : ∀ w1, Below w4.heap.size w4 w1 → Calls Try.prog 13 #[.agg C, .slice a3 k cap3] w1 fun e w' => e = .returned (.int .u32 s3) ∧ Below w1.heap.size w1 w' := fun w1 hw1 => by rw [← hs3]; exact sum_crc C a3 k cap3 (l3.take k) w1 HC.out (HT3.out.below hw1) hn47 HU3.out
      have KS9 : ∀ w1, Below w4.heap.size w4 w1 → Calls Try.prog 13 #[.agg C, .slice a9 k c9] w1 fun e w' => e = .returned (.int .u32 t2) ∧ Below w1.heap.size w1 w' := fun w1 hw1 => by rw [← hs9]; exact sum_crc C a9 k c9 r w1 HC.out (HS9.out.below hw1) hn47 HU9.out
      refine V.wp_region (w0 := w4) [7, 0, 1, 2, 8, 9, 11] (joinsTbl9 a1 a2 a3 a9 len1 cap1 len2 cap2 len3 cap3 k k c9 B C s1 s2 s3 t1 t2) (by kernel_rfl) (by kernel_rfl) (Below.refl _ _) ?hb ?hs ?hd
      case hb =>
        intro d hd
        simp only [List.mem_cons, List.not_mem_nil, or_false] at hd
        rcases hd with rfl | rfl | rfl | rfl | rfl | rfl | rfl <;> rfl
      case hs =>
        refine ⟨?_, ?_, ?_, ?_, ?_, ?_, ?_, ?_, ?_, ?_, ?_, ?_, ?_, ?_, ?_, ?_, ?_, ?_, ?_, ?_, ?_, ?_, ?_, ?_, ?_, trivial⟩
        · exact V.Step.move (.inl rfl) (.inl rfl) (.inl ⟨_, rfl⟩) (fun _ h => by cases h; rfl)
        · exact V.Step.move (.inl rfl) (.inl rfl) (.inl ⟨_, rfl⟩) (fun _ h => by cases h; rfl)
        · exact V.Step.tab (.inr ⟨_, _, _, rfl, rfl, rfl⟩) rfl rfl HB0.out HC.out.1 (fun _ h => by cases h; rfl)
        · exact V.Step.move (.inr ⟨_, _, _, rfl, rfl, rfl⟩) (.inl rfl) (.inl ⟨_, rfl⟩) (fun _ h => by cases h; rfl)
        · exact V.Step.move (.inr ⟨_, _, _, rfl, rfl, rfl⟩) (.inl rfl) (.inl ⟨_, rfl⟩) (fun _ h => by cases h; rfl)
        · exact V.Step.head (.inr ⟨_, _, _, rfl, rfl, rfl⟩) rfl rfl rfl hnc1 (fun _ h => by cases h; rfl)
        · exact V.Step.call2 (.inr ⟨_, _, _, rfl, rfl, rfl⟩) rfl rfl rfl Try.func13 (by decide +kernel) rfl (fun w1 hw1 => (KS1 w1 hw1).mono (by rintro e w2 ⟨rfl, hb9⟩; exact ⟨_, rfl, hb9, fun d h => by cases h; rfl⟩))
        · exact V.Step.tab (.inr ⟨_, _, _, rfl, rfl, rfl⟩) rfl rfl HB0.out HC.out.1 (fun _ h => by cases h; rfl)
        · exact V.Step.move (.inr ⟨_, _, _, rfl, rfl, rfl⟩) (.inl rfl) (.inl ⟨_, rfl⟩) (fun _ h => by cases h; rfl)
        · exact V.Step.move (.inr ⟨_, _, _, rfl, rfl, rfl⟩) (.inl rfl) (.inl ⟨_, rfl⟩) (fun _ h => by cases h; rfl)
        · exact V.Step.head (.inr ⟨_, _, _, rfl, rfl, rfl⟩) rfl rfl rfl hnc2 (fun _ h => by cases h; rfl)
        · exact V.Step.call2 (.inr ⟨_, _, _, rfl, rfl, rfl⟩) rfl rfl rfl Try.func13 (by decide +kernel) rfl (fun w1 hw1 => (KS2 w1 hw1).mono (by rintro e w2 ⟨rfl, hb9⟩; exact ⟨_, rfl, hb9, fun d h => by cases h; rfl⟩))
        · exact V.Step.bin (v := .int .u32 t1) (.inr ⟨_, _, _, rfl, rfl, rfl⟩) rfl (.inl ⟨_, rfl⟩) (.inl ⟨_, rfl⟩) rfl rfl (fun w => ⟨rfl, by rw [V.xor_int, e12]⟩) (fun _ h => by cases h; rfl)
        · exact V.Step.tab (.inr ⟨_, _, _, rfl, rfl, rfl⟩) rfl rfl HB0.out HC.out.1 (fun _ h => by cases h; rfl)
        · exact V.Step.move (.inr ⟨_, _, _, rfl, rfl, rfl⟩) (.inl rfl) (.inl ⟨_, rfl⟩) (fun _ h => by cases h; rfl)
        · exact V.Step.move (.inr ⟨_, _, _, rfl, rfl, rfl⟩) (.inl rfl) (.inl ⟨_, rfl⟩) (fun _ h => by cases h; rfl)
        · exact V.Step.head (.inr ⟨_, _, _, rfl, rfl, rfl⟩) rfl rfl rfl hnc3 (fun _ h => by cases h; rfl)
        · exact V.Step.call2 (.inr ⟨_, _, _, rfl, rfl, rfl⟩) rfl rfl rfl Try.func13 (by decide +kernel) rfl (fun w1 hw1 => (KS3 w1 hw1).mono (by rintro e w2 ⟨rfl, hb9⟩; exact ⟨_, rfl, hb9, fun d h => by cases h; rfl⟩))
        · exact V.Step.bin (v := .int .u32 t2) (.inr ⟨_, _, _, rfl, rfl, rfl⟩) rfl (.inl ⟨_, rfl⟩) (.inl ⟨_, rfl⟩) rfl rfl (fun w => ⟨rfl, by rw [V.xor_int, e3]⟩) (fun _ h => by cases h; rfl)
        · exact V.Step.tab (.inr ⟨_, _, _, rfl, rfl, rfl⟩) rfl rfl HB0.out HC.out.1 (fun _ h => by cases h; rfl)
        · exact V.Step.move (.inr ⟨_, _, _, rfl, rfl, rfl⟩) (.inl rfl) (.inl ⟨_, rfl⟩) (fun _ h => by cases h; rfl)
        · exact V.Step.call2 (.inr ⟨_, _, _, rfl, rfl, rfl⟩) rfl rfl rfl Try.func13 (by decide +kernel) rfl (fun w1 hw1 => (KS9 w1 hw1).mono (by rintro e w2 ⟨rfl, hb9⟩; exact ⟨_, rfl, hb9, fun d h => by cases h; rfl⟩))
        · exact V.Step.bin (v := .bool true) (.inr ⟨_, _, _, rfl, rfl, rfl⟩) rfl (.inl ⟨_, rfl⟩) (.inl ⟨_, rfl⟩) rfl rfl (fun w => ⟨rfl, by rw [V.eql_int _ _ _ _ Try.underlying23]; simp⟩) (fun _ h => by cases h; rfl)
        · exact V.Step.pick (b := true) (.inl rfl) rfl ⟨_, rfl, rfl⟩ (.inl ⟨_, rfl⟩) (fun _ h => by cases h; rfl)
        · exact V.Step.move (.inl rfl) (.inr rfl) (.inl ⟨_, rfl⟩) (fun _ h => by cases h; rfl)
      case hd =>
        intro a0 w1 hw1 hdf hk
        have h6 : a0.tmps[6]?.getD undef = .bool true := V.slot_of (hk 24 _ 6 rfl rfl)
        go_wp2
        exact bodyPost_ret (v := .bool true) (by simp [results, Try.results7, h6, go_sem]) hdf ⟨rfl, HB4.out.trans (hw1.mono HB4.out.size)⟩

theorem crcJoins_walk (w : World) (a0 : Option Addr) (len0 cap0 : Nat) (z0 : List Int) (c0 : Came .u8 w a0 len0 cap0 z0) (h0 : cap0 * 1 ≤ 140737488351232) (a1 : Option Addr) (len1 cap1 : Nat) (z1 : List Int) (c1 : Came .u8 w a1 len1 cap1 z1) (h1 : cap1 * 1 ≤ 140737488351232) (a2 : Option Addr) (len2 cap2 : Nat) (z2 : List Int) (c2 : Came .u8 w a2 len2 cap2 z2) (h2 : cap2 * 1 ≤ 140737488351232) :
    Calls Try.prog 7 #[.slice a0 len0 cap0, .slice a1 len1 cap1, .slice a2 len2 cap2] w fun e w' => e = .returned (.bool true) ∧ Below w.heap.size w w' := by
  obtain ⟨l0, rfl, g0⟩ := came_bytes c0
  obtain ⟨l1, rfl, g1⟩ := came_bytes c1
  obtain ⟨l2, rfl, g2⟩ := came_bytes c2
  have := c0.1.2.1
  have := c1.1.2.1
  have := c2.1.2.1
  exact crcJoins_in w a0 len0 cap0 l0 c0.1 (by omega) g0 a1 len1 cap1 l1 c1.1 (by omega) g1 a2 len2 cap2 l2 c2.1 (by omega) g2
end Go.Proofs.Ytmobcabkaodjoaa

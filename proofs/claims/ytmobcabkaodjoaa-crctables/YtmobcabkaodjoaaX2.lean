/- The walk of the statement: rows of the table, joined; no two the same. -/
import Derived.Test.YtmobcabkaodjoaaV7
import Derived.Test.YtmobcabkaodjoaaX1
import Derived.Test.YtmobcabkaodjoaaRU
namespace Go.Proofs.Ytmobcabkaodjoaa
set_option linter.unusedVariables false
open Go.RowKit

def tablesTbl (B : Nat) (a b c x : Int) (q : Bool) : List (Nat × V.Ent) :=
   [(0, V.Ent.is (.int .u8 a)),
    (1, V.Ent.is (.int .u8 b)),
    (5, V.Ent.is (.bool true)),
    (6, V.Ent.is (.pointer (some ⟨B, 0, none⟩))),
    (9, V.Ent.is (.bool true)),
    (10, V.Ent.is (.bool true)),
    (11, V.Ent.is (.int .u8 a)),
    (12, V.Ent.is (.pointer (some ⟨B, a.toNat, none⟩))),
    (13, V.Ent.is (.int .u32 ((K.row a.toNat : Nat) : Int))),
    (14, V.Ent.is (.int .u8 b)),
    (15, V.Ent.is (.pointer (some ⟨B, b.toNat, none⟩))),
    (16, V.Ent.is (.int .u32 ((K.row b.toNat : Nat) : Int))),
    (17, V.Ent.is (.int .u32 x)),
    (18, V.Ent.is (.int .u8 a)),
    (19, V.Ent.is (.int .u8 b)),
    (20, V.Ent.is (.int .u8 c)),
    (21, V.Ent.is (.pointer (some ⟨B, c.toNat, none⟩))),
    (22, V.Ent.is (.int .u32 ((K.row c.toNat : Nat) : Int))),
    (23, V.Ent.is (.bool true)),
    (24, V.Ent.is (.bool true)),
    (25, V.Ent.is (.bool true)),
    (26, V.Ent.is (.int .u8 a)),
    (27, V.Ent.is (.pointer (some ⟨B, a.toNat, none⟩))),
    (28, V.Ent.is (.int .u32 ((K.row a.toNat : Nat) : Int))),
    (29, V.Ent.is (.int .u8 b)),
    (30, V.Ent.is (.pointer (some ⟨B, b.toNat, none⟩))),
    (31, V.Ent.is (.int .u32 ((K.row b.toNat : Nat) : Int))),
    (32, V.Ent.is (.bool q)),
    (33, V.Ent.is (.int .u8 a)),
    (34, V.Ent.is (.int .u8 b)),
    (35, V.Ent.is (.bool q)),
    (36, V.Ent.is (.bool true)),
    (37, V.Ent.is (.bool true)),
    (38, V.Ent.is (.bool true)),
    (39, V.Ent.is (.pointer (some ⟨B, (0 : Int).toNat, none⟩))),
    (40, V.Ent.is (.int .u32 ((K.row (0 : Int).toNat : Nat) : Int))),
    (41, V.Ent.is (.bool true)),
    (42, V.Ent.is (.bool true)),
    (4, V.Ent.is (.bool true))]

theorem u8_eq_xor (a b : Int) (h1 : 0 ≤ a) (h2 : a < 256) (h3 : 0 ≤ b) (h4 : b < 256) : bits .xor .u8 a b = ((a.toNat ^^^ b.toNat : Nat) : Int) := u8_xor a b h1 h2 h3 h4
theorem row0 : ((K.row (0 : Int).toNat : Nat) : Int) = 0 := by rw [show (0 : Int).toNat = 0 from rfl, K.row_zero]; rfl

set_option maxHeartbeats 2000000 in
theorem crcTables_in (w : World) (a b : Int) (ha0 : 0 ≤ a) (ha1 : a < 256) (hb0 : 0 ≤ b) (hb1 : b < 256) :
    Calls Try.prog 9 #[.int .u8 a, .int .u8 b] w fun e w' => e = .returned (.bool true) ∧ Below w.heap.size w w' := by
  obtain ⟨hz, hi⟩ := zero_of_info Try.infoTab
  obtain ⟨Z, hZ⟩ : ∃ Z, Array.replicate 256 (Value.int .u32 0) = Z := ⟨_, rfl⟩
  have HZ : Hid (Z.size = 256) := hide (by rw [← hZ]; simp)
  rw [hZ] at hz
  have HI := hide hi
  clear hZ hi
  go_enter Try.func9, Try.ntmps9
  go_wp2_with fail
  refine (shown_any w).mono ?_
  rintro e w2 ⟨rfl, hb⟩
  go_wp2_with fail
  refine (table_any w2).mono ?_
  rintro e w3 ⟨C, rfl, hC, hb3⟩
  have HC := hide hC
  have HS := hide hC.1
  have H1 := hide hC.one
  have HB3 := hide (hb.trans (hb3.mono hb.size))
  clear hb hb3 hC
  go_wp2_with (guard_target =~ wpList _ _ _ ((⟨none, .store _ _ _, _, _, _, _⟩ : Oper) :: _) _ _; refine wpList_store_row rfl 24 (.tmp 6) (.tmp 8) rfl w3.heap.size C rfl rfl 24 Z (heap_alloc_new _ _) (by rw [HS.out]; exact HI.out) (by rw [HS.out]; exact HZ.out) H1.out ?_; rw [World.setRow_alloc_new])
  have HB4 := hide (HB3.out.alloc HB3.out.size (.cells C 24))
  have HB0 := hide (heap_alloc_new w3 (.cells C 24))
  obtain ⟨w4, hw4⟩ : ∃ w4, w3.alloc (.cells C 24) = w4 := ⟨_, rfl⟩
  obtain ⟨B, hB⟩ : ∃ B, w3.heap.size = B := ⟨_, rfl⟩
  rw [hw4] at HB4
  rw [hw4, hB] at HB0 ⊢
  clear hw4 hB
  have hc := u8_xor a b ha0 ha1 hb0 hb1
  have hcl : a.toNat ^^^ b.toNat < 256 := xor_lt8 (by omega) (by omega)
  have hx := u32_xor ((K.row a.toNat : Nat) : Int) ((K.row b.toNat : Nat) : Int) (by omega) (by have := row_lt8 a.toNat (by omega); omega) (by omega) (by have := row_lt8 b.toNat (by omega); omega)
  have hxr := K.row_xor a.toNat b.toNat
  rw [Int.toNat_natCast, Int.toNat_natCast, ← hxr] at hx
  obtain ⟨c, hce⟩ : ∃ c : Int, ((a.toNat ^^^ b.toNat : Nat) : Int) = c := ⟨_, rfl⟩
  rw [hce] at hc
  have hc0 : 0 ≤ c := by omega
  have hc1 : c < 256 := by omega
  obtain ⟨x, hxx⟩ : ∃ x : Int, ((K.row (a.toNat ^^^ b.toNat) : Nat) : Int) = x := ⟨_, rfl⟩
  rw [hxx] at hx
  have hxe : x = ((K.row c.toNat : Nat) : Int) := by rw [← hxx, ← hce, Int.toNat_natCast]
  obtain ⟨q, hq2⟩ : ∃ q, (a == b) = q := ⟨_, rfl⟩
  have hq1 : (((K.row a.toNat : Nat) : Int) == ((K.row b.toNat : Nat) : Int)) = q := by
    rw [← hq2, Bool.eq_iff_iff]
    simp only [beq_iff_eq]
    constructor
    · intro h
      have := K.row_inj a.toNat b.toNat (by omega) (by omega) (by omega)
      omega
    · rintro rfl; rfl
  refine V.wp_region (w0 := w4) [0, 1, 5, 6] (tablesTbl B a b c x q) (by kernel_rfl) (by kernel_rfl) (Below.refl _ _) ?hb ?hs ?hd
  case hb =>
    intro d hd
    simp only [List.mem_cons, List.not_mem_nil, or_false] at hd
    rcases hd with rfl | rfl | rfl | rfl <;> rfl
  case hs =>
    refine ⟨?_, ?_, ?_, ?_, ?_, ?_, ?_, ?_, ?_, ?_, ?_, ?_, ?_, ?_, ?_, ?_, ?_, ?_, ?_, ?_, ?_, ?_, ?_, ?_, ?_, ?_, ?_, ?_, ?_, ?_, ?_, ?_, ?_, ?_, ?_, trivial⟩
    · exact V.Step.move (.inl rfl) (.inl rfl) (.inl ⟨_, rfl⟩) (fun _ h => by cases h; rfl)
    · exact V.Step.move (.inl rfl) (.inl rfl) (.inl ⟨_, rfl⟩) (fun _ h => by cases h; rfl)
    · exact V.Step.move (.inr ⟨_, _, _, rfl, rfl, rfl⟩) (.inl rfl) (.inl ⟨_, rfl⟩) (fun _ h => by cases h; rfl)
    · exact V.Step.idx (i := a) (.inr ⟨_, _, _, rfl, rfl, rfl⟩) rfl rfl (.inl ⟨_, rfl⟩) rfl ha0 ha1 (fun _ h => by cases h; rfl)
    · exact V.Step.row (i := a.toNat) (.inr ⟨_, _, _, rfl, rfl, rfl⟩) rfl rfl HB0.out HC.out (by omega) (fun _ h => by cases h; rfl)
    · exact V.Step.move (.inr ⟨_, _, _, rfl, rfl, rfl⟩) (.inl rfl) (.inl ⟨_, rfl⟩) (fun _ h => by cases h; rfl)
    · exact V.Step.idx (i := b) (.inr ⟨_, _, _, rfl, rfl, rfl⟩) rfl rfl (.inl ⟨_, rfl⟩) rfl hb0 hb1 (fun _ h => by cases h; rfl)
    · exact V.Step.row (i := b.toNat) (.inr ⟨_, _, _, rfl, rfl, rfl⟩) rfl rfl HB0.out HC.out (by omega) (fun _ h => by cases h; rfl)
    · exact V.Step.bin (v := .int .u32 x) (.inr ⟨_, _, _, rfl, rfl, rfl⟩) rfl (.inl ⟨_, rfl⟩) (.inl ⟨_, rfl⟩) rfl rfl (fun w => ⟨rfl, by rw [V.xor_int, hx]⟩) (fun _ h => by cases h; rfl)
    · exact V.Step.move (.inr ⟨_, _, _, rfl, rfl, rfl⟩) (.inl rfl) (.inl ⟨_, rfl⟩) (fun _ h => by cases h; rfl)
    · exact V.Step.move (.inr ⟨_, _, _, rfl, rfl, rfl⟩) (.inl rfl) (.inl ⟨_, rfl⟩) (fun _ h => by cases h; rfl)
    · exact V.Step.bin (v := .int .u8 c) (.inr ⟨_, _, _, rfl, rfl, rfl⟩) rfl (.inl ⟨_, rfl⟩) (.inl ⟨_, rfl⟩) rfl rfl (fun w => ⟨rfl, by rw [V.xor_int, hc]⟩) (fun _ h => by cases h; rfl)
    · exact V.Step.idx (i := c) (.inr ⟨_, _, _, rfl, rfl, rfl⟩) rfl rfl (.inl ⟨_, rfl⟩) rfl hc0 hc1 (fun _ h => by cases h; rfl)
    · exact V.Step.row (i := c.toNat) (.inr ⟨_, _, _, rfl, rfl, rfl⟩) rfl rfl HB0.out HC.out (by omega) (fun _ h => by cases h; rfl)
    · exact V.Step.bin (v := .bool true) (.inr ⟨_, _, _, rfl, rfl, rfl⟩) rfl (.inl ⟨_, rfl⟩) (.inl ⟨_, rfl⟩) rfl rfl (fun w => ⟨rfl, by rw [V.eql_int _ _ _ _ Try.underlying23, hxe]; simp⟩) (fun _ h => by cases h; rfl)
    · exact V.Step.pick (b := true) (.inl rfl) rfl ⟨_, rfl, rfl⟩ (.inl ⟨_, rfl⟩) (fun _ h => by cases h; rfl)
    · exact V.Step.move (.inl rfl) (.inl rfl) (.inl ⟨_, rfl⟩) (fun _ h => by cases h; rfl)
    · exact V.Step.move (.inr ⟨_, _, _, rfl, rfl, rfl⟩) (.inl rfl) (.inl ⟨_, rfl⟩) (fun _ h => by cases h; rfl)
    · exact V.Step.idx (i := a) (.inr ⟨_, _, _, rfl, rfl, rfl⟩) rfl rfl (.inl ⟨_, rfl⟩) rfl ha0 ha1 (fun _ h => by cases h; rfl)
    · exact V.Step.row (i := a.toNat) (.inr ⟨_, _, _, rfl, rfl, rfl⟩) rfl rfl HB0.out HC.out (by omega) (fun _ h => by cases h; rfl)
    · exact V.Step.move (.inr ⟨_, _, _, rfl, rfl, rfl⟩) (.inl rfl) (.inl ⟨_, rfl⟩) (fun _ h => by cases h; rfl)
    · exact V.Step.idx (i := b) (.inr ⟨_, _, _, rfl, rfl, rfl⟩) rfl rfl (.inl ⟨_, rfl⟩) rfl hb0 hb1 (fun _ h => by cases h; rfl)
    · exact V.Step.row (i := b.toNat) (.inr ⟨_, _, _, rfl, rfl, rfl⟩) rfl rfl HB0.out HC.out (by omega) (fun _ h => by cases h; rfl)
    · exact V.Step.bin (v := .bool q) (.inr ⟨_, _, _, rfl, rfl, rfl⟩) rfl (.inl ⟨_, rfl⟩) (.inl ⟨_, rfl⟩) rfl rfl (fun w => ⟨rfl, by rw [V.eql_int _ _ _ _ Try.underlying23, hq1]⟩) (fun _ h => by cases h; rfl)
    · exact V.Step.move (.inr ⟨_, _, _, rfl, rfl, rfl⟩) (.inl rfl) (.inl ⟨_, rfl⟩) (fun _ h => by cases h; rfl)
    · exact V.Step.move (.inr ⟨_, _, _, rfl, rfl, rfl⟩) (.inl rfl) (.inl ⟨_, rfl⟩) (fun _ h => by cases h; rfl)
    · exact V.Step.bin (v := .bool q) (.inr ⟨_, _, _, rfl, rfl, rfl⟩) rfl (.inl ⟨_, rfl⟩) (.inl ⟨_, rfl⟩) rfl rfl (fun w => ⟨rfl, by rw [V.eql_int _ _ _ _ Try.underlying5, hq2]⟩) (fun _ h => by cases h; rfl)
    · exact V.Step.bin (v := .bool true) (.inr ⟨_, _, _, rfl, rfl, rfl⟩) rfl (.inl ⟨_, rfl⟩) (.inl ⟨_, rfl⟩) rfl rfl (fun w => ⟨rfl, by rw [V.eql_bool]; simp⟩) (fun _ h => by cases h; rfl)
    · exact V.Step.pick (b := true) (.inl rfl) rfl ⟨_, rfl, rfl⟩ (.inl ⟨_, rfl⟩) (fun _ h => by cases h; rfl)
    · exact V.Step.move (.inl rfl) (.inl rfl) (.inl ⟨_, rfl⟩) (fun _ h => by cases h; rfl)
    · exact V.Step.idx (i := 0) (.inr ⟨_, _, _, rfl, rfl, rfl⟩) rfl rfl (.inr ⟨_, rfl⟩) rfl (by decide) (by decide) (fun _ h => by cases h; rfl)
    · exact V.Step.row (i := (0 : Int).toNat) (.inr ⟨_, _, _, rfl, rfl, rfl⟩) rfl rfl HB0.out HC.out (by decide) (fun _ h => by cases h; rfl)
    · exact V.Step.bin (v := .bool true) (.inr ⟨_, _, _, rfl, rfl, rfl⟩) rfl (.inl ⟨_, rfl⟩) (.inr ⟨_, rfl⟩) rfl rfl (fun w => ⟨rfl, by rw [V.eql_int _ _ _ _ Try.underlying23, row0]; rfl⟩) (fun _ h => by cases h; rfl)
    · exact V.Step.pick (b := true) (.inl rfl) rfl ⟨_, rfl, rfl⟩ (.inl ⟨_, rfl⟩) (fun _ h => by cases h; rfl)
    · exact V.Step.move (.inl rfl) (.inr rfl) (.inl ⟨_, rfl⟩) (fun _ h => by cases h; rfl)
  case hd =>
    intro a1 w1 hw1 hdf hk
    have h4 : a1.tmps[4]?.getD undef = .bool true := V.slot_of (hk 34 _ 4 rfl rfl)
    go_wp2
    exact bodyPost_ret (v := .bool true) (by simp [results, Try.results9, h4, go_sem]) hdf ⟨rfl, HB4.out.trans (hw1.mono HB4.out.size)⟩

theorem crcTables_walk (w : World) (a : Int) (wa : (Lit.int .u8 a).wf = true) (b : Int) (wb : (Lit.int .u8 b).wf = true) :
    Calls Try.prog 9 #[.int .u8 a, .int .u8 b] w fun e w' => e = .returned (.bool true) ∧ Below w.heap.size w w' := by
  obtain ⟨h0, h1⟩ := wf_u8 wa
  obtain ⟨h2, h3⟩ := wf_u8 wb
  exact crcTables_in w a b h0 h1 h2 h3
end Go.Proofs.Ytmobcabkaodjoaa

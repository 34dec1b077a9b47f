/- The contract of crc's Sum. -/
import Derived.Test.YtmobcabkaodjoaaH2
namespace Go.Proofs.Ytmobcabkaodjoaa
set_option linter.unusedVariables false
open Go.RowKit

/-- The register by a table. -/
def regBy (f : Nat → Nat) (w : Nat) (l : List Nat) : Nat := l.foldl (fun w c => (w / 256) ^^^ f ((w % 256) ^^^ c)) w
def sumBy (f : Nat → Nat) (l : List Nat) : Nat := 4294967295 - regBy f 4294967295 l
theorem regBy_snoc (f : Nat → Nat) (w : Nat) (l : List Nat) (c : Nat) : regBy f w (l ++ [c]) = (regBy f w l / 256) ^^^ f ((regBy f w l % 256) ^^^ c) := by simp [regBy]
theorem xor_lt8 {a b : Nat} (ha : a < 256) (hb : b < 256) : a ^^^ b < 256 := Nat.xor_lt_two_pow (n := 8) ha hb
theorem regBy_lt {f : Nat → Nat} (hf : ∀ i, i < 256 → f i < 4294967296) : ∀ (l : List Nat) (w : Nat), w < 4294967296 → (∀ x ∈ l, x < 256) → regBy f w l < 4294967296
  | [], w, h, _ => h
  | c :: r, w, h, h2 => by
    have h3 := h2 c (by simp)
    exact regBy_lt hf r _ (K.xor_lt32 (by omega) (hf _ (xor_lt8 (by omega) h3))) fun x hx => h2 x (by simp [hx])
theorem mem_takeN {l : List Nat} {k : Nat} (h : ∀ x ∈ l, x < 256) : ∀ x ∈ l.take k, x < 256 := fun x hx => h x (List.mem_of_mem_take hx)
theorem getD_lt8 {l : List Nat} (h : ∀ x ∈ l, x < 256) (k : Nat) : l.getD k 0 < 256 := E.getD_lt h k

/-- By the table of the document it is the document's sum. -/
theorem regBy_row : ∀ (l : List Nat) (w : Nat), (∀ x ∈ l, x < 256) → regBy K.row w l = K.reg w l
  | [], w, _ => rfl
  | c :: r, w, h => by
    have h1 := K.by8 w c (h c (by simp))
    have h2 := regBy_row r (K.sts w (K.bits8 c)) fun x hx => h x (by simp [hx])
    have h3 : regBy K.row w (c :: r) = regBy K.row ((w / 256) ^^^ K.row ((w % 256) ^^^ c)) r := rfl
    rw [h3, ← h1, h2, K.reg_cons]
theorem sumBy_row (l : List Nat) (h : ∀ x ∈ l, x < 256) : sumBy K.row l = K.crc l := by
  unfold sumBy; rw [regBy_row l _ h]; rfl

theorem sum_xor (x a : Int) (hx0 : 0 ≤ x) (hx : x < 4294967296) (ha0 : 0 ≤ a) (ha : a < 4294967296) : bits .xor .u32 (x / 256) a = (((x.toNat / 256) ^^^ a.toNat : Nat) : Int) := by
  have := u32_xor (x / 256) a (by omega) (by omega) ha0 ha
  rw [this, show (x / 256).toNat = x.toNat / 256 by omega]
theorem byte_xor (x c : Int) (hx0 : 0 ≤ x) (hc0 : 0 ≤ c) (hc : c < 256) : bits .xor .u8 (x % 256) c = (((x.toNat % 256) ^^^ c.toNat : Nat) : Int) := by
  have := u8_xor (x % 256) c (by omega) (by omega) hc0 hc
  rw [this, show (x % 256).toNat = x.toNat % 256 by omega]
theorem not_u32 (x : Int) (hx0 : 0 ≤ x) (hx : x < 4294967296) : bits .xor .u32 IntKind.u32.max x = ((4294967295 - x.toNat : Nat) : Int) := by
  have := u32_xor 4294967295 x (by omega) (by omega) hx0 hx
  rw [show IntKind.u32.max = 4294967295 from rfl, this, show (4294967295 : Int).toNat = 4294967295 from rfl, Nat.xor_comm, ← K.not_xor _ (by omega)]

set_option maxHeartbeats 400000 in
theorem sum_zero (C : Array Value) (ao : Option Addr) (cap : Nat) (w : World) :
    Calls Try.prog 13 #[.agg C, .slice ao 0 cap] w fun e w' => e = .returned (.int .u32 0) ∧ Below w.heap.size w w' := by
  have hsg : IntKind.u32.signed = false := rfl
  have hnot : bits .xor .u32 IntKind.u32.max 4294967295 = 0 := by decide
  go_enter Try.func13, Try.ntmps13
  go_wp2_with fail
  go_loopw [5, 10] (fun r i wr => r = .int .u32 4294967295 ∧ i = .int .i64 0 ∧ wr = w.alloc (.cells C 24)) (fun _ _ _ => 0)
  case atStart => exact ⟨rfl, rfl, rfl⟩
  case round =>
    obtain ⟨rfl, rfl, rfl⟩ := hrel
    go_wp2
    go_ret
    exact ⟨rfl, (Below.refl _ _).alloc (Nat.le_refl _) _⟩

set_option maxHeartbeats 400000 in
theorem sum_some (f : Nat → Nat) (C : Array Value) (b off len cap : Nat) (l : List Nat) (w : World) (hC : Tab f C) (hf : ∀ i, i < 256 → f i < 4294967296) (hl : l.length = len) (hm : len ≤ 140737488355328) (hb : b < w.heap.size) (hc : ∀ i, i < len → w.cell? ⟨b, off + i, none⟩ = some (.int .u8 ((l.getD i 0 : Nat) : Int))) (h256 : ∀ x ∈ l, x < 256) :
    Calls Try.prog 13 #[.agg C, .slice (some ⟨b, off, none⟩) len cap] w fun e w' => e = .returned (.int .u32 ((sumBy f l : Nat) : Int)) ∧ Below w.heap.size w w' := by
  have hsg : IntKind.u32.signed = false := rfl
  have HC := hide hC
  have HF := hide hf
  have HL := hide hl
  have H2 := hide h256
  have Hc := hide hc
  clear hC hf hl h256 hc
  go_enter Try.func13, Try.ntmps13
  go_wp2_with fail
  go_loop [5, 10] (fun r i => ∃ (k : Nat) (x : Int), k ≤ len ∧ i = .int .i64 (k : Int) ∧ r = .int .u32 x ∧ 0 ≤ x ∧ x < 4294967296 ∧ Hid (x.toNat = regBy f 4294967295 (l.take k))) (fun _ i => len - (intOf i).toNat)
  case atStart => exact ⟨0, 4294967295, by omega, rfl, rfl, by omega, by omega, hide rfl⟩
  case round =>
    obtain ⟨k, x, hk, rfl, rfl, hx0, hx1, HX⟩ := hrel
    by_cases hlt : k < len
    · have e0 : (w.alloc (.cells C 24)).cell? ⟨b, off + k, none⟩ = some (.int .u8 ((l.getD k 0 : Nat) : Int)) := by
        rw [World.cell?_alloc_lt _ _ ⟨b, off + k, none⟩ hb]; exact Hc.out k hlt
      have hcl := getD_lt8 H2.out k
      have HS := hide (regBy_snoc f 4294967295 (l.take k) (l.getD k 0))
      have HT := hide (take_snocN l k (by have := HL.out; omega))
      obtain ⟨c, hce⟩ : ∃ c : Int, ((l.getD k 0 : Nat) : Int) = c := ⟨_, rfl⟩
      rw [hce] at e0
      have hc0 : 0 ≤ c := by omega
      have hc1 : c < 256 := by omega
      have HCE := hide (show l.getD k 0 = c.toNat by omega)
      have e1 := byte_xor x c hx0 hc0 hc1
      have hjl : (x.toNat % 256) ^^^ c.toNat < 256 := xor_lt8 (by omega) (by omega)
      obtain ⟨j, hj⟩ : ∃ j : Int, (((x.toNat % 256) ^^^ c.toNat : Nat) : Int) = j := ⟨_, rfl⟩
      rw [hj] at e1
      have hj0 : 0 ≤ j := by omega
      have hj1 : j < 256 := by omega
      have HJ := hide (show (x.toNat % 256) ^^^ c.toNat = j.toNat by omega)
      have e2 : (w.alloc (.cells C 24)).cell? ⟨w.heap.size, j.toNat, none⟩ = some (.int .u32 ((f j.toNat : Nat) : Int)) := by
        rw [World.cell?_alloc_new]; exact HC.out.2 _ (by omega)
      have hfl := HF.out j.toNat (by omega)
      obtain ⟨F, hF⟩ : ∃ F : Int, ((f j.toNat : Nat) : Int) = F := ⟨_, rfl⟩
      rw [hF] at e2
      have e3 := sum_xor x F hx0 hx1 (by omega) (by omega)
      have HFF := hide (show f j.toNat = F.toNat by omega)
      have hyl : (x.toNat / 256) ^^^ F.toNat < 4294967296 := K.xor_lt32 (by omega) (by omega)
      obtain ⟨y, hy⟩ : ∃ y : Int, (((x.toNat / 256) ^^^ F.toNat : Nat) : Int) = y := ⟨_, rfl⟩
      rw [hy] at e3
      have hy0 : 0 ≤ y := by omega
      have hy1 : y < 4294967296 := by omega
      have HY := hide (show y.toNat = (x.toNat / 256) ^^^ F.toNat by omega)
      clear hce hcl hjl hj hfl hF hyl hy
      go_wp2
      go_round
      case rel => exact ⟨k + 1, y, by omega, by go_num, rfl, hy0, hy1, hide (by rw [HT.out, HS.out, HCE.out, HY.out, ← HX.out, HJ.out, HFF.out])⟩
      case measure => simp [intOf]; omega
    · obtain rfl : k = len := by omega
      have hn := not_u32 x hx0 hx1
      have HN : Hid (((4294967295 - x.toNat : Nat) : Int) = ((sumBy f l : Nat) : Int)) := hide (by rw [HX.out, List.take_of_length_le (by have := HL.out; omega)]; rfl)
      obtain ⟨z, hz⟩ : ∃ z : Int, ((4294967295 - x.toNat : Nat) : Int) = z := ⟨_, rfl⟩
      rw [hz] at hn HN
      clear hz
      go_wp2
      go_ret
      exact ⟨ret_int HN.out, (Below.refl _ _).alloc (Nat.le_refl _) _⟩

/-- Sum. -/
theorem sum_any (f : Nat → Nat) (C : Array Value) (ao : Option Addr) (len cap : Nat) (l : List Nat) (w : World) (hC : Tab f C) (hf : ∀ i, i < 256 → f i < 4294967296) (h : Sl w .u8 ao len cap (ints l)) (hm : len ≤ 140737488355328) (h256 : ∀ x ∈ l, x < 256) :
    Calls Try.prog 13 #[.agg C, .slice ao len cap] w fun e w' => e = .returned (.int .u32 ((sumBy f l : Nat) : Int)) ∧ Below w.heap.size w w' := by
  obtain ⟨h1, h2, h3, h4, h5⟩ := h
  rw [ints_length] at h1
  by_cases h0 : len = 0
  · subst h0
    obtain rfl : l = [] := List.eq_nil_of_length_eq_zero h1
    rw [show sumBy f [] = 0 by simp [sumBy, regBy]]
    exact sum_zero C ao cap w
  · rcases h5 with h5 | ⟨b, off, rfl, hlt, h5⟩
    · omega
    · exact sum_some f C b off len cap l w hC hf h1 hm hlt (fun i hi => by rw [h5 i hi, ints_getD]) h256
theorem row_lt8 : ∀ i, i < 256 → K.row i < 4294967296 := fun i hi => K.row_lt i (by omega)
/-- Sum by the table. -/
theorem sum_crc (C : Array Value) (ao : Option Addr) (len cap : Nat) (l : List Nat) (w : World) (hC : Tab K.row C) (h : Sl w .u8 ao len cap (ints l)) (hm : len ≤ 140737488355328) (h256 : ∀ x ∈ l, x < 256) :
    Calls Try.prog 13 #[.agg C, .slice ao len cap] w fun e w' => e = .returned (.int .u32 ((K.crc l : Nat) : Int)) ∧ Below w.heap.size w w' := by
  rw [← sumBy_row l h256]
  exact sum_any K.row C ao len cap l w hC row_lt8 h hm h256
end Go.Proofs.Ytmobcabkaodjoaa

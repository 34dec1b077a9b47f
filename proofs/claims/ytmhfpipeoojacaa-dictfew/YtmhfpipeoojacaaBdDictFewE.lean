/- DictFew: few values, however often, need few bits. Conditions: none. -/
import Derived.Test.YtmhfpipeoojacaaBdDictFewD
import Derived.Test.YtmhfpipeoojacaaBdZC
namespace Go.Proofs.Ytmhfpipeoojacaa
set_option linter.unusedVariables false
set_option maxRecDepth 10000
open Go.RowKit
/-- The value of a number modulo k. -/
def Z.fv (k x : Nat) : Z.V := ⟨1, ((x % k : Nat) : Int), ⟨#[]⟩⟩
def Z.fw (k : Nat) (b : List Nat) : List Z.V := b.map (Z.fv k)
theorem fw_snoc {k : Nat} {b : List Nat} {j x : Nat} (h : b[j]? = some x) : Z.fw k (b.take (j + 1)) = Z.fw k (b.take j) ++ [Z.fv k x] := by
  unfold Z.fw; rw [List.take_add_one, h, List.map_append]; rfl
theorem fw_mem {k : Nat} {b : List Nat} {x : Z.V} (hk : 0 < k) (h : x ∈ Z.fw k b) : ∃ n : Nat, n < k ∧ x = ⟨1, (n : Int), ⟨#[]⟩⟩ := by
  obtain ⟨y, _, rfl⟩ := List.mem_map.1 h
  exact ⟨y % k, Nat.mod_lt _ hk, rfl⟩
theorem fw_chk {k : Nat} {b : List Nat} (hk : 0 < k) (hb : b.length ≤ 4096) : Z.chk (Z.fw k b) 1 = 0 := by
  refine chk_of (.inl rfl) (by simpa [Z.fw] using hb) (fun x hx => ?_) (fun x hx => ?_)
  · obtain ⟨n, _, rfl⟩ := fw_mem hk hx; rfl
  · obtain ⟨n, _, rfl⟩ := fw_mem hk hx; simp [Z.may]
theorem rise_nod {k : Nat} : ∀ {ws : List Z.V}, Z.Rise ws → (∀ x ∈ ws, ∃ n : Nat, n < k ∧ x = ⟨1, (n : Int), ⟨#[]⟩⟩) → (ws.map fun x => x.i.toNat).Nodup
  | [], _, _ => by simp
  | x :: ws, h, hm => by
    obtain ⟨h1, h2⟩ := List.pairwise_cons.1 h
    rw [List.map_cons, List.nodup_cons]
    refine ⟨fun hx => ?_, rise_nod h2 fun y hy => hm y (by simp [hy])⟩
    obtain ⟨y, hy, e⟩ := List.mem_map.1 hx
    obtain ⟨n, _, rfl⟩ := hm x (by simp)
    obtain ⟨m, _, rfl⟩ := hm y (by simp [hy])
    simp only [Int.toNat_natCast] at e
    subst e
    have h3 := h1 _ hy
    have h4 := cv_anti (⟨1, (m : Int), ⟨#[]⟩⟩ : Z.V) ⟨1, (m : Int), ⟨#[]⟩⟩
    omega
theorem fw_words {k : Nat} {b : List Nat} (hk : 0 < k) : (Z.wds (Z.fw k b)).length ≤ k := by
  have hm : ∀ x ∈ Z.wds (Z.fw k b), ∃ n : Nat, n < k ∧ x = ⟨1, (n : Int), ⟨#[]⟩⟩ := fun x hx => fw_mem hk (words_mem (words_of _) hx)
  have := sub_len (b := List.range k) (rise_nod (wds_rise _) hm) fun y hy => by
    obtain ⟨x, hx, rfl⟩ := List.mem_map.1 hy
    obtain ⟨n, hn, rfl⟩ := hm x hx
    simpa using hn
  simpa using this
theorem pb_ones : ∀ {ws : List Z.V}, (∀ x ∈ ws, (Z.lb x).length = 1) → (Z.pb ws).length = ws.length
  | [], _ => by simp [Z.pb]
  | x :: ws, h => by
    rw [pb_cons, List.length_append, h x (by simp), pb_ones fun y hy => h y (by simp [hy])]
    simp; omega
theorem fw_bytes {k : Nat} {b : List Nat} (hk : 0 < k) (hk16 : k ≤ 16) (hb : b.length ≤ 500) :
    1 + (Z.wds (Z.fw k b)).length ≤ (Z.dcb (Z.fw k b) 1).length ∧ (Z.dcb (Z.fw k b) 1).length ≤ 1 + (Z.wds (Z.fw k b)).length + (4 * b.length + 7) / 8 := by
  have hw := fw_words (b := b) hk
  have hm : ∀ x ∈ Z.wds (Z.fw k b), ∃ n : Nat, n < k ∧ x = ⟨1, (n : Int), ⟨#[]⟩⟩ := fun x hx => fw_mem hk (words_mem (words_of _) hx)
  have hp : (Z.pb (Z.wds (Z.fw k b))).length = (Z.wds (Z.fw k b)).length := pb_ones fun x hx => by
    obtain ⟨n, hn, rfl⟩ := hm x hx
    rw [lb_int]
    have : E.zig (n : Int) = 2 * n := by unfold E.zig; rw [if_neg (by omega)]; omega
    rw [this, E.leb_small _ (by omega)]
    rfl
  have hd : Z.dwd (Z.wds (Z.fw k b)).length ≤ 4 := (bitLen_le_iff _ 4).2 (by omega)
  rw [dcb_ok (fw_chk hk (by omega))]
  unfold Z.db
  rw [List.length_append, List.length_append, E.leb_small _ (by omega), hp, A.bytesOf_length, bitsAll_length, ints_length, cdL_ok (words_cdE _), List.length_map]
  have hfl : (Z.fw k b).length = b.length := by simp [Z.fw]
  rw [hfl]
  have : b.length * Z.dwd (Z.wds (Z.fw k b)).length ≤ b.length * 4 := Nat.mul_le_mul_left _ hd
  simp only [List.length_cons, List.length_nil]
  omega
set_option maxHeartbeats 1000000 in
theorem dictFew_walk (w : World) (a : Option Addr) (len cap : Nat) (z : List Int) (c : Came .u8 w a len cap z) (hr : cap * 1 ≤ 140737488351232) (many : Int) (wm : (Lit.int .u8 many).wf = true) :
    Calls Try.prog 7 #[.slice a len cap, .int .u8 many] w fun e w' => e = .returned (.bool true) ∧ Below w.heap.size w w' := by
  obtain ⟨b, rfl, h256⟩ := came_bytes c
  have hlen : b.length = len := by rw [← c.1.1, ints_length]
  have hcl := c.1.2.1
  have h0 : 0 ≤ many ∧ many < 256 := wf_u8 wm
  obtain ⟨q, hq⟩ : ∃ q : Nat, many.tmod 16 = (q : Int) := ⟨(many % 16).toNat, by rw [Int.tmod_eq_emod_of_nonneg h0.1]; omega⟩
  have hq16 : q < 16 := by rw [Int.tmod_eq_emod_of_nonneg h0.1] at hq; omega
  obtain ⟨k, hk⟩ : ∃ k : Nat, q + 1 = k := ⟨_, rfl⟩
  have hk0 : 0 < k := by omega
  have hk16 : k ≤ 16 := by omega
  have hqk : (1 : Int) + (q : Int) = (k : Int) := by omega
  have HS := hide c.1
  have HL := hide hlen
  have H256 := hide h256
  clear c h256 hlen wm hk
  go_enter Try.func7, Try.ntmps7
  go_wp2_with fail
  refine (dshown_any _).mono ?_
  rintro e w1 ⟨rfl, hb1⟩
  have HB1 := hide hb1
  clear hb1
  go_wp2_with fail
  have hlm : len ≤ 140737488355328 := by omega
  clear hq hqk h0 hr hcl hq16
  go_loopw [7, 8] (fun v i wr => ∃ j : Nat, j ≤ len ∧ j ≤ 500 ∧ i = .int .i64 j ∧ Hid (OwnV wr w.heap.size v (Z.fw k (b.take j))) ∧ Hid (Below w.heap.size w wr)) (fun _ i _ => len - (intOf i).toNat)
  case atStart => exact ⟨0, Nat.zero_le _, Nat.zero_le _, rfl, hide (World.ownsRow_nil _ _ _ _), HB1⟩
  case round =>
    obtain ⟨j, hj, hj5, rfl, hrow, hbw⟩ := hrel
    by_cases hjl : j < len ∧ j < 500
    · obtain ⟨hjl, hj500⟩ := hjl
      obtain ⟨bb, off, rfl, hlt, d0⟩ := HS.out.at hjl
      obtain ⟨x, hx⟩ : ∃ x, b[j]? = some x := ⟨b[j]'(by rw [HL.out]; exact hjl), List.getElem?_eq_getElem _⟩
      have hxg : (ints b).getD j 0 = (x : Int) := by rw [ints_getD, List.getD_eq_getElem?_getD, hx]; rfl
      rw [hxg] at d0
      have d1 : wr.cell? ⟨bb, off + j, none⟩ = some (.int .u8 (x : Int)) := by rw [hbw.out.cell (p := ⟨bb, off + j, none⟩) hlt]; exact d0
      have hx256 := H256.out x (List.mem_of_getElem? hx)
      obtain ⟨y, hy⟩ : ∃ y, x % k = y := ⟨_, rfl⟩
      have hyk : y < k := by rw [← hy]; exact Nat.mod_lt _ hk0
      have hmod : (x : Int).tmod (k : Int) = (y : Int) := by rw [Int.tmod_eq_emod_of_nonneg (by omega), ← hy]; omega
      have hkz : ((k : Int) == 0) = false := by simp; omega
      have hfs := fw_snoc (k := k) hx
      unfold Z.fv at hfs
      rw [hy] at hfs
      have hfl : (Z.fw k (b.take j)).length = j := by unfold Z.fw; rw [List.length_map, List.length_take, HL.out]; omega
      have HFS := hide hfs
      have HFL := hide hfl
      have hsz := hbw.out.size
      have b1 := below_one wr (.cells #[.int .i64 1, .int .i64 (y : Int), .string ⟨#[]⟩] 24)
      have HR2 := hide (hrow.out.below b1)
      have HB2 := hide (bthen hbw.out b1)
      have hsz2 := HB2.out.size
      clear hx hxg d0 hfs hfl hy b1
      go_wp2_with (at_builtin; refine wpList_appV rfl _ _ rfl w.heap.size _ (Z.fw k (b.take j)) rfl HR2.out (some ⟨wr.heap.size, 0, none⟩) 1 1 [⟨1, (y : Int), ⟨#[]⟩⟩] rfl (slV_one wr 1 (y : Int) ⟨#[]⟩) (by rw [HFL.out]; omega) hsz2 ?_)
      intro v4 w4 ho4 has _
      have hb4 : Below w.heap.size w w4 := HB2.out.trans (has.below hsz2 (fun g hg => (owns_lt HR2.out hg).1))
      rw [← HFS.out] at ho4
      have HO4 := hide ho4
      have HB4 := hide hb4
      clear ho4 hb4 has
      go_wp2
      go_roundw
      case rel => exact ⟨j + 1, hjl, by omega, by go_num, HO4, HB4⟩
      case measure => simp [intOf]; omega
    · have hje : b.take j = b.take 500 := by
        by_cases h5 : j = 500
        · rw [h5]
        · rw [List.take_of_length_le (by rw [HL.out]; omega), List.take_of_length_le (by rw [HL.out]; omega)]
      have hstop : ¬ (j < len ∧ j < 500) := hjl
      obtain ⟨c, hc⟩ : ∃ c, b.take j = c := ⟨_, rfl⟩
      have hcl : c.length = j := by rw [← hc, List.length_take, HL.out]; omega
      have hrow1 := hrow.out
      rw [hc] at hrow1
      have hfl : (Z.fw k c).length = j := by unfold Z.fw; rw [List.length_map, hcl]
      obtain ⟨la, lc, hv, hsl, _⟩ := SlV.of_own hrow1
      rw [hfl] at hv hsl
      subst hv
      have HSL := hide hsl
      have HCL := hide hcl
      have HDB := hide (dbytes_any la j lc (Z.fw k c) 1 wr hsl (fun x hx => by obtain ⟨n, hn, rfl⟩ := fw_mem hk0 hx; show Z.I64 _; unfold Z.I64; simp; omega))
      clear hje hc hcl hrow1 hfl hsl hrow H256
      have hst2 : (j < len → ¬ j < 500) := fun h1 h2 => hstop ⟨h1, h2⟩
      have hcase : ¬ j < len ∨ (j < len ∧ ¬ j < 500) := by
        by_cases h : j < len
        · exact .inr ⟨h, hst2 h⟩
        · exact .inl h
      clear hjl hstop hst2
      rcases hcase with hA | ⟨hA, hA2⟩
      all_goals
        go_wp2_with fail
        refine HDB.out.mono ?_
        rintro e w2 ⟨ba, bc, rfl, _, hb2⟩
        rw [fw_chk hk0 (by rw [HCL.out]; omega)]
        have HB2 := hide (bthen hbw.out hb2)
        obtain ⟨B, hB⟩ : ∃ B, (Z.dcb (Z.fw k c) 1).length = B := ⟨_, rfl⟩
        have HWD := hide (words_some la j lc (Z.fw k c) w2 (HSL.out.below hb2) (by omega))
        have hbytes := fw_bytes hk0 hk16 (b := c) (by rw [HCL.out]; omega)
        have hwk := fw_words (b := c) hk0
        rw [hB, HCL.out] at hbytes
        rw [hB]
        have HBY := hide hbytes
        have HWK := hide hwk
        clear hb2 hB hbytes hwk HDB
        go_wp2_with fail
        refine HWD.out.mono ?_
        rintro e w3 ⟨wa, m, wc, rfl, hsw, _, hb3⟩
        have HB3 := hide (bthen HB2.out hb3)
        obtain ⟨t, ht⟩ : ∃ t, (4 * j + 7) / 8 = t := ⟨_, rfl⟩
        have hwk := HWK.out
        have hby := HBY.out
        rw [hsw.1] at hwk hby
        rw [ht] at hby
        obtain ⟨hby1, hby2⟩ := hby
        have g1 : ((4 : Int) * (j : Int) + 7).tdiv 8 = (t : Int) := by rw [Int.tdiv_eq_ediv_of_nonneg (by omega)]; omega
        have g2 : decide ((B : Int) ≤ 1 + (m : Int) + (t : Int)) = true := by simp; omega
        have g3 : decide (1 + (m : Int) ≤ (B : Int)) = true := by simp; omega
        have hB4 : B ≤ 1000 := by omega
        have ht4 : t ≤ 300 := by omega
        clear hsw hb3 ht HWD HBY HWK
        by_cases hj0 : j = 0
        · have e0 : ((j : Int) == 0) = true := by simp; omega
          clear hj0
          go_wp2
          go_ret
          exact ⟨rfl, HB3.out⟩
        · have e0 : ((j : Int) == 0) = false := by simp; omega
          clear hj0
          go_wp2
          go_ret
          exact ⟨rfl, HB3.out⟩
end Go.Proofs.Ytmhfpipeoojacaa

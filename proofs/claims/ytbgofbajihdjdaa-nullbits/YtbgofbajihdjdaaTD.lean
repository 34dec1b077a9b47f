/- Places of nothing as bytes, and read: null's Bytes and Of, and the document's, whatever comes. -/
import Derived.Test.YtbgofbajihdjdaaTC
namespace Go.Proofs.Ytbgofbajihdjdaa
set_option linter.unusedVariables false
open Go.RowKit

theorem zbytes_none (ao : Option Addr) (cap : Nat) (w : World) :
    Calls Try.prog 20 #[.slice ao 0 cap] w fun e w' => ∃ v, e = .returned v ∧ w'.ownsRow w.heap.size 5 1 v 0 [] ∧ Below w.heap.size w w' := by
  obtain ⟨i0, hi0, hz0, hz1, hz2⟩ := info_parts Try.infoU64
  go_enter Try.func20, Try.ntmps20
  go_wp2_with (at_make; refine wpList_make_full _ rfl _ _ 53 rfl w.heap.size 56 i0 (.int .u64 0) 1 Try.underlying53 hi0 hz0 hz1 _ _ _ _ 0 rfl rfl rfl rfl (by rw [hz2]; omega) (by unfold maxLen; omega) (Nat.le_refl _) ?_)
  intro w1 ho hg
  have HB1 : Hid (Below w.heap.size w w1) := (Below.refl _ w).grown hg (Nat.le_refl _) (by simp)
  clear ho hg
  go_wp2_with fail
  go_loopw [13] (fun i wr => i = .int .i64 0 ∧ Hid (Below w.heap.size w wr)) (fun _ _ => 0)
  case atStart => exact ⟨rfl, HB1⟩
  case round =>
    obtain ⟨rfl, hwr⟩ := hrel
    go_wp2_with fail
    refine (pack_none _ 0 1 _ (by decide)).mono ?_
    rintro e w2 ⟨v, rfl, ho2, hb2⟩
    have HO2 := hide (owns_base ho2 (base' := w.heap.size) fun g hg => by have := (owns_lt ho2 hg).1; have := hwr.out.size; omega)
    have HB2 := hide (hwr.out.trans (hb2.mono hwr.out.size))
    clear ho2 hb2
    go_wp2
    go_ret
    exact ⟨v, rfl, HO2.out, HB2.out⟩
theorem zbytes_any (ao : Option Addr) (len cap : Nat) (bs : List Bool) (w : World) (h : Sb w ao len cap bs) (hm : len ≤ 1048576) :
    Calls Try.prog 20 #[.slice ao len cap] w fun e w' => ∃ v, e = .returned v ∧ w'.ownsRow w.heap.size 5 1 v (A.bytesOf bs).length (B8 (A.bytesOf bs)) ∧ Below w.heap.size w w' := by
  rcases h.2.2.2.2 with h5 | ⟨b, off, rfl, hlt, h5⟩
  · subst h5
    obtain rfl : bs = [] := List.eq_nil_of_length_eq_zero h.1
    exact zbytes_none ao cap w
  · exact zbytes_some b off len cap bs w h.1 hm hlt h5
theorem ybytes_any (ao : Option Addr) (len cap : Nat) (bs : List Bool) (w : World) (h : Sb w ao len cap bs) (hm : len ≤ 1048576) :
    Calls Try.prog 21 #[.slice ao len cap] w fun e w' => ∃ v, e = .returned v ∧ w'.ownsRow w.heap.size 5 1 v (A.bytesOf bs).length (B8 (A.bytesOf bs)) ∧ Below w.heap.size w w' := by
  have H := hide h
  clear h
  go_enter Try.func21, Try.ntmps21
  go_wp2_with fail
  refine (rbytes_any ao len cap bs _ H.out (by omega)).mono ?_
  rintro e w2 ⟨v, rfl, ho2, hb2⟩
  have HO2 := hide ho2
  have HB2 := hide hb2
  clear ho2 hb2
  go_wp2
  go_ret
  exact ⟨v, rfl, HO2.out, HB2.out⟩

/-- Which are nothing, of these bytes. -/
def ofL (l : List Nat) (n : Int) : List Bool := (unpL l n 1).map fun x => x == 1
theorem ofL_length (l : List Nat) (n : Int) : (ofL l n).length = (unpL l n 1).length := by simp [ofL]
theorem ofL_get (l : List Nat) (n : Int) (j : Nat) (h : j < (unpL l n 1).length) : (ofL l n).getD j false = ((unpL l n 1).getD j 0 == 1) := by simp [ofL, List.getD, h]
theorem ofL_bad (l : List Nat) (n : Int) (h : unpC l n 1 ≠ 0) : ofL l n = [] := by
  unfold ofL unpL
  unfold unpC at h
  cases ha : unpArg n 1 with
  | false => simp
  | true =>
    rw [ha] at h
    have h2 : (jb l (n.toNat * (1 : Int).toNat) == 0) = false := by
      simp only [if_true] at h
      simp only [beq_eq_false_iff_ne]
      omega
    rw [h2]
    rfl
/-- A row of bools, filled up to the j-th. -/
def fillTo (bs : List Bool) (len j : Nat) : List Value := Vb (bs.take j) ++ List.replicate (len - j) (.bool false)
theorem fillTo_zero (bs : List Bool) (len : Nat) : fillTo bs len 0 = List.replicate len (.bool false) := by simp [fillTo, Vb]
theorem fillTo_all (bs : List Bool) {len : Nat} (h : bs.length = len) : fillTo bs len len = Vb bs := by subst h; simp [fillTo]
theorem fillTo_set (bs : List Bool) (len j : Nat) (hl : bs.length = len) (h : j < len) : (fillTo bs len j).set j (.bool (bs.getD j false)) = fillTo bs len (j + 1) := by
  have h1 : (Vb (bs.take j)).length = j := by rw [Vb_length, List.length_take]; omega
  unfold fillTo
  rw [take_snocB bs j (by omega), show len - j = (len - (j + 1)) + 1 by omega, List.replicate_succ, List.set_append_right _ _ (by omega), h1, Nat.sub_self, List.set_cons_zero]
  simp [Vb]
theorem fillTo_at (bs : List Bool) (len j : Nat) (hl : bs.length = len) (h : j < len) : (fillTo bs len j)[j]? = some (.bool false) := by
  have h1 : (Vb (bs.take j)).length = j := by rw [Vb_length, List.length_take]; omega
  unfold fillTo
  rw [List.getElem?_append_right (by omega), h1, Nat.sub_self, show len - j = (len - (j + 1)) + 1 by omega, List.replicate_succ]
  rfl

set_option maxHeartbeats 2000000 in
theorem zof_any (ao : Option Addr) (len cap : Nat) (l : List Nat) (n : Int) (w : World) (h : Sl w .u8 ao len cap (ints l)) (h256 : ∀ x ∈ l, x < 256) (hm : len ≤ 1099511627776) :
    Calls Try.prog 18 #[.slice ao len cap, .int .i64 n] w fun e w' => ∃ v, e = .returned (.tuple #[v, .int .i64 (unpC l n 1)]) ∧ w'.ownsRow w.heap.size 4 1 v (ofL l n).length (Vb (ofL l n)) ∧ Below w.heap.size w w' := by
  have H := hide h
  have H2 := hide h256
  clear h h256
  obtain ⟨i0, hi0, hz0, hz1, hz2⟩ := info_parts Try.infoBool
  go_enter Try.func18, Try.ntmps18
  go_wp2_with fail
  refine (unpack_u ao len cap l n 1 _ H.out H2.out hm).mono ?_
  rintro e w1 ⟨v, rfl, ho, hb⟩
  have hle := unpL_le l n 1
  have HOL := hide (ofL_length l n)
  have HBAD := hide (ofL_bad l n)
  have HG := hide (ofL_get l n)
  obtain ⟨c, hc⟩ : ∃ c, unpC l n 1 = c := ⟨_, rfl⟩
  obtain ⟨u, hu⟩ : ∃ u, unpL l n 1 = u := ⟨_, rfl⟩
  obtain ⟨bs, hbs⟩ : ∃ bs, ofL l n = bs := ⟨_, rfl⟩
  rw [hu] at ho hle HG HOL
  rw [hc] at HBAD ⊢
  rw [hbs] at HOL HBAD HG
  have HCC := hide hc
  have HBS := hide hbs
  have HBW := hide hb
  obtain ⟨ax, cx, rfl, hsx, _⟩ := Sl.of_owns ho
  obtain ⟨m, hum⟩ : ∃ m, u.length = m := ⟨_, rfl⟩
  rw [hum] at hsx hle HG HOL ⊢
  have HSX := hide hsx
  clear ho hb hsx hc hu hbs hum
  by_cases h0 : c = 0
  · subst h0
    have hsz := HBW.out.size
    go_wp2_with (at_make; refine wpList_make_full _ rfl _ _ 23 rfl w.heap.size 4 i0 (.bool false) 1 Try.underlying23 hi0 hz0 hz1 _ _ _ _ m rfl rfl rfl rfl (by rw [hz2]; omega) (by unfold maxLen; omega) hsz ?_)
    intro w2 ho hg
    have hb2 : Below w1.heap.size w1 w2 := (Below.refl _ w1).grown hg (Nat.le_refl _) (by simp)
    have ho1 : w2.ownsRow w.heap.size 4 1 (.slice (some ⟨w1.heap.size, 0, none⟩) m m) m (fillTo bs m 0) := by
      rw [fillTo_zero]
      rw [toList_madeCells_one] at ho
      exact ho
    have HB2 := hide hb2
    have HO1 := hide ho1
    clear hb2 ho1 ho hg
    go_wp2_with fail
    go_loopw [25] (fun i wr => ∃ j : Nat, j ≤ m ∧ i = .int .i64 j ∧ Hid (wr.ownsRow w.heap.size 4 1 (.slice (some ⟨w1.heap.size, 0, none⟩) m m) m (fillTo bs m j)) ∧ Hid (Below w1.heap.size w1 wr)) (fun i _ => m - (intOf i).toNat)
    case atStart => exact ⟨0, Nat.zero_le _, rfl, HO1, HB2⟩
    case round =>
      obtain ⟨j, hj, rfl, hor, hwr⟩ := hrel
      clear HO1 HB2
      by_cases hjl : j < m
      · rcases HSX.out.2.2.2.2 with h5 | ⟨b, off, rfl, hlt, h5⟩
        · omega
        have d1 : wr.cell? ⟨b, off + j, none⟩ = some (.int .u64 (u.getD j 0)) := by rw [hwr.out.cell (p := ⟨b, off + j, none⟩) hlt]; exact h5 j hjl
        have hg := HG.out j hjl
        obtain ⟨y, hy⟩ : ∃ y, u.getD j 0 = y := ⟨_, rfl⟩
        rw [hy] at d1 hg
        obtain ⟨q, hq⟩ : ∃ q, (y == 1) = q := ⟨_, rfl⟩
        rw [hq] at hg
        have HGG := hide hg
        have hc4 := hor.out.cellAt j (by omega)
        rw [fillTo_at bs m j HOL.out hjl] at hc4
        have hf4 := hor.out.frozenAt j
        have HO := hide (hor.out.stored j (.bool q)).1
        clear h5 hy hg
        go_wp2
        go_roundw
        case rel => exact ⟨j + 1, hjl, by go_num, hide (by rw [← fillTo_set bs m j HOL.out hjl, HGG.out]; exact HO.out), hide (hwr.out.setCell (p := ⟨w1.heap.size, j, none⟩) (Nat.le_refl _) _)⟩
        case measure => simp [intOf]; omega
      · obtain rfl : j = m := by omega
        go_wp2
        go_ret2
        refine ⟨.slice (some ⟨w1.heap.size, 0, none⟩) j j, by rw [HCC.out]; rfl, ?_, HBW.out.trans (hwr.out.mono HBW.out.size)⟩
        have h6 := hor.out
        rw [fillTo_all bs HOL.out] at h6
        rw [HBS.out, HOL.out]
        exact h6
  · have hne : (c != 0) = true := by rw [bne_iff_ne]; exact h0
    have HBN := hide (HBAD.out h0)
    go_wp2
    go_ret2
    exact ⟨.slice none 0 0, by rw [HCC.out]; rfl, by rw [HBS.out, HBN.out]; exact World.ownsRow_nil _ _ _ _, HBW.out⟩

set_option maxHeartbeats 2000000 in
theorem yof_any (ao : Option Addr) (len cap : Nat) (l : List Nat) (n : Int) (w : World) (h : Sl w .u8 ao len cap (ints l)) (h256 : ∀ x ∈ l, x < 256) (hm : len ≤ 1099511627776) :
    Calls Try.prog 19 #[.slice ao len cap, .int .i64 n] w fun e w' => ∃ v, e = .returned (.tuple #[v, .int .i64 (unpC l n 1)]) ∧ w'.ownsRow w.heap.size 4 1 v (ofL l n).length (Vb (ofL l n)) ∧ Below w.heap.size w w' := by
  have H := hide h
  have H2 := hide h256
  clear h h256
  obtain ⟨i0, hi, hz0, hz1, hz2⟩ := info_parts Try.infoBool
  go_enter Try.func19, Try.ntmps19
  go_wp2_with fail
  refine (runpack_u ao len cap l n 1 _ H.out H2.out hm).mono ?_
  rintro e w1 ⟨v, rfl, ho, hb⟩
  have hle := unpL_le l n 1
  have HOL := hide (ofL_length l n)
  have HBAD := hide (ofL_bad l n)
  have HG := hide (ofL_get l n)
  obtain ⟨c, hc⟩ : ∃ c, unpC l n 1 = c := ⟨_, rfl⟩
  obtain ⟨u, hu⟩ : ∃ u, unpL l n 1 = u := ⟨_, rfl⟩
  obtain ⟨bs, hbs⟩ : ∃ bs, ofL l n = bs := ⟨_, rfl⟩
  rw [hu] at ho hle HG HOL
  rw [hc] at HBAD ⊢
  rw [hbs] at HOL HBAD HG
  have HCC := hide hc
  have HBS := hide hbs
  have HBW := hide hb
  obtain ⟨ax, cx, rfl, hsx, _⟩ := Sl.of_owns ho
  obtain ⟨m, hum⟩ : ∃ m, u.length = m := ⟨_, rfl⟩
  rw [hum] at hsx hle HG HOL ⊢
  have HSX := hide hsx
  clear ho hb hsx hc hu hbs hum
  by_cases h0 : c = 0
  · subst h0
    go_wp2_with fail
    go_loopw [8, 9] (fun v8 v9 wr => ∃ j : Nat, j ≤ m ∧ v9 = .int .i64 j ∧ Hid (wr.ownsRow w1.heap.size 4 1 v8 j (Vb (bs.take j))) ∧ Hid (Below w1.heap.size w1 wr)) (fun _ v9 _ => m - (intOf v9).toNat)
    case atStart => exact ⟨0, Nat.zero_le _, rfl, hide (World.ownsRow_nil _ _ _ _), hide (Below.refl _ _)⟩
    case round =>
      obtain ⟨j, hj, rfl, hor, hwr⟩ := hrel
      have hsz := hwr.out.size
      have hsw := HBW.out.size
      by_cases hjl : j < m
      · rcases HSX.out.2.2.2.2 with h5 | ⟨b, off, rfl, hlt, h5⟩
        · omega
        have d1 : wr.cell? ⟨b, off + j, none⟩ = some (.int .u64 (u.getD j 0)) := by rw [hwr.out.cell (p := ⟨b, off + j, none⟩) hlt]; exact h5 j hjl
        have hg := HG.out j hjl
        obtain ⟨y, hy⟩ : ∃ y, u.getD j 0 = y := ⟨_, rfl⟩
        rw [hy] at d1 hg
        obtain ⟨q, hq⟩ : ∃ q, (y == 1) = q := ⟨_, rfl⟩
        rw [hq] at hg
        have HT := hide (take_snocB bs j (by rw [HOL.out]; exact hjl))
        rw [hg] at HT
        clear h5 hy hg
        go_wp2_with (at_builtin; refine wpList_append_to rfl (.tmp 25) (.tmp 31) 23 rfl w1.heap.size 4 i0 (.bool false) 1 1 Try.underlying23 hi hz0 hz1 hz2 rfl (by decide) _ _ _ rfl (hor.out.alloc _) (some ⟨wr.heap.size, 0, none⟩) 1 1 [.bool q] rfl (by simp) rfl (newsB _ _) (oneB _) (by unfold maxLen; omega) (by omega) (by simp; omega) ?_)
        intro v8 w2 hn2 has
        have HB2 : Hid (Below w1.heap.size w1 w2) := (hwr.out.alloc hsz _).trans (has.below (by simp; omega) (fun k hk => (owns_lt hor.out hk).1))
        have HN2 : Hid (w2.ownsRow w1.heap.size 4 1 v8 (j + 1) (Vb (bs.take (j + 1)))) := by
          show World.ownsRow _ _ _ _ _ _ _
          rw [HT.out, Vb_append]
          exact hn2
        clear hn2 has d1
        go_wp2
        go_roundw
        case rel => exact ⟨j + 1, hjl, by go_num, HN2, HB2⟩
        case measure => simp [intOf]; omega
      · obtain rfl : j = m := by omega
        have hll : bs.take j = bs := by rw [← HOL.out, List.take_length]
        go_wp2
        go_ret2
        refine ⟨_, by rw [HCC.out]; rfl, ?_, HBW.out.trans (hwr.out.mono HBW.out.size)⟩
        have h6 := hor.out
        rw [hll] at h6
        rw [HBS.out, HOL.out]
        exact owns_base h6 fun g hg => by have := (owns_lt h6 hg).1; omega
  · have hne : (c != 0) = true := by rw [bne_iff_ne]; exact h0
    have HBN := hide (HBAD.out h0)
    go_wp2
    go_ret2
    exact ⟨.slice none 0 0, by rw [HCC.out]; rfl, by rw [HBS.out, HBN.out]; exact World.ownsRow_nil _ _ _ _, HBW.out⟩
end Go.Proofs.Ytbgofbajihdjdaa

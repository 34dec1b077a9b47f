/- The contract of the reference's Bytes. -/
import Derived.Test.YtmhfpipeoojacaaGreatBdP
import Derived.Test.YtmhfpipeoojacaaGreatBdQ
import Derived.Test.YtmhfpipeoojacaaGreatBdA
namespace Go.Proofs.YtmhfpipeoojacaaGreat
set_option linter.unusedVariables false
open Go.RowKit

/-- What the reference's Bytes answers: bytes in new memory. -/
def BytesNew (x : Z.V) (w : World) (e : Ending) (w' : World) : Prop := ∃ a c, e = .returned (.tuple #[.slice a (Z.bl x).length c, .int .i64 (Z.be x)]) ∧ Sl w' .u8 a (Z.bl x).length c (ints (Z.bl x)) ∧ Below w.heap.size w w' ∧ ∀ y, a = some y → w.heap.size ≤ y.block
theorem BytesNew.no {x : Z.V} {w w' : World} (h : Z.may x = false) (hb : Below w.heap.size w w') : BytesNew x w (.returned (.tuple #[.slice none 0 0, .int .i64 1])) w' := by
  have e1 : Z.bl x = [] := by unfold Z.bl; rw [h]; rfl
  have e2 : Z.be x = 1 := by unfold Z.be; rw [h]; rfl
  unfold BytesNew; rw [e1, e2]
  exact ⟨none, 0, rfl, Sl.nil _ _, hb, by simp⟩
theorem BytesNew.yes {x : Z.V} {w w' : World} {l : List Nat} {a : Option Addr} {len c : Nat} (h : Z.may x = true) (hl : Z.lb x = l) (hn : l.length = len) (hs : Sl w' .u8 a len c (ints l)) (hb : Below w.heap.size w w') (hf : ∀ y, a = some y → w.heap.size ≤ y.block) : BytesNew x w (.returned (.tuple #[.slice a len c, .int .i64 0])) w' := by
  have e1 : Z.bl x = l := by unfold Z.bl; rw [h]; exact hl
  have e2 : Z.be x = 0 := by unfold Z.be; rw [h]; rfl
  subst hn
  unfold BytesNew; rw [e1, e2]
  exact ⟨a, c, rfl, hs, hb, hf⟩
/-- A row of one's own lies where it may. -/
theorem own_new {w : World} {B C : Nat} {e : TypeId} {size n : Nat} {v : Value} {xs : List Value} {a : Option Addr} (h : w.ownsRow B e size v n xs) (ha : v.ownBlock = a.map (·.block)) (hC : C ≤ B) : ∀ y, a = some y → C ≤ y.block := fun y hy => by
  have := (owns_lt h (k := y.block) (by rw [ha, hy]; rfl)).1
  omega

set_option maxHeartbeats 1000000 in
theorem ubytes_new (k i : Int) (s : ByteArray) (w : World) (hi : Z.I64 i) :
    Calls Tryz.prog 26 #[.agg #[.int .i64 k, .int .i64 i, .string s]] w (BytesNew ⟨k, i, s⟩ w) := by
  have hA := At.new w k i s
  have b0 := hide (below_one w (.cells #[.int .i64 k, .int .i64 i, .string s] 45))
  cases hm : Z.may ⟨k, i, s⟩ with
  | false =>
    have HM := hide hm
    go_enter Tryz.func26, Tryz.ntmps26
    go_wp2_with fail
    refine (umay_any _ _ _ _ hi).mono ?_
    rintro e w1 ⟨rfl, hb⟩
    rw [HM.out]
    replace b0 := hide (bthen b0.out hb)
    clear hb hA hm
    go_wp2
    go_ret2
    exact BytesNew.no HM.out b0.out
  | true =>
    have HM := hide hm
    clear hm
    by_cases k1 : k = 1
    · subst k1
      go_enter Tryz.func26, Tryz.ntmps26
      go_wp2_with fail
      refine (umay_any _ _ _ _ hi).mono ?_
      rintro e w1 ⟨rfl, hb⟩
      rw [HM.out]
      replace b0 := hide (bthen b0.out hb)
      replace hA := hA.below hb
      obtain ⟨a1, a2, a3⟩ := hA.cells
      clear hb
      replace hA := hide hA
      go_wp2_with fail
      refine (rzig_any _ _ hi.1 hi.2).mono ?_
      rintro e w2 ⟨rfl, rfl⟩
      go_wp2_with fail
      refine (rput_any _ _ (by omega) (by have := E.zig_lt i hi.1 hi.2; omega)).mono ?_
      rintro e w3 ⟨v3, rfl, ho3, hb⟩
      rw [Int.toNat_natCast] at ho3
      obtain ⟨q1, q2, rfl, hs, hob⟩ := Sl.of_bytes ho3
      have HF := hide (own_new ho3 hob b0.out.size)
      replace b0 := hide (bthen b0.out hb)
      replace hs := hide hs
      clear hb ho3 a1 a2 a3 hA hob
      go_wp2
      go_ret2
      exact BytesNew.yes HM.out lb_int rfl hs.out b0.out HF.out
    · by_cases k2 : k = 2
      · subst k2
        have HU : Hid (IntKind.u64.wrap i = Z.u i) := u64_wrap i
        have HI := Z.u_in i
        have HK := D.ky_in HI
        go_enter Tryz.func26, Tryz.ntmps26
        go_wp2_with fail
        refine (umay_any _ _ _ _ hi).mono ?_
        rintro e w1 ⟨rfl, hb⟩
        rw [HM.out]
        replace b0 := hide (bthen b0.out hb)
        replace hA := hA.below hb
        obtain ⟨a1, a2, a3⟩ := hA.cells
        clear hb
        replace hA := hide hA
        go_wp2_with fail
        rw [HU.out]
        refine (rkey_any _ _ HI.1 HI.2).mono ?_
        rintro e w2 ⟨rfl, rfl⟩
        obtain ⟨n, hn⟩ : ∃ n, D.ky (Z.u i) = n := ⟨_, rfl⟩
        rw [hn] at HK ⊢
        obtain ⟨n0, n1⟩ := HK
        have HN := hide hn
        clear hn HI HU hi
        have hmk := make_eight
        clear a2 a3
        go_wp2_with fail
        go_rounds 9
        go_ret2
        have h := Sl.eight w2 5 (n / 256 / 256 / 256 / 256 / 256 / 256 / 256 % 256) (n / 256 / 256 / 256 / 256 / 256 / 256 % 256) (n / 256 / 256 / 256 / 256 / 256 % 256) (n / 256 / 256 / 256 / 256 % 256) (n / 256 / 256 / 256 % 256) (n / 256 / 256 % 256) (n / 256 % 256) (n % 256)
        have e : ints (Z.k8 n.toNat) = [n / 256 / 256 / 256 / 256 / 256 / 256 / 256 % 256, n / 256 / 256 / 256 / 256 / 256 / 256 % 256, n / 256 / 256 / 256 / 256 / 256 % 256, n / 256 / 256 / 256 / 256 % 256, n / 256 / 256 / 256 % 256, n / 256 / 256 % 256, n / 256 % 256, n % 256] := by
          simp only [ints, Z.k8, List.map_cons, List.map_nil, List.cons.injEq, and_true]
          omega
        exact BytesNew.yes (l := Z.k8 n.toNat) HM.out (by rw [lb_float, HN.out]) rfl (by rw [e]; exact h) (bthen b0.out (below_one w2 _)) (fun y hy => by have := b0.out.size; obtain rfl := Option.some.inj hy; exact this)
      · by_cases k3 : k = 3
        · subst k3
          have hsz := may_size HM.out
          go_enter Tryz.func26, Tryz.ntmps26
          go_wp2_with fail
          refine (umay_any _ _ _ _ hi).mono ?_
          rintro e w1 ⟨rfl, hb⟩
          rw [HM.out]
          replace b0 := hide (bthen b0.out hb)
          replace hA := hA.below hb
          obtain ⟨a1, a2, a3⟩ := hA.cells
          clear hb
          replace hA := hide hA
          go_wp2_with fail
          refine (rtext_any _ _ (by omega)).mono ?_
          rintro e w3 ⟨v3, rfl, ho3, hb⟩
          obtain ⟨q1, q2, rfl, hs, hob⟩ := Sl.of_bytes ho3
          have HF := hide (own_new ho3 hob b0.out.size)
          replace b0 := hide (bthen b0.out hb)
          replace hs := hide hs
          clear hb ho3 a1 a2 a3 hA hob
          go_wp2
          go_ret2
          exact BytesNew.yes HM.out lb_text List.length_append (by rw [← List.length_append]; exact hs.out) b0.out HF.out
        · go_enter Tryz.func26, Tryz.ntmps26
          go_wp2_with fail
          refine (umay_any _ _ _ _ hi).mono ?_
          rintro e w1 ⟨rfl, hb⟩
          rw [HM.out]
          replace b0 := hide (bthen b0.out hb)
          replace hA := hA.below hb
          obtain ⟨a1, a2, a3⟩ := hA.cells
          clear hb
          replace hA := hide hA
          go_wp2
          go_ret2
          exact BytesNew.yes HM.out (lb_else k1 k2 k3) rfl (Sl.nil _ _) b0.out (by simp)
theorem ubytes_any (k i : Int) (s : ByteArray) (w : World) (hi : Z.I64 i) :
    Calls Tryz.prog 26 #[.agg #[.int .i64 k, .int .i64 i, .string s]] w (BytesOf ⟨k, i, s⟩ w) :=
  (ubytes_new k i s w hi).mono fun _ _ ⟨a, c, h1, h2, h3, _⟩ => ⟨a, c, h1, h2, h3⟩
end Go.Proofs.YtmhfpipeoojacaaGreat
/- Bytes appended to bytes of one's own, as a law at the operation. -/
namespace Go.Proofs.YtmhfpipeoojacaaGreat
set_option linter.unusedVariables false
open Go.RowKit

theorem wpList_app {w : World} {ops : Array Oper} {rest : List Oper} {o : Oper} {a : Act} {Q : Exit → Act → World → Prop} (hgd : o.guard = none) (s x : Operand)
    (ho : o.op = .call { callee := .builtin .append, args := #[s, x], argTypes := #[23, 23] })
    (base : Nat) (v : Value) (l : List Nat) (hs : a.eval s = v) (hown : w.ownsRow base 5 1 v l.length (B8 l))
    (ao : Option Addr) (m c : Nat) (news : List Nat) (hx : a.eval x = .slice ao m c) (hsl : Sl w .u8 ao m c (ints news)) (hlim : l.length + m ≤ 140737488355328) (hbase : base ≤ w.heap.size) (r : List Nat) (hr : l ++ news = r)
    (h : ∀ v' w', w'.ownsRow base 5 1 v' r.length (B8 r) → AS w v w' v' → wpList Tryz.prog ops Q rest (a.put o.dst v') w') : wpList Tryz.prog ops Q (o :: rest) a w := by
  obtain ⟨i0, hi, hz0, hz1, hz2⟩ := info_parts Tryz.infoU8
  have hm : news.length = m := by rw [← hsl.1, ints_length]
  refine wpList_append_to hgd s x 23 ho base 5 i0 (.int .u8 0) 1 1 Tryz.underlying23 hi hz0 hz1 hz2 rfl (by decide) v l.length (B8 l) hs hown ao m c ((ints news).map (Value.int .u8)) hx ?_ (by simp [ints_length, hm]) hsl.news ?_ (by unfold maxLen; omega) (by omega) hbase ?_
  · intro e
    have h4 := hsl.2.2.2.1 e
    have h2 := hsl.2.1
    exact ⟨by omega, h4⟩
  · intro u hu
    obtain ⟨y, _, rfl⟩ := List.mem_map.1 hu
    rfl
  · intro v' w' ho' has'
    refine h v' w' ?_ has'
    rw [← hr, List.length_append, hm, B8_append, B8_ints news]
    exact ho'
/-- No bytes, in new memory. -/
theorem owns_none (w : World) : (w.alloc (.cells #[] 5)).ownsRow w.heap.size 5 1 (.slice (some ⟨w.heap.size, 0, none⟩) 0 0) ([] : List Nat).length (B8 []) :=
  World.ownsRow_lit w #[] 0 (Nat.le_refl _) (by decide) (by simp)
/-- A row of one's own, as bytes that can be read; its length under a name. -/
theorem Sl.of_own {w : World} {B : Nat} {v : Value} {l : List Nat} (h : w.ownsRow B 5 1 v l.length (B8 l)) {k : Nat} (hk : l.length = k) : ∃ a c, v = .slice a k c ∧ Sl w .u8 a k c (ints l) := by
  subst hk
  obtain ⟨a, c, h1, h2, _⟩ := Sl.of_bytes h
  exact ⟨a, c, h1, h2⟩
end Go.Proofs.YtmhfpipeoojacaaGreat
/- Bytes: a column's values laid down. -/
namespace Go.Proofs.YtmhfpipeoojacaaGreat
set_option linter.unusedVariables false
open Go.RowKit

/-- What Bytes tells: nothing beside an error. -/
def Z.cb (l : List Z.V) (kind : Int) : List Nat := if Z.chk l kind = 0 then Z.pb l else []
theorem cb_bad {l : List Z.V} {kind : Int} (h : Z.chk l kind ≠ 0) : Z.cb l kind = [] := by unfold Z.cb; rw [if_neg h]
theorem cb_ok {l : List Z.V} {kind : Int} (h : Z.chk l kind = 0) : Z.cb l kind = Z.pb l := by unfold Z.cb; rw [if_pos h]
theorem bl_may {x : Z.V} (h : Z.may x = true) : Z.bl x = Z.lb x := by unfold Z.bl; rw [h]; rfl
theorem pb_take {l : List Z.V} {j : Nat} {x : Z.V} (h : l[j]? = some x) : Z.pb (l.take j) ++ Z.lb x = Z.pb (l.take (j + 1)) := by rw [take_snocV h, pb_snoc]
/-- A value's bytes are few. -/
theorem lb_le {x : Z.V} (hi : Z.I64 x.i) (h : Z.may x = true) : (Z.lb x).length ≤ 1034 := by
  obtain ⟨k, i, s⟩ := x
  rcases may_kind h with rfl | rfl | rfl | rfl
  · rw [lb_else (by decide) (by decide) (by decide)]; simp
  · rw [lb_int]
    have := E.leb_ten _ (E.zig_lt i hi.1 hi.2)
    omega
  · rw [lb_float, Z.k8_length]; omega
  · have hsz := may_size h
    rw [lb_text, List.length_append, sb_length]
    have := E.leb_ten s.size (by omega)
    omega
theorem pb_le : ∀ l : List Z.V, (∀ x ∈ l, Z.I64 x.i) → (∀ x ∈ l, Z.may x = true) → (Z.pb l).length ≤ 1034 * l.length
  | [], _, _ => by simp [Z.pb]
  | x :: l, h1, h2 => by
    have a1 := lb_le (h1 x (by simp)) (h2 x (by simp))
    have a2 := pb_le l (fun y hy => h1 y (by simp [hy])) (fun y hy => h2 y (by simp [hy]))
    rw [pb_cons, List.length_append, List.length_cons]
    omega
theorem pb_take_le {l : List Z.V} (h1 : ∀ x ∈ l, Z.I64 x.i) (h2 : ∀ x ∈ l, Z.may x = true) (j : Nat) : (Z.pb (l.take j)).length ≤ 1034 * l.length := by
  have := pb_le (l.take j) (fun y hy => h1 y (List.mem_of_mem_take hy)) (fun y hy => h2 y (List.mem_of_mem_take hy))
  rw [List.length_take] at this
  omega
/-- What Bytes answers. -/
def ColBytes (l : List Z.V) (kind : Int) (w : World) (e : Ending) (w' : World) : Prop := ∃ a c, e = .returned (.tuple #[.slice a (Z.cb l kind).length c, .int .i64 (Z.chk l kind)]) ∧ Sl w' .u8 a (Z.cb l kind).length c (ints (Z.cb l kind)) ∧ Below w.heap.size w w'
theorem ColBytes.no {l : List Z.V} {kind E : Int} {w w' : World} (h : Z.chk l kind = E) (h0 : E ≠ 0) (hb : Below w.heap.size w w') : ColBytes l kind w (.returned (.tuple #[.slice none 0 0, .int .i64 E])) w' := by
  unfold ColBytes; rw [cb_bad (by rw [h]; exact h0), h]
  exact ⟨none, 0, rfl, Sl.nil _ _, hb⟩
theorem ColBytes.yes {l : List Z.V} {kind : Int} {w w' : World} {B : Nat} {v : Value} (h : Z.chk l kind = 0) (ho : w'.ownsRow B 5 1 v (Z.pb l).length (B8 (Z.pb l))) (hb : Below w.heap.size w w') : ColBytes l kind w (.returned (.tuple #[v, .int .i64 0])) w' := by
  obtain ⟨a, c, rfl, hs, _⟩ := Sl.of_bytes ho
  unfold ColBytes; rw [cb_ok h, h]
  exact ⟨a, c, rfl, hs, hb⟩

set_option maxHeartbeats 1000000 in
theorem pbytes_some (b off len cap : Nat) (l : List Z.V) (kind : Int) (w : World) (h : SlV w (some ⟨b, off, none⟩) len cap l) (hI : ∀ x ∈ l, Z.I64 x.i) (h0 : Z.chk l kind = 0) (hlt : b < w.heap.size)
    (hc : ∀ j x, l[j]? = some x → w.cell? ⟨b, off + j * 3, none⟩ = some (.int .i64 x.k) ∧ w.cell? ⟨b, off + j * 3 + 1, none⟩ = some (.int .i64 x.i) ∧ w.cell? ⟨b, off + j * 3 + 2, none⟩ = some (.string x.s)) :
    Calls Tryz.prog 19 #[.slice (some ⟨b, off, none⟩) len cap, .int .i64 kind] w (ColBytes l kind w) := by
  have HC := hide hc
  have HL := hide h.1
  have HI := hide hI
  have HK := hide h0
  have hm : len ≤ 4096 := by rw [← h.1]; exact (chk_zero h0).2.1
  have HM := hide (chk_zero h0).2.2.2
  have HCK := hide (check_any _ _ _ l kind w h hI)
  clear hc hI h0 h
  go_enter Tryz.func19, Tryz.ntmps19
  go_wp2_with fail
  refine HCK.out.mono ?_
  rintro e w1 ⟨rfl, hb1⟩
  rw [HK.out]
  replace hb1 := hide hb1
  clear HCK
  go_wp2_with fail
  go_loopw [7, 20] (fun v i wr => ∃ j : Nat, j ≤ len ∧ i = .int .i64 j ∧ Hid (wr.ownsRow w.heap.size 5 1 v (Z.pb (l.take j)).length (B8 (Z.pb (l.take j)))) ∧ Hid (Below w.heap.size w wr)) (fun _ i _ => len - (intOf i).toNat)
  case atStart => exact ⟨0, Nat.zero_le _, rfl, hide (World.ownsRow_nil _ _ _ _), hb1⟩
  case round =>
    obtain ⟨j, hj, rfl, hrow, hbw⟩ := hrel
    by_cases hjl : j < len
    · obtain ⟨⟨xk, xi, xs⟩, hx⟩ : ∃ x, l[j]? = some x := ⟨l[j]'(by rw [HL.out]; exact hjl), List.getElem?_eq_getElem _⟩
      obtain ⟨c1, c2, c3⟩ := HC.out j _ hx
      have d1 : wr.cell? ⟨b, off + j * 3, none⟩ = some (.int .i64 xk) := by rw [hbw.out.cell (p := ⟨b, off + j * 3, none⟩) hlt]; exact c1
      have d2 : wr.cell? ⟨b, off + j * 3 + 1, none⟩ = some (.int .i64 xi) := by rw [hbw.out.cell (p := ⟨b, off + j * 3 + 1, none⟩) hlt]; exact c2
      have d3 : wr.cell? ⟨b, off + j * 3 + 2, none⟩ = some (.string xs) := by rw [hbw.out.cell (p := ⟨b, off + j * 3 + 2, none⟩) hlt]; exact c3
      have HX := hide hx
      clear c1 c2 c3 hx
      have HXM := hide (HM.out _ (List.mem_of_getElem? HX.out))
      have HXI := hide (HI.out _ (List.mem_of_getElem? HX.out))
      have HLE := hide (pb_take_le HI.out HM.out j)
      have HLB := hide (lb_le HXI.out HXM.out)
      go_wp2_with fail
      refine (vbytes_any _ _ _ _ HXI.out).mono ?_
      rintro e w2 ⟨qa, qc, rfl, hs2, hb2⟩
      rw [bl_may HXM.out]
      rw [bl_may HXM.out] at hs2
      have hbm : Below w.heap.size w w2 := bthen (bthen hbw.out (below_one wr _)) hb2
      have hrow2 : w2.ownsRow w.heap.size 5 1 u7 (Z.pb (l.take j)).length (B8 (Z.pb (l.take j))) := owns_below (hrow.out.alloc _) hb2
      have hsz := hbm.size
      obtain ⟨m, hmm⟩ : ∃ m, (Z.lb ⟨xk, xi, xs⟩).length = m := ⟨_, rfl⟩
      rw [hmm]
      rw [hmm] at hs2
      have HMM := hide hmm
      have HBM := hide hbm
      have HS2 := hide hs2
      have HR2 := hide hrow2
      clear hmm hbm hs2 hrow2 hb2 d1 d2 d3
      go_wp2_with (at_builtin; refine wpList_app rfl _ _ rfl w.heap.size u7 (Z.pb (l.take j)) rfl HR2.out qa m qc (Z.lb ⟨xk, xi, xs⟩) rfl HS2.out ?c0 hsz (Z.pb (l.take (j + 1))) (pb_take HX.out) ?_)
      case c0 =>
        have h1 := HLE.out
        have h2 := HLB.out
        have h3 := HMM.out
        rw [HL.out] at h1
        omega
      intro v3 w3 hown has
      have hb3 : Below w.heap.size w w3 := HBM.out.trans (has.below hsz (fun k hk => (owns_lt HR2.out hk).1))
      have HB3 := hide hb3
      have HO := hide hown
      clear hb3 hown has
      go_wp2
      go_roundw
      case rel => exact ⟨j + 1, hjl, by go_num, HO, HB3⟩
      case measure => simp [intOf]; omega
    · obtain rfl : j = len := by omega
      have hll : l.take j = l := by rw [← HL.out, List.take_length]
      have HR : Hid (wr.ownsRow w.heap.size 5 1 u7 (Z.pb l).length (B8 (Z.pb l))) := by
        have := hrow.out
        rwa [hll] at this
      clear hll hrow
      go_wp2
      go_ret2
      exact ColBytes.yes HK.out HR.out hbw.out
theorem pbytes_none (ao : Option Addr) (cap : Nat) (kind : Int) (w : World) (h : SlV w ao 0 cap []) (h0 : Z.chk [] kind = 0) :
    Calls Tryz.prog 19 #[.slice ao 0 cap, .int .i64 kind] w (ColBytes [] kind w) := by
  have HK := hide h0
  have HCK := hide (check_any _ _ _ [] kind w h (by simp))
  clear h h0
  go_enter Tryz.func19, Tryz.ntmps19
  go_wp2_with fail
  refine HCK.out.mono ?_
  rintro e w1 ⟨rfl, hb1⟩
  rw [HK.out]
  replace hb1 := hide hb1
  clear HCK
  go_wp2_with fail
  go_rounds 1
  go_ret2
  exact ColBytes.yes (B := 0) HK.out (World.ownsRow_nil _ _ _ _) hb1.out
theorem pbytes_any (ao : Option Addr) (len cap : Nat) (l : List Z.V) (kind : Int) (w : World) (h : SlV w ao len cap l) (hI : ∀ x ∈ l, Z.I64 x.i) :
    Calls Tryz.prog 19 #[.slice ao len cap, .int .i64 kind] w (ColBytes l kind w) := by
  by_cases h0 : Z.chk l kind = 0
  · rcases h.2.2.2.2 with h5 | ⟨b, off, rfl, hlt, h5⟩
    · subst h5
      obtain rfl : l = [] := List.eq_nil_of_length_eq_zero h.1
      exact pbytes_none ao cap kind w h h0
    · exact pbytes_some b off len cap l kind w h hI h0 hlt h5
  · have HCK := hide (check_any _ _ _ l kind w h hI)
    obtain ⟨E, hE⟩ : ∃ E, Z.chk l kind = E := ⟨_, rfl⟩
    have HE := hide hE
    have hE0 : (E != 0) = true := by rw [← hE]; simpa using h0
    have HE0 := hide (show E ≠ 0 by rw [← hE]; exact h0)
    clear h hI hE h0
    go_enter Tryz.func19, Tryz.ntmps19
    go_wp2_with fail
    refine HCK.out.mono ?_
    rintro e w1 ⟨rfl, hb1⟩
    rw [HE.out]
    replace hb1 := hide hb1
    clear HCK
    go_wp2
    go_ret2
    exact ColBytes.no HE.out HE0.out hb1.out
end Go.Proofs.YtmhfpipeoojacaaGreat
/- The contracts of val's toText, toFloat. -/
namespace Go.Proofs.YtmhfpipeoojacaaGreat
set_option linter.unusedVariables false
open Go.RowKit

theorem vtotext_any (ao : Option Addr) (len cap : Nat) (l : List Nat) (w : World) (h : Sl w .u8 ao len cap (ints l)) (h256 : ∀ x ∈ l, x < 256) (hm : len ≤ 140737488355328) :
    Calls Tryz.prog 116 #[.slice ao len cap] w (OfAns l 3 w) := by
  have hA := At.new w 0 0 ⟨#[]⟩
  have b0 := hide (below_one w (.cells #[.int .i64 0, .int .i64 0, .string ⟨#[]⟩] 45))
  have HT := hide (totext_any ao len cap l 1024 _ (h.below b0.out) h256 hm (by omega) (by omega))
  clear h
  by_cases hg : E.xE 1024 l = 0
  · have HS : Hid (E.yS 1024 l = E.xS l) := by show _ = _; unfold E.yS; rw [if_pos hg]
    have HR : Hid (E.yR 1024 l = E.xR l) := by show _ = _; unfold E.yR; rw [if_pos hg]
    have HE := hide hg
    have HO := hide ((oE_text l).trans hg)
    clear hg
    go_enter Tryz.func116, Tryz.ntmps116
    go_wp2_with fail
    refine HT.out.mono ?_
    rintro e w1 ⟨v1, v2, rfl, ⟨rfl, q2, c2, rfl, hs2⟩, hb⟩
    rw [HE.out, HS.out, HR.out]
    rw [HR.out] at hs2
    replace hA := hA.below hb
    replace b0 := hide (bthen b0.out hb)
    replace hs2 := hide hs2
    obtain ⟨x, hx⟩ : ∃ x, strOfNums (ints (E.xS l)) = x := ⟨_, rfl⟩
    obtain ⟨n2, hn2⟩ : ∃ n2, (E.xR l).length = n2 := ⟨_, rfl⟩
    rw [hx, hn2]
    rw [hn2] at hs2
    have HX := hide hx
    have HN2 := hide hn2
    clear hb hx hn2 HT h256 HS HR HE
    obtain ⟨a1, a2, a3⟩ := hA.cells
    obtain ⟨f1, f2, f3⟩ := hA.thawed
    replace hA := hide hA
    go_wp2
    refine bodyPost_ret (results_val Tryz.results116 _ _ w.heap.size rfl (hA.out.set 3 0 x)) rfl ?_
    exact OfAns.yes HO.out (by rw [oW_text, HX.out]) (oS_text l) HN2.out (hs2.out.putV hA.out 3 0 x) (putV_below 3 0 x b0.out (Nat.le_refl _))
  · have HO := hide (oE_text l)
    obtain ⟨G, hG⟩ : ∃ G : Nat, E.xE 1024 l = G := ⟨_, rfl⟩
    rw [hG] at hg HO
    obtain ⟨e, he⟩ : ∃ e : Int, ((G : Nat) : Int) = e := ⟨_, rfl⟩
    have hg3 : e ≠ 0 := by omega
    have HEE := hide he
    have HG := hide hG
    clear hG he
    go_enter Tryz.func116, Tryz.ntmps116
    go_wp2_with fail
    refine HT.out.mono ?_
    rintro e' w1 ⟨v1, v2, rfl, ⟨rfl, q2, c2, rfl, _⟩, hb⟩
    rw [HG.out, HEE.out]
    replace hA := hA.below hb
    replace b0 := hide (bthen b0.out hb)
    generalize (E.yR 1024 l).length = n2
    generalize strOfNums (ints (E.yS 1024 l)) = x
    clear hb HT h256
    obtain ⟨a1, a2, a3⟩ := hA.cells
    obtain ⟨f1, f2, f3⟩ := hA.thawed
    replace hA := hide hA
    go_wp2
    refine bodyPost_ret (results_val Tryz.results116 _ _ w.heap.size rfl (hA.out.set 0 0 ⟨#[]⟩)) rfl ?_
    have := OfAns.no HO.out hg (putV_below 0 0 ⟨#[]⟩ b0.out (Nat.le_refl _))
    rw [HEE.out] at this
    exact this

theorem oE_short {l : List Nat} (h : l.length < 8) : Z.oE l 2 = 3 := by unfold Z.oE; rw [if_neg (by decide), if_neg (by decide), if_pos rfl, if_pos h]
theorem oE_form {l : List Nat} (h : 8 ≤ l.length) (hk : D.ky (D.bt ((Z.o8 l : Nat) : Int)) ≠ ((Z.o8 l : Nat) : Int)) : Z.oE l 2 = 4 := by unfold Z.oE; rw [if_neg (by decide), if_neg (by decide), if_pos rfl, if_neg (by omega), if_neg hk]
theorem oE_float {l : List Nat} (h : 8 ≤ l.length) (hk : D.ky (D.bt ((Z.o8 l : Nat) : Int)) = ((Z.o8 l : Nat) : Int)) : Z.oE l 2 = 0 := by unfold Z.oE; rw [if_neg (by decide), if_neg (by decide), if_pos rfl, if_neg (by omega), if_pos hk]
theorem oW_float (l : List Nat) : Z.oW l 2 = ⟨2, Z.sg (D.bt ((Z.o8 l : Nat) : Int)), ⟨#[]⟩⟩ := by unfold Z.oW; rw [if_neg (by decide), if_pos rfl]
theorem oS_float (l : List Nat) : Z.oS l 2 = l.drop 8 := by unfold Z.oS; rw [if_neg (by decide), if_pos rfl]

theorem vtofloat_short (ao : Option Addr) (len cap : Nat) (l : List Nat) (w : World) (hl : l.length = len) (h8 : len < 8) :
    Calls Tryz.prog 115 #[.slice ao len cap] w (OfAns l 2 w) := by
  have hA := At.new w 0 0 ⟨#[]⟩
  have b0 := hide (below_one w (.cells #[.int .i64 0, .int .i64 0, .string ⟨#[]⟩] 45))
  have HO : Hid (Z.oE l 2 = 3) := oE_short (by omega)
  clear hl
  obtain ⟨a1, a2, a3⟩ := hA.cells
  obtain ⟨f1, f2, f3⟩ := hA.thawed
  replace hA := hide hA
  go_enter Tryz.func115, Tryz.ntmps115
  go_wp2
  refine bodyPost_ret (results_val Tryz.results115 _ _ w.heap.size rfl hA.out) rfl ?_
  exact OfAns.no HO.out (by decide) b0.out
end Go.Proofs.YtmhfpipeoojacaaGreat
/- The contract of val's toFloat. -/
namespace Go.Proofs.YtmhfpipeoojacaaGreat
set_option linter.unusedVariables false
open Go.RowKit

theorem or_byte {k c : Int} (h0 : 0 ≤ k) (h1 : k < 72057594037927936) (c0 : 0 ≤ c) (c1 : c < 256) : bits .or .u64 (k * 256) c = k * 256 + c := by
  rw [u64_or (k * 256) c (by omega) (by omega) c0 (by omega)]
  obtain ⟨x, rfl⟩ := Int.eq_ofNat_of_zero_le h0
  obtain ⟨y, rfl⟩ := Int.eq_ofNat_of_zero_le c0
  show ((x * 256 ||| y : Nat) : Int) = _
  have e : 256 * x + y = 256 * x ||| y := Nat.two_pow_add_eq_or_of_lt (i := 8) (by omega) x
  rw [Nat.mul_comm x 256, ← e]; omega
set_option maxHeartbeats 2000000 in
theorem vtofloat_key (b off len cap : Nat) (l : List Nat) (w : World) (h : Sl w .u8 (some ⟨b, off, none⟩) len cap (ints l)) (h256 : ∀ x ∈ l, x < 256) (hm : len ≤ 140737488355328) (hb : b < w.heap.size) (h8 : 8 ≤ len)
    (hc : ∀ i, i < len → w.cell? ⟨b, off + i, none⟩ = some (.int .u8 ((ints l).getD i 0))) :
    Calls Tryz.prog 115 #[.slice (some ⟨b, off, none⟩) len cap] w (OfAns l 2 w) := by
  have hl : l.length = len := by rw [← h.1, ints_length]
  have hcap := h.2.1
  have hmax := h.2.2.1
  have hA := At.new w 0 0 ⟨#[]⟩
  have b0 := hide (below_one w (.cells #[.int .i64 0, .int .i64 0, .string ⟨#[]⟩] 45))
  have hK := Z.o8_lt h256
  have hd : ∀ i, i < 8 → (w.alloc (.cells #[.int .i64 0, .int .i64 0, .string ⟨#[]⟩] 45)).cell? ⟨b, off + i, none⟩ = some (.int .u8 ((l.getD i 0 : Nat) : Int)) := fun i hi => by
    rw [b0.out.cell (p := ⟨b, off + i, none⟩) hb, hc i (by omega), ints_getD]
  have d0 := hd 0 (by omega); have d1 := hd 1 (by omega); have d2 := hd 2 (by omega); have d3 := hd 3 (by omega)
  have d4 := hd 4 (by omega); have d5 := hd 5 (by omega); have d6 := hd 6 (by omega); have d7 := hd 7 (by omega)
  have e0 := E.getD_lt h256 0; have e1 := E.getD_lt h256 1; have e2 := E.getD_lt h256 2; have e3 := E.getD_lt h256 3
  have e4 := E.getD_lt h256 4; have e5 := E.getD_lt h256 5; have e6 := E.getD_lt h256 6; have e7 := E.getD_lt h256 7
  have hO : Z.o8 l = (((((((l.getD 0 0 * 256 + l.getD 1 0) * 256 + l.getD 2 0) * 256 + l.getD 3 0) * 256 + l.getD 4 0) * 256 + l.getD 5 0) * 256 + l.getD 6 0) * 256 + l.getD 7 0) := rfl
  simp only [Nat.add_zero] at d0
  obtain ⟨x0, h0⟩ : ∃ x : Int, ((l.getD 0 0 : Nat) : Int) = x := ⟨_, rfl⟩
  obtain ⟨x1, h1⟩ : ∃ x : Int, ((l.getD 1 0 : Nat) : Int) = x := ⟨_, rfl⟩
  obtain ⟨x2, h2⟩ : ∃ x : Int, ((l.getD 2 0 : Nat) : Int) = x := ⟨_, rfl⟩
  obtain ⟨x3, h3⟩ : ∃ x : Int, ((l.getD 3 0 : Nat) : Int) = x := ⟨_, rfl⟩
  obtain ⟨x4, h4⟩ : ∃ x : Int, ((l.getD 4 0 : Nat) : Int) = x := ⟨_, rfl⟩
  obtain ⟨x5, h5⟩ : ∃ x : Int, ((l.getD 5 0 : Nat) : Int) = x := ⟨_, rfl⟩
  obtain ⟨x6, h6⟩ : ∃ x : Int, ((l.getD 6 0 : Nat) : Int) = x := ⟨_, rfl⟩
  obtain ⟨x7, h7⟩ : ∃ x : Int, ((l.getD 7 0 : Nat) : Int) = x := ⟨_, rfl⟩
  rw [h0] at d0; rw [h1] at d1; rw [h2] at d2; rw [h3] at d3; rw [h4] at d4; rw [h5] at d5; rw [h6] at d6; rw [h7] at d7
  obtain ⟨K, hKe⟩ : ∃ K : Int, ((Z.o8 l : Nat) : Int) = K := ⟨_, rfl⟩
  have k1 : bits .or .u64 0 x0 = x0 := by have := or_byte (k := 0) (c := x0) (by omega) (by omega) (by omega) (by omega); simpa using this
  obtain ⟨y1, r1⟩ : ∃ y, x0 * 256 + x1 = y := ⟨_, rfl⟩
  have k2 : bits .or .u64 (x0 * 256) x1 = y1 := by rw [← r1]; exact or_byte (by omega) (by omega) (by omega) (by omega)
  obtain ⟨y2, r2⟩ : ∃ y, y1 * 256 + x2 = y := ⟨_, rfl⟩
  have k3 : bits .or .u64 (y1 * 256) x2 = y2 := by rw [← r2]; exact or_byte (by omega) (by omega) (by omega) (by omega)
  obtain ⟨y3, r3⟩ : ∃ y, y2 * 256 + x3 = y := ⟨_, rfl⟩
  have k4 : bits .or .u64 (y2 * 256) x3 = y3 := by rw [← r3]; exact or_byte (by omega) (by omega) (by omega) (by omega)
  obtain ⟨y4, r4⟩ : ∃ y, y3 * 256 + x4 = y := ⟨_, rfl⟩
  have k5 : bits .or .u64 (y3 * 256) x4 = y4 := by rw [← r4]; exact or_byte (by omega) (by omega) (by omega) (by omega)
  obtain ⟨y5, r5⟩ : ∃ y, y4 * 256 + x5 = y := ⟨_, rfl⟩
  have k6 : bits .or .u64 (y4 * 256) x5 = y5 := by rw [← r5]; exact or_byte (by omega) (by omega) (by omega) (by omega)
  obtain ⟨y6, r6⟩ : ∃ y, y5 * 256 + x6 = y := ⟨_, rfl⟩
  have k7 : bits .or .u64 (y5 * 256) x6 = y6 := by rw [← r6]; exact or_byte (by omega) (by omega) (by omega) (by omega)
  have k8 : bits .or .u64 (y6 * 256) x7 = K := by rw [or_byte (by omega) (by omega) (by omega) (by omega)]; omega
  have b1 : 0 ≤ x0 ∧ x0 < 256 := by omega
  have b2 : 0 ≤ y1 ∧ y1 < 65536 := by omega
  have b3 : 0 ≤ y2 ∧ y2 < 16777216 := by omega
  have b4 : 0 ≤ y3 ∧ y3 < 4294967296 := by omega
  have b5 : 0 ≤ y4 ∧ y4 < 1099511627776 := by omega
  have b6 : 0 ≤ y5 ∧ y5 < 281474976710656 := by omega
  have b7 : 0 ≤ y6 ∧ y6 < 72057594037927936 := by omega
  have b8 : 0 ≤ K ∧ K < 18446744073709551616 := by omega
  have q1 : 0 ≤ x1 ∧ x1 < 256 := by omega
  have q2 : 0 ≤ x2 ∧ x2 < 256 := by omega
  have q3 : 0 ≤ x3 ∧ x3 < 256 := by omega
  have q4 : 0 ≤ x4 ∧ x4 < 256 := by omega
  have q5 : 0 ≤ x5 ∧ x5 < 256 := by omega
  have q6 : 0 ≤ x6 ∧ x6 < 256 := by omega
  have q7 : 0 ≤ x7 ∧ x7 < 256 := by omega
  clear hd e0 e1 e2 e3 e4 e5 e6 e7 hO h0 h1 h2 h3 h4 h5 h6 h7 r1 r2 r3 r4 r5 r6 hK hc
  have HKE := hide hKe
  have HL := hide hl
  have HS := hide h
  have H2 := hide h256
  clear hKe hl h h256
  go_enter Tryz.func115, Tryz.ntmps115
  go_wp2_with fail
  refine wp_loop_rounds 9 ?_
  rw [rounds_succ]
  go_wp2_with fail
  rw [rounds_succ]
  go_wp2_with fail
  rw [rounds_succ]
  go_wp2_with fail
  rw [rounds_succ]
  go_wp2_with fail
  rw [rounds_succ]
  go_wp2_with fail
  rw [rounds_succ]
  go_wp2_with fail
  rw [rounds_succ]
  go_wp2_with fail
  rw [rounds_succ]
  go_wp2_with fail
  rw [rounds_succ]
  go_wp2_with fail
  refine (bits_any K _ b8.1 b8.2).mono ?_
  rintro e w1 ⟨rfl, rfl⟩
  have hB := D.bt_in (k := K) b8
  obtain ⟨T, hT⟩ : ∃ T, D.bt K = T := ⟨_, rfl⟩
  rw [hT] at hB ⊢
  have HT := hide hT
  clear hT d0 d1 d2 d3 d4 d5 d6 d7 k1 k2 k3 k4 k5 k6 k7 k8 b1 b2 b3 b4 b5 b6 b7 q1 q2 q3 q4 q5 q6 q7
  go_wp2_with fail
  refine (key_any T _ hB.1 hB.2).mono ?_
  rintro e w1 ⟨rfl, rfl⟩
  obtain ⟨a1, a2, a3⟩ := hA.cells
  obtain ⟨f1, f2, f3⟩ := hA.thawed
  replace hA := hide hA
  by_cases hk : D.ky T = K
  · rw [hk]
    have HO : Hid (Z.oE l 2 = 0) := oE_float (by have := HL.out; omega) (by rw [HKE.out, HT.out]; exact hk)
    have HW : Hid (wrap64 T = Z.sg T) := wrap64_sg hB
    clear hk
    have HB := hide (HS.out.below b0.out)
    by_cases hc8 : cap = 8
    · obtain rfl : len = 8 := by omega
      subst hc8
      have HV : Hid (Sl (w.alloc (.cells #[.int .i64 0, .int .i64 0, .string ⟨#[]⟩] 45)) .u8 (some ⟨b, off, none⟩) 0 0 (ints (l.drop 8))) := by
        show Sl _ _ _ _ _ _
        rw [ints_drop]; exact HB.out.tail 8 0 (by omega) (by omega) (by omega) _ (fun h => by omega)
      go_wp2_with fail
      refine (clone_any _ _ _ (l.drop 8) _ HV.out (by omega)).mono ?_
      rintro e w2 ⟨qa, qc, rfl, hs2, hb2⟩
      replace hA := hA.out.below hb2
      replace b0 := hide (bthen b0.out hb2)
      have hs3 := hide hs2
      clear hb2 hs2 a1 a2 a3 f1 f2 f3 HV
      obtain ⟨a1, a2, a3⟩ := hA.cells
      obtain ⟨f1, f2, f3⟩ := hA.thawed
      replace hA := hide hA
      go_wp2
      refine bodyPost_ret (results_val Tryz.results115 _ _ w.heap.size rfl (hA.out.set 2 (wrap64 T) ⟨#[]⟩)) rfl ?_
      exact OfAns.yes HO.out (by rw [oW_float, HKE.out, HT.out, HW.out]) (oS_float l) (by simp [HL.out]) (hs3.out.putV hA.out 2 (wrap64 T) ⟨#[]⟩) (putV_below 2 (wrap64 T) ⟨#[]⟩ b0.out (Nat.le_refl _))
    · have HV : Hid (Sl (w.alloc (.cells #[.int .i64 0, .int .i64 0, .string ⟨#[]⟩] 45)) .u8 (some ⟨b, off + 8, none⟩) (len - 8) (cap - 8) (ints (l.drop 8))) := by
        show Sl _ _ _ _ _ _
        rw [ints_drop]; exact HB.out.tail 8 (cap - 8) (by omega) (by omega) (by omega) _ (fun h => by rw [Addr.add_lit])
      go_wp2_with fail
      refine (clone_any _ _ _ (l.drop 8) _ HV.out (by omega)).mono ?_
      rintro e w2 ⟨qa, qc, rfl, hs2, hb2⟩
      replace hA := hA.out.below hb2
      replace b0 := hide (bthen b0.out hb2)
      have hs3 := hide hs2
      clear hb2 hs2 a1 a2 a3 f1 f2 f3 HV
      obtain ⟨a1, a2, a3⟩ := hA.cells
      obtain ⟨f1, f2, f3⟩ := hA.thawed
      replace hA := hide hA
      go_wp2
      refine bodyPost_ret (results_val Tryz.results115 _ _ w.heap.size rfl (hA.out.set 2 (wrap64 T) ⟨#[]⟩)) rfl ?_
      exact OfAns.yes HO.out (by rw [oW_float, HKE.out, HT.out, HW.out]) (oS_float l) (by simp [HL.out]) (hs3.out.putV hA.out 2 (wrap64 T) ⟨#[]⟩) (putV_below 2 (wrap64 T) ⟨#[]⟩ b0.out (Nat.le_refl _))
  · have HO : Hid (Z.oE l 2 = 4) := oE_form (by have := HL.out; omega) (by rw [HKE.out, HT.out]; exact hk)
    obtain ⟨Y, hY⟩ : ∃ Y, D.ky T = Y := ⟨_, rfl⟩
    rw [hY] at hk ⊢
    clear hY
    go_wp2
    refine bodyPost_ret (results_val Tryz.results115 _ _ w.heap.size rfl hA.out) rfl ?_
    exact OfAns.no HO.out (by decide) b0.out
theorem vtofloat_any (ao : Option Addr) (len cap : Nat) (l : List Nat) (w : World) (h : Sl w .u8 ao len cap (ints l)) (h256 : ∀ x ∈ l, x < 256) (hm : len ≤ 140737488355328) :
    Calls Tryz.prog 115 #[.slice ao len cap] w (OfAns l 2 w) := by
  have hl : l.length = len := by rw [← h.1, ints_length]
  by_cases h8 : len < 8
  · exact vtofloat_short ao len cap l w hl h8
  · rcases h.2.2.2.2 with h5 | ⟨b, off, rfl, hlt, h5⟩
    · omega
    · exact vtofloat_key b off len cap l w h h256 hm hlt (by omega) h5
end Go.Proofs.YtmhfpipeoojacaaGreat

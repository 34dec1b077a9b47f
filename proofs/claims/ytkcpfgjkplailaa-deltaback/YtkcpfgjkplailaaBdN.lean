/- delta.Steps, and the document's: what each number is more than the one ahead. Conditions: fewer than 2^40 values, whose parts are machine numbers. -/
import Derived.Test.YtkcpfgjkplailaaBdI
import Derived.Test.YtkcpfgjkplailaaBdD
import Derived.Test.YtkcpfgjkplailaaBdM
namespace Go.Proofs.Ytkcpfgjkplailaa
set_option linter.unusedVariables false
set_option maxRecDepth 10000
open Go.RowKit
/-- One of a row of values; one of a row of numbers. -/
theorem SlV.here {w : World} {ao : Option Addr} {len cap : Nat} {l : List Z.V} (h : SlV w ao len cap l) {j : Nat} (hj : j < len) : ∃ b off k i s, ao = some ⟨b, off, none⟩ ∧ b < w.heap.size ∧ l[j]? = some ⟨k, i, s⟩ ∧
    w.cell? ⟨b, off + j * 3, none⟩ = some (.int .i64 k) ∧ w.cell? ⟨b, off + j * 3 + 1, none⟩ = some (.int .i64 i) ∧ w.cell? ⟨b, off + j * 3 + 2, none⟩ = some (.string s) := by
  obtain ⟨h1, h2, h3, h4, h5⟩ := h
  rcases h5 with h5 | ⟨b, off, rfl, hlt, h5⟩
  · omega
  · obtain ⟨⟨k, i, s⟩, hx⟩ : ∃ x, l[j]? = some x := ⟨l[j]'(by omega), List.getElem?_eq_getElem _⟩
    obtain ⟨c1, c2, c3⟩ := h5 j _ hx
    exact ⟨b, off, k, i, s, rfl, hlt, hx, c1, c2, c3⟩
theorem Sl.here {w : World} {k : IntKind} {ao : Option Addr} {len cap : Nat} {l : List Int} (h : Sl w k ao len cap l) {j : Nat} (hj : j < len) : ∃ b off, ao = some ⟨b, off, none⟩ ∧ b < w.heap.size ∧ w.cell? ⟨b, off + j, none⟩ = some (.int k (l.getD j 0)) := by
  obtain ⟨h1, h2, h3, h4, h5⟩ := h
  rcases h5 with h5 | ⟨b, off, rfl, hlt, h5⟩
  · omega
  · exact ⟨b, off, rfl, hlt, h5 j hj⟩
theorem Try.infoW64 : (Try.prog.info? 48).map (fun i => (i.zero, i.size, i.bytes)) = some (some (.int .u64 0), 1, 8) := by kernel_rfl
/-- Numbers of 64 bits of one's own. -/
def OwnU (w : World) (B : Nat) (v : Value) (l : List Nat) : Prop := w.ownsRow B 48 1 v l.length ((ints l).map (Value.int .u64))
theorem OwnU.none (w : World) (B : Nat) : OwnU w B (.slice none 0 0) [] := World.ownsRow_nil _ _ _ _
theorem OwnU.below {w w' : World} {B : Nat} {v : Value} {l : List Nat} (h : OwnU w B v l) (hb : Below w.heap.size w w') : OwnU w' B v l := owns_below h hb
theorem OwnU.sl {w : World} {B : Nat} {v : Value} {l : List Nat} (h : OwnU w B v l) : ∃ a c, v = .slice a l.length c ∧ Sl w .u64 a l.length c (ints l) := by
  obtain ⟨a, c, h1, h2, _⟩ := Sl.of_owns (l := ints l) (k := .u64) (by rw [ints_length]; exact h)
  rw [ints_length] at h1 h2
  exact ⟨a, c, h1, h2⟩
theorem wpList_appU {w : World} {ops : Array Oper} {rest : List Oper} {o : Oper} {a : Act} {Q : Exit → Act → World → Prop} (hgd : o.guard = none) (s x : Operand)
    (ho : o.op = .call { callee := .builtin .append, args := #[s, x], argTypes := #[36, 36] })
    (base : Nat) (v : Value) (l : List Nat) (hs : a.eval s = v) (hown : OwnU w base v l) (ao : Option Addr) (m c : Nat) (news : List Nat) (hx : a.eval x = .slice ao m c) (hsl : Sl w .u64 ao m c (ints news)) (hlim : l.length + m ≤ 17592186044000) (hbase : base ≤ w.heap.size)
    (r : List Nat) (hr : l ++ news = r) (h : ∀ v' w', OwnU w' base v' r → Below base w w' → wpList Try.prog ops Q rest (a.put o.dst v') w') : wpList Try.prog ops Q (o :: rest) a w := by
  obtain ⟨i0, hi, hz0, hz1, hz2⟩ := info_parts Try.infoW64
  have hm : news.length = m := by rw [← hsl.1, ints_length]
  refine wpList_append_to hgd s x 36 ho base 48 i0 (.int .u64 0) 1 8 Try.underlying36 hi hz0 hz1 hz2 rfl (by decide) v l.length _ hs hown ao m c ((ints news).map (Value.int .u64)) hx ?_ (by simp [ints_length, hm]) hsl.news ?_ (by unfold maxLen; omega) (by omega) hbase ?_
  · intro e
    have h4 := hsl.2.2.2.1 e
    have h2 := hsl.2.1
    exact ⟨by omega, h4⟩
  · intro u hu
    obtain ⟨y, _, rfl⟩ := List.mem_map.1 hu
    rfl
  · intro v' w' ho' has'
    refine h v' w' ?_ (has'.below hbase (fun k hk => (owns_lt hown hk).1))
    subst hr
    show World.ownsRow _ _ _ _ _ _ _
    unfold ints at *
    rw [List.length_append, hm, List.map_append, List.map_append]
    exact ho'
def StepsAns (l : List Z.V) (w : World) (e : Ending) (w' : World) : Prop := ∃ a c, e = .returned (.slice a (Z.dst l).length c) ∧ Sl w' .u64 a (Z.dst l).length c (ints (Z.dst l)) ∧ Below w.heap.size w w'
/-- The steps of so many values. -/
def Z.dk (l : List Z.V) (j : Nat) : List Nat := Z.dst (l.take (j + 1))
theorem dk_zero (l : List Z.V) : Z.dk l 0 = [] := by
  unfold Z.dk
  cases l <;> rfl
theorem dk_next {l : List Z.V} {j : Nat} {x y : Z.V} (hx : l[j]? = some x) (hy : l[j + 1]? = some y) : Z.dk l j ++ [E.zig (wrap64 (y.i - x.i))] = Z.dk l (j + 1) := (dst_step hx hy).symm
theorem dk_length {l : List Z.V} {j : Nat} (h : j < l.length) : (Z.dk l j).length = j := by unfold Z.dk; rw [dst_length, List.length_take]; omega
theorem dk_all {l : List Z.V} {j : Nat} (h : l.length ≤ j + 1) : Z.dk l j = Z.dst l := by unfold Z.dk; rw [List.take_of_length_le h]
def stepsTbl (b off len cap j k : Nat) (x y d : Int) (z : Nat) (u3 : Value) : List (Nat × V.Ent) :=
  [(3, V.Ent.is (u3)),
    (0, V.Ent.is (.slice (some ⟨b, off, none⟩) len cap)),
    (4, V.Ent.is (.int .i64 (k : Int))),
    (11, V.Ent.is (u3)),
    (12, V.Ent.is (.slice (some ⟨b, off, none⟩) len cap)),
    (13, V.Ent.is (.int .i64 (k : Int))),
    (14, V.Ent.is (.pointer (some ⟨b, off + k * 3, none⟩))),
    (15, V.Ent.is (.pointer (some ⟨b, off + k * 3 + 1, none⟩))),
    (16, V.Ent.is (.int .i64 y)),
    (17, V.Ent.is (.slice (some ⟨b, off, none⟩) len cap)),
    (18, V.Ent.is (.int .i64 (k : Int))),
    (19, V.Ent.is (.int .i64 (j : Int))),
    (20, V.Ent.is (.pointer (some ⟨b, off + j * 3, none⟩))),
    (21, V.Ent.is (.pointer (some ⟨b, off + j * 3 + 1, none⟩))),
    (22, V.Ent.is (.int .i64 x)),
    (23, V.Ent.is (.int .i64 d)),
    (24, V.Ent.is (.int .u64 (z : Int))),
    (25, V.Ent.slU 1 [z])]
set_option maxHeartbeats 1000000 in
theorem steps_any (ao : Option Addr) (len cap : Nat) (l : List Z.V) (w : World) (h : SlV w ao len cap l) (hI : ∀ x ∈ l, Z.I64 x.i) (hm : len ≤ 1099511627776) :
    Calls Try.prog 15 #[.slice ao len cap] w (StepsAns l w) := by
  have HS := hide h
  have HL := hide h.1
  have HI := hide hI
  clear h hI
  go_enter Try.func15, Try.ntmps15
  go_wp2_with fail
  go_loopw [3, 4] (fun v i wr => ∃ j k : Nat, k = j + 1 ∧ (k ≤ len ∨ j = 0) ∧ i = .int .i64 (k : Int) ∧ Hid (OwnU wr w.heap.size v (Z.dk l j)) ∧ Hid (Below w.heap.size w wr)) (fun _ i _ => len + 1 - (intOf i).toNat)
  case atStart => exact ⟨0, 1, rfl, .inr rfl, rfl, by rw [dk_zero]; exact OwnU.none _ _, hide (Below.refl _ _)⟩
  case round =>
    obtain ⟨j, k, hk, hj, rfl, hrow, hbw⟩ := hrel
    by_cases hjl : k < len
    · obtain ⟨b, off, xk, x, xs, rfl, hlt0, hx, c1, c2, c3⟩ := HS.out.here (j := j) (by omega)
      obtain ⟨b', off', yk, y, ys, hbb, _, hy, k1, k2, k3⟩ := HS.out.here hjl
      injection hbb with hbb
      injection hbb with hb1 hb2 _
      subst hb1 hb2
      have d2 : wr.cell? ⟨b, off + j * 3 + 1, none⟩ = some (.int .i64 x) := by rw [hbw.out.cell (p := ⟨b, off + j * 3 + 1, none⟩) hlt0]; exact c2
      have e2 : wr.cell? ⟨b, off + k * 3 + 1, none⟩ = some (.int .i64 y) := by rw [hbw.out.cell (p := ⟨b, off + k * 3 + 1, none⟩) hlt0]; exact k2
      have hlt : b < wr.heap.size := Nat.lt_of_lt_of_le hlt0 hbw.out.size
      have hn := dk_next hx (by rw [← hk]; exact hy)
      have hdl := dk_length (l := l) (j := j) (by rw [HL.out]; omega)
      have hw := (wrap64_is (y - x)).1
      obtain ⟨d, hd⟩ : ∃ d, wrap64 (y - x) = d := ⟨_, rfl⟩
      have hnd : Z.dk l j ++ [E.zig d] = Z.dk l (j + 1) := by rw [← hd]; exact hn
      rw [hd] at hw
      obtain ⟨z, hz⟩ : ∃ z : Nat, E.zig d = z := ⟨_, rfl⟩
      rw [hz] at hnd
      have HN := hide hnd
      have HDL := hide hdl
      have HW := hide hw
      have HZ := hide hz
      have HD := hide hd
      have HK := hide hk
      have HR := hide hrow.out
      have hkj : (k : Int) - 1 = (j : Int) := by omega
      have hdl2 : (Z.dk l j).length ≤ 17592186044000 := by rw [HDL.out]; omega
      have hsz := hbw.out.size
      have HDL2 := hide hdl2
      clear c1 c2 c3 k1 k2 k3 hx hy hn hnd hdl hw hd hz hrow hdl2 hk
      go_wp2_with fail
      refine V.wp_region_tail (w0 := wr) 15 [11, 12, 13, 14, 15, 16, 17, 18, 19, 20, 21, 22, 23, 24, 25] [3, 0, 4] (stepsTbl b off len cap j k x y d z u3) (by decide) rfl (by kernel_rfl) (by kernel_rfl) (by kernel_rfl) (Below.refl _ _) ?hb ?hs ?hd
      case hb =>
        intro d hd
        simp only [List.mem_cons, List.not_mem_nil, or_false] at hd
        rcases hd with rfl | rfl | rfl <;> rfl
      case hs =>
        refine ⟨?_, ?_, ?_, ?_, ?_, ?_, ?_, ?_, ?_, ?_, ?_, ?_, ?_, ?_, ?_, trivial⟩
        · exact V.Step.move (.inl rfl) (.inl rfl) (.inl ⟨_, rfl⟩) (fun _ h => by cases h; rfl)
        · exact V.Step.move (.inl rfl) (.inl rfl) (.inl ⟨_, rfl⟩) (fun _ h => by cases h; rfl)
        · exact V.Step.move (.inl rfl) (.inl rfl) (.inl ⟨_, rfl⟩) (fun _ h => by cases h; rfl)
        · exact V.Step.idxV (i := (k : Int)) (.inl rfl) rfl rfl (.inl ⟨_, rfl⟩) rfl (by omega) (by omega) rfl (fun _ h => by cases h; rfl)
        · exact V.Step.fieldP (.inl rfl) rfl rfl (by omega) (fun _ h => by cases h; rfl)
        · exact V.Step.loadI (.inl rfl) rfl rfl Try.underlying2 hlt e2 (fun _ h => by cases h; rfl)
        · exact V.Step.move (.inl rfl) (.inl rfl) (.inl ⟨_, rfl⟩) (fun _ h => by cases h; rfl)
        · exact V.Step.move (.inl rfl) (.inl rfl) (.inl ⟨_, rfl⟩) (fun _ h => by cases h; rfl)
        · exact V.Step.bin (v1 := .int .i64 (k : Int)) (v2 := .int .i64 1) (v := .int .i64 (j : Int)) (.inl rfl) rfl (.inl ⟨_, rfl⟩) (.inr ⟨_, rfl⟩) rfl rfl (fun w => ⟨rfl, V.sub_of (by rw [V.wrap_in ⟨by omega, by omega⟩]; omega) w⟩) (fun _ h => by cases h; rfl)
        · exact V.Step.idxV (i := (j : Int)) (.inl rfl) rfl rfl (.inl ⟨_, rfl⟩) rfl (by omega) (by omega) rfl (fun _ h => by cases h; rfl)
        · exact V.Step.fieldP (.inl rfl) rfl rfl (by omega) (fun _ h => by cases h; rfl)
        · exact V.Step.loadI (.inl rfl) rfl rfl Try.underlying2 hlt d2 (fun _ h => by cases h; rfl)
        · exact V.Step.bin (v1 := .int .i64 y) (v2 := .int .i64 x) (v := .int .i64 d) (.inl rfl) rfl (.inl ⟨_, rfl⟩) (.inl ⟨_, rfl⟩) rfl rfl (fun w => ⟨rfl, V.sub_of HD.out w⟩) (fun _ h => by cases h; rfl)
        · exact V.Step.call1 (.inl rfl) rfl rfl Try.func25 (by decide +kernel) rfl (fun w1 hw1 => (zig_any d w1 HW.out.1 HW.out.2).mono (by rintro e w9 ⟨rfl, rfl⟩; exact ⟨_, rfl, Below.refl _ _, fun d h => by cases h; exact congrArg (fun z : Nat => Value.int .u64 (z : Int)) HZ.out⟩)) 
        · exact V.Step.oneU (.inl rfl) rfl rfl (fun _ h => by cases h; rfl)
      case hd =>
      intro vs wa hwa hkk
      have v11 : vs 11 = u3 := hkk 0 _ 11 rfl rfl
      obtain ⟨a25, c25, v25, s25⟩ := hkk 14 _ 25 rfl rfl
      obtain ⟨x12, hx12⟩ : ∃ u, vs 12 = u := ⟨_, rfl⟩
      obtain ⟨x13, hx13⟩ : ∃ u, vs 13 = u := ⟨_, rfl⟩
      obtain ⟨x14, hx14⟩ : ∃ u, vs 14 = u := ⟨_, rfl⟩
      obtain ⟨x15, hx15⟩ : ∃ u, vs 15 = u := ⟨_, rfl⟩
      obtain ⟨x16, hx16⟩ : ∃ u, vs 16 = u := ⟨_, rfl⟩
      obtain ⟨x17, hx17⟩ : ∃ u, vs 17 = u := ⟨_, rfl⟩
      obtain ⟨x18, hx18⟩ : ∃ u, vs 18 = u := ⟨_, rfl⟩
      obtain ⟨x19, hx19⟩ : ∃ u, vs 19 = u := ⟨_, rfl⟩
      obtain ⟨x20, hx20⟩ : ∃ u, vs 20 = u := ⟨_, rfl⟩
      obtain ⟨x21, hx21⟩ : ∃ u, vs 21 = u := ⟨_, rfl⟩
      obtain ⟨x22, hx22⟩ : ∃ u, vs 22 = u := ⟨_, rfl⟩
      obtain ⟨x23, hx23⟩ : ∃ u, vs 23 = u := ⟨_, rfl⟩
      obtain ⟨x24, hx24⟩ : ∃ u, vs 24 = u := ⟨_, rfl⟩
      simp only [V.puts, List.foldl_cons, List.foldl_nil, v11, v25, hx12, hx13, hx14, hx15, hx16, hx17, hx18, hx19, hx20, hx21, hx22, hx23, hx24, Act.put, List.setIfInBounds_toArray, List.set_cons_zero, List.set_cons_succ]
      have HBA := hide (bthen hbw.out hwa)
      have HRA := hide (HR.out.below hwa)
      have S25 := hide s25
      have hsza := HBA.out.size
      clear hkk hwa s25 v11 v25 hx12 hx13 hx14 hx15 hx16 hx17 hx18 hx19 hx20 hx21 hx22 hx23 hx24
      simp only [List.drop]
      go_wp2_with (at_builtin; refine wpList_appU rfl (.tmp 11) (.tmp 25) rfl w.heap.size u3 (Z.dk l j) rfl HRA.out a25 1 c25 [z] rfl S25.out (by rw [HDL.out]; omega) hsza (Z.dk l (j + 1)) HN.out ?_)
      intro v' w' ho' hb'
      have HO := hide ho'
      have HB := hide (HBA.out.trans hb')
      clear ho' hb'
      go_wp2
      go_roundw
      case rel => exact ⟨j + 1, k + 1, by have := HK.out; omega, .inl (by omega), by go_num, HO, HB⟩
      case measure => simp [intOf]; omega
    · have hz : Z.dk l j = Z.dst l := dk_all (by rw [HL.out]; omega)
      have hrow1 := hrow.out
      rw [hz] at hrow1
      obtain ⟨a, c, hv, hs⟩ := hrow1.sl
      have FIN : Hid (StepsAns l w (.returned u3) wr) := ⟨a, c, by rw [hv], hs, hbw.out⟩
      clear hz hrow1 hv hs hrow
      go_wp2
      go_ret
      exact FIN.out
set_option maxHeartbeats 1000000 in
theorem rsteps_any (ao : Option Addr) (len cap : Nat) (l : List Z.V) (w : World) (h : SlV w ao len cap l) (hI : ∀ x ∈ l, Z.I64 x.i) (hm : len ≤ 1099511627776) :
    Calls Try.prog 16 #[.slice ao len cap] w (StepsAns l w) := by
  have HS := hide h
  have HL := hide h.1
  have HI := hide hI
  clear h hI
  go_enter Try.func16, Try.ntmps16
  go_wp2_with fail
  go_loopw [3, 4] (fun v i wr => ∃ j k : Nat, k = j + 1 ∧ (k ≤ len ∨ j = 0) ∧ i = .int .i64 (k : Int) ∧ Hid (OwnU wr w.heap.size v (Z.dk l j)) ∧ Hid (Below w.heap.size w wr)) (fun _ i _ => len + 1 - (intOf i).toNat)
  case atStart => exact ⟨0, 1, rfl, .inr rfl, rfl, by rw [dk_zero]; exact OwnU.none _ _, hide (Below.refl _ _)⟩
  case round =>
    obtain ⟨j, k, hk, hj, rfl, hrow, hbw⟩ := hrel
    by_cases hjl : k < len
    · obtain ⟨b, off, xk, x, xs, rfl, hlt0, hx, c1, c2, c3⟩ := HS.out.here (j := j) (by omega)
      obtain ⟨b', off', yk, y, ys, hbb, _, hy, k1, k2, k3⟩ := HS.out.here hjl
      injection hbb with hbb
      injection hbb with hb1 hb2 _
      subst hb1 hb2
      have d2 : wr.cell? ⟨b, off + j * 3 + 1, none⟩ = some (.int .i64 x) := by rw [hbw.out.cell (p := ⟨b, off + j * 3 + 1, none⟩) hlt0]; exact c2
      have e2 : wr.cell? ⟨b, off + k * 3 + 1, none⟩ = some (.int .i64 y) := by rw [hbw.out.cell (p := ⟨b, off + k * 3 + 1, none⟩) hlt0]; exact k2
      have hlt : b < wr.heap.size := Nat.lt_of_lt_of_le hlt0 hbw.out.size
      have hn := dk_next hx (by rw [← hk]; exact hy)
      have hdl := dk_length (l := l) (j := j) (by rw [HL.out]; omega)
      have hw := (wrap64_is (y - x)).1
      obtain ⟨d, hd⟩ : ∃ d, wrap64 (y - x) = d := ⟨_, rfl⟩
      have hnd : Z.dk l j ++ [E.zig d] = Z.dk l (j + 1) := by rw [← hd]; exact hn
      rw [hd] at hw
      obtain ⟨z, hz⟩ : ∃ z : Nat, E.zig d = z := ⟨_, rfl⟩
      rw [hz] at hnd
      have HN := hide hnd
      have HDL := hide hdl
      have HW := hide hw
      have HZ := hide hz
      have HD := hide hd
      have HK := hide hk
      have HR := hide hrow.out
      have hkj : (k : Int) - 1 = (j : Int) := by omega
      have hdl2 : (Z.dk l j).length ≤ 17592186044000 := by rw [HDL.out]; omega
      have hsz := hbw.out.size
      have HDL2 := hide hdl2
      clear c1 c2 c3 k1 k2 k3 hx hy hn hnd hdl hw hd hz hrow hdl2 hk
      go_wp2_with fail
      refine V.wp_region_tail (w0 := wr) 15 [11, 12, 13, 14, 15, 16, 17, 18, 19, 20, 21, 22, 23, 24, 25] [3, 0, 4] (stepsTbl b off len cap j k x y d z u3) (by decide) rfl (by kernel_rfl) (by kernel_rfl) (by kernel_rfl) (Below.refl _ _) ?hb ?hs ?hd
      case hb =>
        intro d hd
        simp only [List.mem_cons, List.not_mem_nil, or_false] at hd
        rcases hd with rfl | rfl | rfl <;> rfl
      case hs =>
        refine ⟨?_, ?_, ?_, ?_, ?_, ?_, ?_, ?_, ?_, ?_, ?_, ?_, ?_, ?_, ?_, trivial⟩
        · exact V.Step.move (.inl rfl) (.inl rfl) (.inl ⟨_, rfl⟩) (fun _ h => by cases h; rfl)
        · exact V.Step.move (.inl rfl) (.inl rfl) (.inl ⟨_, rfl⟩) (fun _ h => by cases h; rfl)
        · exact V.Step.move (.inl rfl) (.inl rfl) (.inl ⟨_, rfl⟩) (fun _ h => by cases h; rfl)
        · exact V.Step.idxV (i := (k : Int)) (.inl rfl) rfl rfl (.inl ⟨_, rfl⟩) rfl (by omega) (by omega) rfl (fun _ h => by cases h; rfl)
        · exact V.Step.fieldP (.inl rfl) rfl rfl (by omega) (fun _ h => by cases h; rfl)
        · exact V.Step.loadI (.inl rfl) rfl rfl Try.underlying2 hlt e2 (fun _ h => by cases h; rfl)
        · exact V.Step.move (.inl rfl) (.inl rfl) (.inl ⟨_, rfl⟩) (fun _ h => by cases h; rfl)
        · exact V.Step.move (.inl rfl) (.inl rfl) (.inl ⟨_, rfl⟩) (fun _ h => by cases h; rfl)
        · exact V.Step.bin (v1 := .int .i64 (k : Int)) (v2 := .int .i64 1) (v := .int .i64 (j : Int)) (.inl rfl) rfl (.inl ⟨_, rfl⟩) (.inr ⟨_, rfl⟩) rfl rfl (fun w => ⟨rfl, V.sub_of (by rw [V.wrap_in ⟨by omega, by omega⟩]; omega) w⟩) (fun _ h => by cases h; rfl)
        · exact V.Step.idxV (i := (j : Int)) (.inl rfl) rfl rfl (.inl ⟨_, rfl⟩) rfl (by omega) (by omega) rfl (fun _ h => by cases h; rfl)
        · exact V.Step.fieldP (.inl rfl) rfl rfl (by omega) (fun _ h => by cases h; rfl)
        · exact V.Step.loadI (.inl rfl) rfl rfl Try.underlying2 hlt d2 (fun _ h => by cases h; rfl)
        · exact V.Step.bin (v1 := .int .i64 y) (v2 := .int .i64 x) (v := .int .i64 d) (.inl rfl) rfl (.inl ⟨_, rfl⟩) (.inl ⟨_, rfl⟩) rfl rfl (fun w => ⟨rfl, V.sub_of HD.out w⟩) (fun _ h => by cases h; rfl)
        · exact V.Step.call1 (.inl rfl) rfl rfl Try.func29 (by decide +kernel) rfl (fun w1 hw1 => (rzig_any d w1 HW.out.1 HW.out.2).mono (by rintro e w9 ⟨rfl, rfl⟩; exact ⟨_, rfl, Below.refl _ _, fun d h => by cases h; exact congrArg (fun z : Nat => Value.int .u64 (z : Int)) HZ.out⟩)) 
        · exact V.Step.oneU (.inl rfl) rfl rfl (fun _ h => by cases h; rfl)
      case hd =>
      intro vs wa hwa hkk
      have v11 : vs 11 = u3 := hkk 0 _ 11 rfl rfl
      obtain ⟨a25, c25, v25, s25⟩ := hkk 14 _ 25 rfl rfl
      obtain ⟨x12, hx12⟩ : ∃ u, vs 12 = u := ⟨_, rfl⟩
      obtain ⟨x13, hx13⟩ : ∃ u, vs 13 = u := ⟨_, rfl⟩
      obtain ⟨x14, hx14⟩ : ∃ u, vs 14 = u := ⟨_, rfl⟩
      obtain ⟨x15, hx15⟩ : ∃ u, vs 15 = u := ⟨_, rfl⟩
      obtain ⟨x16, hx16⟩ : ∃ u, vs 16 = u := ⟨_, rfl⟩
      obtain ⟨x17, hx17⟩ : ∃ u, vs 17 = u := ⟨_, rfl⟩
      obtain ⟨x18, hx18⟩ : ∃ u, vs 18 = u := ⟨_, rfl⟩
      obtain ⟨x19, hx19⟩ : ∃ u, vs 19 = u := ⟨_, rfl⟩
      obtain ⟨x20, hx20⟩ : ∃ u, vs 20 = u := ⟨_, rfl⟩
      obtain ⟨x21, hx21⟩ : ∃ u, vs 21 = u := ⟨_, rfl⟩
      obtain ⟨x22, hx22⟩ : ∃ u, vs 22 = u := ⟨_, rfl⟩
      obtain ⟨x23, hx23⟩ : ∃ u, vs 23 = u := ⟨_, rfl⟩
      obtain ⟨x24, hx24⟩ : ∃ u, vs 24 = u := ⟨_, rfl⟩
      simp only [V.puts, List.foldl_cons, List.foldl_nil, v11, v25, hx12, hx13, hx14, hx15, hx16, hx17, hx18, hx19, hx20, hx21, hx22, hx23, hx24, Act.put, List.setIfInBounds_toArray, List.set_cons_zero, List.set_cons_succ]
      have HBA := hide (bthen hbw.out hwa)
      have HRA := hide (HR.out.below hwa)
      have S25 := hide s25
      have hsza := HBA.out.size
      clear hkk hwa s25 v11 v25 hx12 hx13 hx14 hx15 hx16 hx17 hx18 hx19 hx20 hx21 hx22 hx23 hx24
      simp only [List.drop]
      go_wp2_with (at_builtin; refine wpList_appU rfl (.tmp 11) (.tmp 25) rfl w.heap.size u3 (Z.dk l j) rfl HRA.out a25 1 c25 [z] rfl S25.out (by rw [HDL.out]; omega) hsza (Z.dk l (j + 1)) HN.out ?_)
      intro v' w' ho' hb'
      have HO := hide ho'
      have HB := hide (HBA.out.trans hb')
      clear ho' hb'
      go_wp2
      go_roundw
      case rel => exact ⟨j + 1, k + 1, by have := HK.out; omega, .inl (by omega), by go_num, HO, HB⟩
      case measure => simp [intOf]; omega
    · have hz : Z.dk l j = Z.dst l := dk_all (by rw [HL.out]; omega)
      have hrow1 := hrow.out
      rw [hz] at hrow1
      obtain ⟨a, c, hv, hs⟩ := hrow1.sl
      have FIN : Hid (StepsAns l w (.returned u3) wr) := ⟨a, c, by rw [hv], hs, hbw.out⟩
      clear hz hrow1 hv hs hrow
      go_wp2
      go_ret
      exact FIN.out
end Go.Proofs.Ytkcpfgjkplailaa

/- The document's Bytes of a column's numbers. Conditions: values whose parts are machine numbers. -/
import Derived.Test.YtkcpfgjkplailaaBdU
import Derived.Test.YtkcpfgjkplailaaBdI
import Derived.Test.YtkcpfgjkplailaaBdY
namespace Go.Proofs.Ytkcpfgjkplailaa
set_option linter.unusedVariables false
set_option maxRecDepth 10000
open Go.RowKit
set_option maxHeartbeats 2000000 in
theorem rdebytes_ok (ao : Option Addr) (cap : Nat) (x : Z.V) (t : List Z.V) (w : World) (h : SlV w ao (t.length + 1) cap (x :: t)) (hI : ∀ y ∈ x :: t, Z.I64 y.i) (h0 : Z.chk (x :: t) 1 = 0) :
    Calls Try.prog 11 #[.slice ao ((t.length + 1 : Nat)) cap] w (DeltaBytesAns (x :: t) w) := by
  obtain ⟨l, hl0⟩ : ∃ l, x :: t = l := ⟨_, rfl⟩
  have hl : l.length ≤ 4096 := by rw [← hl0]; exact (chk_zero h0).2.1
  rw [hl0] at h hI h0 ⊢
  obtain ⟨len, hlen⟩ : ∃ len, t.length + 1 = len := ⟨_, rfl⟩
  have hlen2 : l.length = len := by rw [← hlen, ← hl0]; rfl
  rw [hlen] at h ⊢
  have hlp : ((len : Int) == 0) = false := by simp; omega
  have HCK := hide (rcheck_any _ _ _ l 1 w h hI)
  rw [h0] at HCK
  obtain ⟨b, off, xk, xi, xs, rfl, hlt, hx, c1, c2, c3⟩ := h.here (j := 0) (by omega)
  have hxi : Z.V.mk xk xi xs = x := by rw [← hl0] at hx; injection hx with hx; exact hx.symm
  have hxI : Z.I64 xi := by have := hI x (by rw [← hl0]; simp); rw [← hxi] at this; exact this
  have HS := hide h
  have HI := hide hI
  have H0 := hide h0
  have HC2 : Hid (w.cell? ⟨b, off + 0 * 3 + 1, none⟩ = some (.int .i64 xi)) := c2
  have HDEB : Hid (Z.decb l = E.leb (E.zig xi) ++ (E.leb (wid (ints (Z.dst l))) ++ A.bytesOf (bitsAll (ints (Z.dst l)) (wid (ints (Z.dst l)))))) := by
    show _ = _
    rw [decb_ok h0, ← hl0, Z.deb, ← hxi]
  have HSL : Hid ((Z.dst l).length = len - 1) := by show _ = _; rw [dst_length, hlen2]
  have hl4 : len ≤ 4096 := by omega
  have hlen1 : 1 ≤ len := by omega
  clear h hI h0 hl0 hx c1 c2 c3 hxi hlen hlen2 hl
  go_enter Try.func11, Try.ntmps11
  go_wp2_with fail
  refine HCK.out.mono ?_
  rintro e w1 ⟨rfl, hb1⟩
  have HB1 := hide hb1
  have HST := hide (rsteps_any (some ⟨b, off, none⟩) len cap l w1 (HS.out.below hb1) HI.out (by omega))
  clear hb1 HCK
  go_wp2_with fail
  refine HST.out.mono ?_
  rintro e w2 ⟨sa, sc, rfl, hs2, hb2⟩
  have HB2 := hide (bthen HB1.out hb2)
  obtain ⟨S, hS⟩ : ∃ S, Z.dst l = S := ⟨_, rfl⟩
  have hpk := pack_steps l
  have hin := In64_ints (dst_lt l)
  rw [hS] at hs2 hpk hin HDEB HSL ⊢
  obtain ⟨sn, hsn⟩ : ∃ sn, S.length = sn := ⟨_, rfl⟩
  rw [hsn] at hs2 HSL ⊢
  have hsn4 : sn ≤ 4096 := by have := HSL.out; omega
  have HS2 := hide hs2
  have HPK := hide hpk
  have HIN := hide hin
  obtain ⟨W, hW⟩ : ∃ W, wid (ints S) = W := ⟨_, rfl⟩
  have hW64 : W ≤ 64 := by rw [← hW]; exact wid_le _ hin
  have HWD : Hid (Calls Try.prog 27 #[.slice sa sn sc] w2 fun e w' => e = .returned (.int .i64 (W : Int)) ∧ w' = w2) := by
    have := rwidth_any sa sn sc (ints S) w2 hs2 (by omega) hin
    rwa [hW] at this
  rw [hW] at HPK HDEB
  have HWW := hide hW
  clear hs2 hpk hin hS hsn hW hb2 HST
  go_wp2_with fail
  refine HWD.out.mono ?_
  rintro e w3 ⟨rfl, rfl⟩
  have d2 : w3.cell? ⟨b, off + 0 * 3 + 1, none⟩ = some (.int .i64 xi) := by rw [HB2.out.cell (p := ⟨b, off + 0 * 3 + 1, none⟩) hlt]; exact HC2.out
  have hlen0 : (0 : Int) < (len : Int) := by omega
  have hzl := E.zig_lt xi hxI.1 hxI.2
  have HXI := hide hxI
  obtain ⟨z, hz⟩ : ∃ z, E.zig xi = z := ⟨_, rfl⟩
  have HZG : Hid (∀ w, Calls Try.prog 29 #[.int .i64 xi] w fun e w' => e = .returned (.int .u64 (z : Int)) ∧ w' = w) := by
    intro w; have := rzig_any xi w HXI.out.1 HXI.out.2; rwa [hz] at this
  rw [hz] at hzl HDEB
  have HPZ := hide (rput_any (z : Int))
  have hWc : IntKind.u64.wrap (W : Int) = (W : Int) := by rw [u64_wrap]; omega
  clear hz hxI HC2 HWD
  go_wp2_with fail
  refine (HZG.out _).mono ?_
  rintro e w5 ⟨rfl, hw5⟩
  obtain rfl : w3 = w5 := hw5.symm
  go_wp2_with fail
  refine (HPZ.out w3 (by omega) (by omega)).mono ?_
  rintro e w6 ⟨v6, rfl, ho6, hb6⟩
  rw [Int.toNat_natCast] at ho6
  have HB36 := hide hb6
  have HO6 := hide ho6
  have HPW := hide (rput_any (W : Int) w6 (by omega) (by omega))
  have hz10 := E.leb_ten z (by omega)
  clear ho6 hb6 HPZ HZG
  go_wp2_with fail
  refine HPW.out.mono ?_
  rintro e w7 ⟨v7, rfl, ho7, hb7⟩
  rw [Int.toNat_natCast] at ho7
  have HB37 := hide (bthen HB36.out hb7)
  have HO7 := hide (owns_below HO6.out hb7)
  obtain ⟨ra, rc, hv7, hs7, _⟩ := Sl.of_bytes ho7
  obtain ⟨rn, hrn⟩ : ∃ rn, (E.leb W).length = rn := ⟨_, rfl⟩
  have hr10 := E.leb_ten W (by omega)
  rw [hrn] at hv7 hs7 hr10
  subst hv7
  have HS7 := hide hs7
  have hsz7 := HB37.out.size
  have HLIM : Hid ((E.leb z).length + rn ≤ 140737488355328) := by show _ ≤ _; omega
  have HRN := hide hrn
  obtain ⟨r8, hr8⟩ : ∃ r, E.leb z ++ E.leb W = r := ⟨_, rfl⟩
  have HR8 := hide hr8
  clear ho7 hs7 hrn hb7 HPW HO6 hz10 hr8
  go_wp2_with (at_builtin; refine wpList_app rfl _ _ rfl w3.heap.size v6 (E.leb z) rfl HO7.out ra rn rc (E.leb W) rfl HS7.out HLIM.out hsz7 r8 HR8.out ?_)
  intro v8 w8 ho8 has8
  have hb8 : Below w3.heap.size w3 w8 := HB37.out.trans (has8.below hsz7 (fun k hk => (owns_lt HO7.out hk).1))
  have HB8 := hide hb8
  have HO8 := hide ho8
  have HPU := hide (rpack_u sa sn sc (ints S) (W : Int) w8 (HS2.out.below hb8) (by omega) HIN.out)
  rw [HPK.out.1] at HPU
  clear ho8 has8 hb8 HO7 HS7
  go_wp2_with fail
  refine HPU.out.mono ?_
  rintro e w9 ⟨v9, rfl, ho9, hb9⟩
  have HB9 := hide (bthen HB8.out hb9)
  have HO9 := hide (owns_below HO8.out hb9)
  have hpl := packB_le (ints S) (W : Int)
  rw [HS2.out.1] at hpl
  obtain ⟨qa, qc, hv9, hs9, _⟩ := Sl.of_bytes ho9
  obtain ⟨pk, hpk⟩ : ∃ pk, packB (ints S) (W : Int) = pk := ⟨_, rfl⟩
  have hpk2 := HPK.out.2
  rw [hpk] at hv9 hs9 hpl hpk2
  obtain ⟨qn, hqn⟩ : ∃ qn, pk.length = qn := ⟨_, rfl⟩
  rw [hqn] at hv9 hs9 hpl
  subst hv9
  have HS9 := hide hs9
  have hsz9 := HB9.out.size
  have hdb : r8 ++ pk = Z.decb l := by rw [HDEB.out, ← HR8.out, List.append_assoc, ← hpk2]
  have HDB := hide hdb
  have HLIM2 : Hid (r8.length + qn ≤ 140737488355328) := by
    have h1 := E.leb_ten z (by omega)
    have h2 := E.leb_ten W (by omega)
    show _ ≤ _
    rw [← HR8.out, List.length_append]; omega
  clear ho9 hs9 hqn hpk hpk2 hb9 HPU HPK HO8 hdb hpl
  go_wp2_with (at_builtin; refine wpList_app rfl _ _ rfl w3.heap.size v8 r8 rfl HO9.out qa qn qc pk rfl HS9.out HLIM2.out hsz9 (Z.decb l) HDB.out ?_)
  intro v10 w10 ho10 has10
  have hb10 : Below w3.heap.size w3 w10 := HB9.out.trans (has10.below hsz9 (fun k hk => (owns_lt HO9.out hk).1))
  obtain ⟨xa, xc, hv10, hs10, _⟩ := Sl.of_bytes ho10
  have FIN : Hid (DeltaBytesAns l w (.returned (.tuple #[v10, .int .i64 0])) w10) := ⟨xa, xc, by rw [hv10, H0.out], hs10, bthen HB2.out hb10⟩
  clear ho10 hs10 hv10 has10 hb10
  go_wp2
  go_ret2
  exact FIN.out
theorem rdebytes_any (ao : Option Addr) (len cap : Nat) (l : List Z.V) (w : World) (h : SlV w ao len cap l) (hI : ∀ x ∈ l, Z.I64 x.i) :
    Calls Try.prog 11 #[.slice ao len cap] w (DeltaBytesAns l w) := by
  obtain rfl : len = l.length := h.1.symm
  by_cases h0 : Z.chk l 1 = 0
  · cases l with
    | cons x t => exact rdebytes_ok ao cap x t w h hI h0
    | nil =>
      have HCK := hide (rcheck_any _ _ _ [] 1 w h hI)
      have FIN : Hid (∀ w', Below w.heap.size w w' → DeltaBytesAns [] w (.returned (.tuple #[.slice none 0 0, .int .i64 0])) w') := fun w' hb => DeltaBytesAns.none hb
      rw [h0] at HCK
      clear h hI h0
      simp only [List.length_nil] at HCK ⊢
      go_enter Try.func11, Try.ntmps11
      go_wp2_with fail
      refine HCK.out.mono ?_
      rintro e w1 ⟨rfl, hb1⟩
      replace hb1 := hide hb1
      clear HCK
      go_wp2
      go_ret2
      exact FIN.out _ hb1.out
  · have HCK := hide (rcheck_any _ _ _ l 1 w h hI)
    obtain ⟨E, hE⟩ : ∃ E, Z.chk l 1 = E := ⟨_, rfl⟩
    have hE0 : (E != 0) = true := by rw [← hE]; simpa using h0
    have FIN : Hid (∀ w', Below w.heap.size w w' → DeltaBytesAns l w (.returned (.tuple #[.slice none 0 0, .int .i64 E])) w') := fun w' hb => DeltaBytesAns.no hE (by rw [← hE]; exact h0) hb
    rw [hE] at HCK
    clear h hI hE h0
    go_enter Try.func11, Try.ntmps11
    go_wp2_with fail
    refine HCK.out.mono ?_
    rintro e w1 ⟨rfl, hb1⟩
    replace hb1 := hide hb1
    clear HCK
    go_wp2
    go_ret2
    exact FIN.out _ hb1.out
end Go.Proofs.Ytkcpfgjkplailaa

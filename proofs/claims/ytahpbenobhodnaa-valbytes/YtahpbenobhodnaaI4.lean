/- The walk of the statement: any value's bytes, and any bytes as a value of any kind, are the document's, or refused. -/
import Derived.Test.YtahpbenobhodnaaZF
import Derived.Test.YtahpbenobhodnaaRV
namespace Go.Proofs.Ytahpbenobhodnaa
set_option linter.unusedVariables false
open Go.RowKit

set_option maxHeartbeats 4000000 in
theorem valBytes_in (w : World) (k i : Int) (s : ByteArray) (hi : Z.I64 i) (ao : Option Addr) (len cap : Nat) (l : List Nat) (h : Sl w .u8 ao len cap (ints l)) (h256 : ∀ x ∈ l, x < 256) (hm : len ≤ 140737488355328) (kind : Int) :
    Calls Try.prog 3 #[.agg #[.int .i64 k, .int .i64 i, .string s], .slice ao len cap, .int .i64 kind] w fun e w' => e = .returned (.bool true) ∧ Below w.heap.size w w' := by
  have hA := At.new w k i s
  have b0 := below_one w (.cells #[.int .i64 k, .int .i64 i, .string s] 23)
  have HB := hide fun w => vbytes_any k i s w hi
  have HU := hide fun w => ubytes_any k i s w hi
  have HS := hide h
  have H2 := hide h256
  unfold BytesOf at HB HU
  obtain ⟨bl, hbl⟩ : ∃ bl, Z.bl ⟨k, i, s⟩ = bl := ⟨_, rfl⟩
  obtain ⟨be, hbe⟩ : ∃ be, Z.be ⟨k, i, s⟩ = be := ⟨_, rfl⟩
  rw [hbl, hbe] at HB HU
  clear hbl hbe hi h h256
  replace b0 := hide b0
  go_enter Try.func3, Try.ntmps3
  go_wp2_with fail
  refine (pshown_any _).mono ?_
  rintro e w1 ⟨rfl, hb⟩
  replace b0 := hide (bthen b0.out hb)
  replace hA := hA.below hb
  obtain ⟨a1, a2, a3⟩ := hA.cells
  clear hb
  replace hA := hide hA
  go_wp2_with fail
  refine (HB.out _).mono ?_
  rintro e w2 ⟨x1, c1, rfl, s1, hb⟩
  replace b0 := hide (bthen b0.out hb)
  replace hA := hA.out.below hb
  clear a1 a2 a3
  obtain ⟨a1, a2, a3⟩ := hA.cells
  clear hb hA
  replace s1 := hide s1
  obtain ⟨n1, hn1⟩ : ∃ n, bl.length = n := ⟨_, rfl⟩
  rw [hn1] at s1 HU ⊢
  clear hn1
  go_wp2_with fail
  refine (HU.out _).mono ?_
  rintro e w3 ⟨x2, c2, rfl, s2, hb⟩
  replace b0 := hide (bthen b0.out hb)
  replace s1 := hide (s1.out.below hb)
  replace s2 := hide s2
  clear hb a1 a2 a3 HB HU
  go_wp2_with fail
  refine (vof_any ao len cap l kind _ (HS.out.below b0.out) H2.out hm).mono ?_
  intro e w4 ho
  obtain ⟨x3, c3, he, s3, hb⟩ := ho
  subst he
  obtain ⟨n3, hn3⟩ : ∃ n, (Z.oR l kind).length = n := ⟨_, rfl⟩
  obtain ⟨E3, hE3⟩ : ∃ n : Int, ((Z.oE l kind : Nat) : Int) = n := ⟨_, rfl⟩
  obtain ⟨⟨vk, vi, vs⟩, hV⟩ : ∃ v, Z.oV l kind = v := ⟨_, rfl⟩
  rw [hn3] at s3 ⊢
  rw [hE3, hV]
  have HN3 := hide hn3
  have HE3 := hide hE3
  have HV := hide hV
  simp only [Z.V.v]
  replace b0 := hide (bthen b0.out hb)
  replace s1 := hide (s1.out.below hb)
  replace s2 := hide (s2.out.below hb)
  replace s3 := hide s3
  have hP := At.new w4 vk vi vs
  have bP := below_one w4 (.cells #[.int .i64 vk, .int .i64 vi, .string vs] 23)
  clear hb hn3 hE3 hV
  replace b0 := hide (bthen b0.out bP)
  replace s1 := hide (s1.out.below bP)
  replace s2 := hide (s2.out.below bP)
  replace s3 := hide (s3.out.below bP)
  clear bP
  go_wp2_with fail
  refine (uof_any ao len cap l kind _ (HS.out.below b0.out) H2.out hm).mono ?_
  intro e w5 ho
  obtain ⟨x4, c4, he, s4, hb⟩ := ho
  subst he
  rw [HN3.out] at s4 ⊢
  rw [HE3.out, HV.out]
  simp only [Z.V.v]
  have bQ := below_one w5 (.cells #[.int .i64 vk, .int .i64 vi, .string vs] 23)
  have hQ := At.new w5 vk vi vs
  have hb2 := bthen hb bQ
  replace b0 := hide (bthen b0.out hb2)
  have t1 := str_of (s1.out.below hb2)
  have t2 := str_of (s2.out.below hb2)
  have t3 := str_of (s3.out.below hb2)
  have t4 := str_of (s4.below bQ)
  replace hP := hP.below hb2
  obtain ⟨p1, p2, p3⟩ := hP.cells
  obtain ⟨q1, q2, q3⟩ := hQ.cells
  have hq := veq_run vk vi vs vk vi vs
  simp only [Z.same_self] at hq
  generalize strOfNums (ints bl) = S1 at t1 t2
  generalize strOfNums (ints (Z.oR l kind)) = S3 at t3 t4
  clear hb hb2 bQ s1 s2 s3 s4 hP hQ HN3 HE3 HV HS H2 hm
  go_wp2
  go_ret
  exact ⟨rfl, b0.out⟩
theorem valBytes_walk (w : World) (k i : Int) (s : ByteArray) (hk : Z.I64 k) (hi : Z.I64 i) (hs : s.size ≤ maxLen) (a : Option Addr) (len cap : Nat) (z : List Int) (c : Came .u8 w a len cap z) (hr : cap * 1 ≤ 140737488351232) (kind : Int) (wk : (Lit.int .i64 kind).wf = true) :
    Calls Try.prog 3 #[.agg #[.int .i64 k, .int .i64 i, .string s], .slice a len cap, .int .i64 kind] w fun e w' => e = .returned (.bool true) ∧ Below w.heap.size w w' := by
  obtain ⟨l, rfl, h256⟩ := came_bytes c
  have hc := c.1.2.1
  exact valBytes_in w k i s hi a len cap l c.1 h256 (by omega) kind
end Go.Proofs.Ytahpbenobhodnaa

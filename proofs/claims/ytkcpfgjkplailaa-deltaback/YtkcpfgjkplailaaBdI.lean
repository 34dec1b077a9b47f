/- Plain facts on steps: what each number is more than the one ahead; laid down, and read. Nothing of the program. -/
import Derived.Test.YtkcpfgjkplailaaBdH
import Derived.Test.YtkcpfgjkplailaaBdB
import Derived.Test.YtkcpfgjkplailaaBdG
namespace Go.Proofs.Ytkcpfgjkplailaa
set_option linter.unusedVariables false
open Go.RowKit

theorem wrap64_is (n : Int) : Z.I64 (wrap64 n) ∧ (wrap64 n - n) % 18446744073709551616 = 0 := by
  unfold wrap64 Z.I64
  omega
theorem wrap64_one {n m : Int} (h : Z.I64 m) (hd : (m - n) % 18446744073709551616 = 0) : wrap64 n = m := by
  have := wrap64_is n
  unfold Z.I64 at *
  omega
theorem wrap64_id {n : Int} (h : Z.I64 n) : wrap64 n = n := wrap64_one h (by rw [Int.sub_self]; rfl)
/-- There, and back. -/
theorem wrap64_there {p x : Int} (hx : Z.I64 x) : wrap64 (p + wrap64 (x - p)) = x := by
  refine wrap64_one hx ?_
  have := (wrap64_is (x - p)).2
  omega
theorem wrap64_back {p z : Int} (hz : Z.I64 z) : wrap64 (wrap64 (p + z) - p) = z := by
  refine wrap64_one hz ?_
  have := (wrap64_is (p + z)).2
  omega
theorem zag_i64 {s : Nat} (h : s < 18446744073709551616) : Z.I64 (E.zag s) := E.zag_lt s h
/-- The steps of numbers behind one; the numbers of steps. -/
def Z.stp : Int → List Int → List Nat
  | _, [] => []
  | p, x :: t => E.zig (wrap64 (x - p)) :: Z.stp x t
def Z.sms : Int → List Nat → List Int
  | _, [] => []
  | p, s :: t => wrap64 (p + E.zag s) :: Z.sms (wrap64 (p + E.zag s)) t
theorem stp_length : ∀ (p : Int) (l : List Int), (Z.stp p l).length = l.length
  | _, [] => rfl
  | p, x :: t => by rw [Z.stp, List.length_cons, List.length_cons, stp_length x t]
theorem sms_length : ∀ (p : Int) (l : List Nat), (Z.sms p l).length = l.length
  | _, [] => rfl
  | p, x :: t => by rw [Z.sms, List.length_cons, List.length_cons, sms_length _ t]
theorem stp_lt : ∀ (p : Int) (l : List Int), ∀ s ∈ Z.stp p l, s < 18446744073709551616
  | _, [], s, h => by simp [Z.stp] at h
  | p, x :: t, s, h => by
    rw [Z.stp] at h
    rcases List.mem_cons.1 h with rfl | h
    · have := (wrap64_is (x - p)).1
      exact E.zig_lt _ this.1 this.2
    · exact stp_lt x t s h
theorem sms_i64 : ∀ (p : Int) (l : List Nat), ∀ x ∈ Z.sms p l, Z.I64 x
  | _, [], x, h => by simp [Z.sms] at h
  | p, s :: t, x, h => by
    rw [Z.sms] at h
    rcases List.mem_cons.1 h with rfl | h
    · exact (wrap64_is _).1
    · exact sms_i64 _ t x h
/-- The numbers of steps are the numbers. -/
theorem sms_stp : ∀ (p : Int) (l : List Int), (∀ x ∈ l, Z.I64 x) → Z.sms p (Z.stp p l) = l
  | _, [], _ => rfl
  | p, x :: t, h => by
    have e : wrap64 (p + E.zag (E.zig (wrap64 (x - p)))) = x := by rw [E.zag_zig]; exact wrap64_there (h x (by simp))
    rw [Z.stp, Z.sms, e, sms_stp x t fun y hy => h y (by simp [hy])]
/-- The steps of the numbers of steps are the steps. -/
theorem stp_sms : ∀ (p : Int) (l : List Nat), (∀ s ∈ l, s < 18446744073709551616) → Z.stp p (Z.sms p l) = l
  | _, [], _ => rfl
  | p, s :: t, h => by
    have e : E.zig (wrap64 (wrap64 (p + E.zag s) - p)) = s := by rw [wrap64_back (zag_i64 (h s (by simp))), E.zig_zag]
    rw [Z.sms, Z.stp, e, stp_sms _ t fun y hy => h y (by simp [hy])]
/-- Numbers that are moved all by as much have the same steps. -/
theorem stp_move (by' : Int) : ∀ (p : Int) (l : List Int), Z.stp (wrap64 (p + by')) (l.map fun x => wrap64 (x + by')) = Z.stp p l
  | _, [] => rfl
  | p, x :: t => by
    have e : wrap64 (wrap64 (x + by') - wrap64 (p + by')) = wrap64 (x - p) := by
      refine wrap64_one (wrap64_is _).1 ?_
      have h1 := (wrap64_is (x + by')).2
      have h2 := (wrap64_is (p + by')).2
      have h3 := (wrap64_is (x - p)).2
      omega
    rw [List.map_cons, Z.stp, Z.stp, e, stp_move by' x t]
/-- A column's numbers; its steps. -/
def Z.nms (l : List Z.V) : List Int := l.map fun x => x.i
def Z.dst : List Z.V → List Nat
  | [] => []
  | x :: t => Z.stp x.i (Z.nms t)
def Z.vals (l : List Int) : List Z.V := l.map fun x => ⟨1, x, ⟨#[]⟩⟩
theorem nms_vals (l : List Int) : Z.nms (Z.vals l) = l := by
  unfold Z.nms Z.vals
  rw [List.map_map]
  exact List.map_id l
theorem vals_length (l : List Int) : (Z.vals l).length = l.length := by simp [Z.vals]
theorem dst_length (l : List Z.V) : (Z.dst l).length = l.length - 1 := by
  cases l with
  | nil => rfl
  | cons x t => rw [Z.dst, stp_length]; simp [Z.nms]
theorem dst_lt (l : List Z.V) : ∀ s ∈ Z.dst l, s < 18446744073709551616 := by
  cases l with
  | nil => intro s h; simp [Z.dst] at h
  | cons x t => exact stp_lt _ _
theorem stp_snoc : ∀ (p : Int) (l : List Int) (x : Int), Z.stp p (l ++ [x]) = Z.stp p l ++ [E.zig (wrap64 (x - (p :: l).getLast (by simp)))]
  | p, [], x => rfl
  | p, y :: t, x => by
    rw [List.cons_append, Z.stp, stp_snoc y t x, Z.stp, List.cons_append]
    congr 3
theorem dst_step {l : List Z.V} {j : Nat} {x y : Z.V} (hx : l[j]? = some x) (hy : l[j + 1]? = some y) : Z.dst (l.take (j + 1 + 1)) = Z.dst (l.take (j + 1)) ++ [E.zig (wrap64 (y.i - x.i))] := by
  obtain ⟨h1, h2⟩ := List.getElem?_eq_some_iff.1 hx
  obtain ⟨h3, h4⟩ := List.getElem?_eq_some_iff.1 hy
  cases l with
  | nil => simp at hx
  | cons z t =>
    rw [List.take_succ_cons, List.take_succ_cons, Z.dst, Z.dst]
    have e1 : t.take (j + 1) = t.take j ++ [y] := by
      have : t[j]? = some y := by simpa using hy
      obtain ⟨h5, h6⟩ := List.getElem?_eq_some_iff.1 this
      rw [List.take_succ_eq_append_getElem h5, h6]
    rw [e1]
    have e2 : Z.nms (t.take j ++ [y]) = Z.nms (t.take j) ++ [y.i] := by simp [Z.nms]
    rw [e2, stp_snoc]
    congr 3
    have e3 : (z :: t).take (j + 1) = (z :: t).take j ++ [x] := by rw [List.take_succ_eq_append_getElem h1, h2]
    have e4 : z.i :: Z.nms (t.take j) = Z.nms ((z :: t).take (j + 1)) := by rw [List.take_succ_cons]; rfl
    have e5 : Z.nms ((z :: t).take (j + 1)) = Z.nms ((z :: t).take j) ++ [x.i] := by rw [e3]; simp [Z.nms]
    have e6 : (z.i :: Z.nms (t.take j)) = Z.nms ((z :: t).take j) ++ [x.i] := e4.trans e5
    have e7 : ∀ (A B : List Int) (hA : A ≠ []) (hB : B ≠ []), A = B → A.getLast hA = B.getLast hB := by rintro A B hA hB rfl; rfl
    rw [e7 _ _ (by simp) (by simp) e6, List.getLast_append]
    rfl
/-- A column's bytes: the first number, the width, the steps. -/
def Z.deb : List Z.V → List Nat
  | [] => []
  | x :: t => E.leb (E.zig x.i) ++ (E.leb (wid (ints (Z.dst (x :: t)))) ++ A.bytesOf (bitsAll (ints (Z.dst (x :: t))) (wid (ints (Z.dst (x :: t))))))
def Z.decb (l : List Z.V) : List Nat := if Z.chk l 1 = 0 then Z.deb l else []
theorem decb_ok {l : List Z.V} (h : Z.chk l 1 = 0) : Z.decb l = Z.deb l := by unfold Z.decb; rw [if_pos h]
theorem decb_bad {l : List Z.V} (h : Z.chk l 1 ≠ 0) : Z.decb l = [] := by unfold Z.decb; rw [if_neg h]
/-- The parts of bytes: behind the first number, the width, the rest, the steps, the numbers. -/
def Z.fb (b : List Nat) : List Nat := b.drop (E.gK b)
def Z.fw (b : List Nat) : Nat := E.gN (Z.fb b)
def Z.fr (b : List Nat) : List Nat := (Z.fb b).drop (E.gK (Z.fb b))
def Z.fs (n : Nat) (b : List Nat) : List Nat := (nums (Z.fr b) (n - 1) (Z.fw b)).map Int.toNat
def Z.fl (n : Nat) (b : List Nat) : List Int := E.zag (E.gN b) :: Z.sms (E.zag (E.gN b)) (Z.fs n b)
/-- What is wrong with bytes as so many numbers (one at least). -/
def Z.fN (n : Nat) (b : List Nat) : Nat := if E.gE b ≠ 0 then E.gE b else if E.gE (Z.fb b) ≠ 0 then E.gE (Z.fb b) else if 64 < Z.fw b then 4 else if jb (Z.fr b) ((n - 1) * Z.fw b) ≠ 0 then jb (Z.fr b) ((n - 1) * Z.fw b) else if wid (ints (Z.fs n b)) ≠ Z.fw b then 4 else 0
structure Z.FOk (n : Nat) (b : List Nat) : Prop where
  one : E.gE b = 0
  two : E.gE (Z.fb b) = 0
  most : Z.fw b ≤ 64
  bits : jb (Z.fr b) ((n - 1) * Z.fw b) = 0
  just : wid (ints (Z.fs n b)) = Z.fw b
theorem fN_zero {n : Nat} {b : List Nat} (h : Z.fN n b = 0) : Z.FOk n b := by
  unfold Z.fN at h
  split at h
  · omega
  · rename_i h1
    split at h
    · omega
    · rename_i h2
      split at h
      · omega
      · rename_i h3
        split at h
        · omega
        · rename_i h4
          split at h
          · omega
          · rename_i h5
            exact ⟨by omega, by omega, by omega, by omega, by omega⟩
theorem fN_of {n : Nat} {b : List Nat} (h : Z.FOk n b) : Z.fN n b = 0 := by
  have h1 := h.one
  have h2 := h.two
  have h3 := h.most
  have h4 := h.bits
  have h5 := h.just
  unfold Z.fN
  rw [if_neg (by omega), if_neg (by omega), if_neg (by omega), if_neg (by omega), if_neg (by omega)]
theorem nums_nat' (r : List Nat) (n k : Nat) : ints ((nums r n k).map Int.toNat) = nums r n k := by
  unfold ints nums
  rw [List.map_map, List.map_map]
  apply List.map_congr_left
  intro i _
  simp
theorem fs_ints (n : Nat) (b : List Nat) : ints (Z.fs n b) = nums (Z.fr b) (n - 1) (Z.fw b) := nums_nat' _ _ _
theorem fs_length (n : Nat) (b : List Nat) : (Z.fs n b).length = n - 1 := by unfold Z.fs; rw [List.length_map, nums_length]
theorem fs_lt {n : Nat} {b : List Nat} (hw : Z.fw b ≤ 64) : ∀ s ∈ Z.fs n b, s < 18446744073709551616 := fun s hs => by
  obtain ⟨x, hx, rfl⟩ := List.mem_map.1 hs
  have := (In64_nums (Z.fr b) (n - 1) (Z.fw b) hw).1 x hx
  omega
theorem fl_length {n : Nat} (hn : 0 < n) (b : List Nat) : (Z.fl n b).length = n := by unfold Z.fl; rw [List.length_cons, sms_length, fs_length]; omega
theorem fl_i64 {n : Nat} {b : List Nat} (h256 : ∀ x ∈ b, x < 256) : ∀ x ∈ Z.fl n b, Z.I64 x := fun x hx => by
  unfold Z.fl at hx
  rcases List.mem_cons.1 hx with rfl | hx
  · exact zag_i64 (E.gN_lt h256)
  · exact sms_i64 _ _ x hx
theorem vals_chk {l : List Int} (h : l.length ≤ 4096) : Z.chk (Z.vals l) 1 = 0 := by
  refine chk_of (.inl rfl) (by rw [vals_length]; exact h) (fun x hx => ?_) (fun x hx => ?_)
  · obtain ⟨y, _, rfl⟩ := List.mem_map.1 hx; rfl
  · obtain ⟨y, _, rfl⟩ := List.mem_map.1 hx
    rw [may_int, empty_of]
    decide
/-- What is read is laid down as the very bytes. -/
theorem f_two {n : Nat} (hn : 0 < n) {b : List Nat} (h256 : ∀ x ∈ b, x < 256) (h : Z.FOk n b) : Z.deb (Z.vals (Z.fl n b)) = b := by
  have hfb : ∀ x ∈ Z.fb b, x < 256 := fun x hx => h256 x (List.mem_of_mem_drop hx)
  have hfr : ∀ x ∈ Z.fr b, x < 256 := fun x hx => hfb x (List.mem_of_mem_drop hx)
  have hd : Z.dst (Z.vals (Z.fl n b)) = Z.fs n b := by
    show Z.stp (E.zag (E.gN b)) (Z.nms (Z.vals (Z.sms (E.zag (E.gN b)) (Z.fs n b)))) = _
    rw [nms_vals, stp_sms _ _ (fs_lt h.most)]
  have hv : Z.vals (Z.fl n b) = ⟨1, E.zag (E.gN b), ⟨#[]⟩⟩ :: Z.vals (Z.sms (E.zag (E.gN b)) (Z.fs n b)) := rfl
  rw [hv] at hd ⊢
  rw [Z.deb, hd, h.just, fs_ints, bytes_nums _ _ _ hfr h.bits, E.zig_zag]
  have e1 : E.leb (Z.fw b) = (Z.fb b).take (E.gK (Z.fb b)) := E.g_ones h.two hfb
  have e2 : Z.fr b = (Z.fb b).drop (E.gK (Z.fb b)) := rfl
  rw [e1, e2, List.take_append_drop, E.g_ones h.one h256]
  show b.take (E.gK b) ++ b.drop (E.gK b) = b
  rw [List.take_append_drop]
theorem In64_ints {l : List Nat} (h : ∀ s ∈ l, s < 18446744073709551616) : In64 (ints l) := fun x hx => by
  unfold ints at hx
  obtain ⟨y, hy, rfl⟩ := List.mem_map.1 hx
  have := h y hy
  omega
/-- What was laid down is read. -/
theorem f_back {x : Z.V} {t : List Z.V} (hI : ∀ y ∈ x :: t, Z.I64 y.i) : Z.FOk (t.length + 1) (Z.deb (x :: t)) ∧ Z.fl (t.length + 1) (Z.deb (x :: t)) = Z.nms (x :: t) := by
  obtain ⟨S, hS⟩ : ∃ S, Z.dst (x :: t) = S := ⟨_, rfl⟩
  have hSl : S.length = t.length := by rw [← hS, dst_length]; rfl
  have hin : In64 (ints S) := In64_ints (by rw [← hS]; exact dst_lt _)
  have hw64 := wid_le (ints S) hin
  have hft : Fit (ints S) (wid (ints S)) := (fit_wid _ _ hin).2 (Nat.le_refl _)
  have hxI := hI x (by simp)
  have hd : Z.deb (x :: t) = E.leb (E.zig x.i) ++ (E.leb (wid (ints S)) ++ A.bytesOf (bitsAll (ints S) (wid (ints S)))) := by rw [Z.deb, hS]
  obtain ⟨g1, g2, g3⟩ := E.g_put (E.zig x.i) (E.zig_lt _ hxI.1 hxI.2) (E.leb (wid (ints S)) ++ A.bytesOf (bitsAll (ints S) (wid (ints S))))
  rw [← hd] at g1 g2 g3
  have hfb : Z.fb (Z.deb (x :: t)) = E.leb (wid (ints S)) ++ A.bytesOf (bitsAll (ints S) (wid (ints S))) := by unfold Z.fb; rw [g2, hd, List.drop_left]
  obtain ⟨k1, k2, k3⟩ := E.g_put (wid (ints S)) (by omega) (A.bytesOf (bitsAll (ints S) (wid (ints S))))
  rw [← hfb] at k1 k2 k3
  have hfw : Z.fw (Z.deb (x :: t)) = wid (ints S) := k3
  have hfr : Z.fr (Z.deb (x :: t)) = A.bytesOf (bitsAll (ints S) (wid (ints S))) := by unfold Z.fr; rw [k2, hfb, List.drop_left]
  have hfs : Z.fs (t.length + 1) (Z.deb (x :: t)) = S := by
    unfold Z.fs
    rw [hfr, hfw, Nat.add_sub_cancel, ← hSl]
    have := nums_pack (ints S) (wid (ints S)) hin hft
    rw [ints_length] at this
    rw [this]
    simp [ints, List.map_map, Function.comp_def]
  refine ⟨⟨g1, k1, by rw [hfw]; exact hw64, ?_, by rw [hfs, hfw]⟩, ?_⟩
  · rw [hfr, hfw]
    have := jb_bytes (bitsAll (ints S) (wid (ints S)))
    rw [bitsAll_length, ints_length, hSl] at this
    exact this
  · unfold Z.fl
    rw [hfs, g3, E.zag_zig, ← hS]
    show x.i :: Z.sms x.i (Z.stp x.i (Z.nms t)) = x.i :: Z.nms t
    rw [sms_stp _ _ fun y hy => ?_]
    obtain ⟨v, hv, rfl⟩ := List.mem_map.1 hy
    exact hI v (by simp [hv])
end Go.Proofs.Ytkcpfgjkplailaa
/- The contracts of the reference's Zig, Zag, Put. -/
namespace Go.Proofs.Ytkcpfgjkplailaa
set_option linter.unusedVariables false
open Go.RowKit

theorem rzig_neg (n : Int) (h0 : -9223372036854775808 ≤ n) (h : n < 0) : 2 * -(n + 1) + 1 = ((E.zig n : Nat) : Int) := by
  unfold E.zig; rw [if_pos h]; omega
theorem rzig_pos (n : Int) (h : 0 ≤ n) : 2 * n = ((E.zig n : Nat) : Int) := by
  unfold E.zig; rw [if_neg (by omega)]; omega

set_option maxHeartbeats 400000 in
theorem rzig_any (n : Int) (w : World) (h0 : -9223372036854775808 ≤ n) (h1 : n < 9223372036854775808) :
    Calls Try.prog 29 #[.int .i64 n] w fun e w' => e = .returned (.int .u64 ((E.zig n : Nat) : Int)) ∧ w' = w := by
  by_cases hn : n < 0
  · go_enter Try.func29, Try.ntmps29
    go_wp2
    go_ret
    exact ⟨ret_int (rzig_neg n h0 hn), rfl⟩
  · go_enter Try.func29, Try.ntmps29
    go_wp2
    go_ret
    exact ⟨ret_int (rzig_pos n (by omega)), rfl⟩

set_option maxHeartbeats 400000 in
theorem rzag_any (n : Int) (w : World) (h0 : 0 ≤ n) (h1 : n < 18446744073709551616) :
    Calls Try.prog 38 #[.int .u64 n] w fun e w' => e = .returned (.int .i64 (E.zag n.toNat)) ∧ w' = w := by
  by_cases hn : n % 2 = 1
  · have hb : (n % 2 == 1) = true := by simpa using hn
    clear hn
    go_enter Try.func38, Try.ntmps38
    go_wp2
    go_ret
    exact ⟨ret_int (zag_odd n h0 (by simpa using hb)), rfl⟩
  · have hb : (n % 2 == 1) = false := by simpa using hn
    clear hn
    go_enter Try.func38, Try.ntmps38
    go_wp2
    go_ret
    exact ⟨ret_int (zag_even n h0 (by simpa using hb)), rfl⟩

set_option maxHeartbeats 400000 in
theorem rput_any (n : Int) (w : World) (hn0 : 0 ≤ n) (hn1 : n < 18446744073709551616) :
    Calls Try.prog 28 #[.int .u64 n] w fun e w' => ∃ v', e = .returned v' ∧ w'.ownsRow w.heap.size 5 1 v' (E.leb n.toNat).length (B8 (E.leb n.toNat)) ∧ Below w.heap.size w w' := by
  obtain ⟨i0, hi, hz0, hz1, hz2⟩ := info_parts Try.infoU8
  have h10 := E.leb_ten n.toNat (by omega)
  go_enter Try.func28, Try.ntmps28
  go_wp2_with fail
  go_loopw [0, 3] (fun m b wr => ∃ (pre : List Nat) (k : Int), m = .int .u64 k ∧ 0 ≤ k ∧ k < 18446744073709551616 ∧ pre ++ E.leb k.toNat = E.leb n.toNat ∧ wr.ownsRow w.heap.size 5 1 b pre.length (B8 pre) ∧ AS w (.slice none 0 0) wr b) (fun m _ _ => (intOf m).toNat)
  case atStart => exact ⟨[], n, rfl, hn0, hn1, rfl, World.ownsRow_nil _ _ _ _, AS.refl _ _⟩
  case round =>
    obtain ⟨pre, k, rfl, hk0, hk1, hpre, hown, has⟩ := hrel
    have hlen : pre.length + (E.leb k.toNat).length = (E.leb n.toNat).length := by
      have := congrArg List.length hpre
      simpa using this
    have hlp := E.leb_pos k.toNat
    have hsz := has.1.size
    have HP := hide hpre
    have hpl : pre.length + 1 ≤ 140737488355328 := by omega
    by_cases hk : 127 < k
    · have HB := hide (E.leb_big k.toNat (by omega))
      clear hpre hlen h10 hlp
      go_wp2_with (at_builtin; refine wpList_append_to rfl _ _ 23 rfl w.heap.size 5 i0 (.int .u8 0) 1 1 Try.underlying23 hi hz0 hz1 hz2 rfl (by decide) _ _ _ rfl (hown.alloc _) (some ⟨wr.heap.size, 0, none⟩) 1 1 [.int .u8 (128 + k % 128)] rfl (by simp) rfl (Sl.news1 _ _) (one_oneCell _ _) (by unfold maxLen; omega) (by omega) (by simp; omega) ?_)
      intro v' w1 ho1 has1
      go_wp2
      go_roundw
      case rel =>
        refine ⟨pre ++ [k.toNat % 128 + 128], k / 128, rfl, by omega, by omega, ?_, ?_, has.trans (AS.pre ((Kept.refl _ wr).alloc _) has1)⟩
        · rw [← HP.out, HB.out, List.append_assoc, show (k / 128).toNat = k.toNat / 128 by omega]; rfl
        · rw [show (128 + k % 128 : Int) = ((k.toNat % 128 + 128 : Nat) : Int) by omega] at ho1
          rw [B8_append, List.length_append]; exact ho1
      case measure => simp [intOf]; omega
    · have HB := hide (E.leb_small k.toNat (by omega))
      clear hpre hlen h10 hlp
      go_wp2_with (at_builtin; refine wpList_append_to rfl _ _ 23 rfl w.heap.size 5 i0 (.int .u8 0) 1 1 Try.underlying23 hi hz0 hz1 hz2 rfl (by decide) _ _ _ rfl (hown.alloc _) (some ⟨wr.heap.size, 0, none⟩) 1 1 [.int .u8 k] rfl (by simp) rfl (Sl.news1 _ _) (one_oneCell _ _) (by unfold maxLen; omega) (by omega) (by simp; omega) ?_)
      intro v' w1 ho1 has1
      go_wp2
      go_ret
      refine ⟨v', rfl, ?_, (has.trans (AS.pre ((Kept.refl _ wr).alloc _) has1)).below (Nat.le_refl _) (by simp [Value.ownBlock])⟩
      rw [← HP.out, HB.out, B8_append, List.length_append, show B8 [k.toNat] = [Value.int .u8 k] by simp [B8]; omega]
      exact ho1
end Go.Proofs.Ytkcpfgjkplailaa

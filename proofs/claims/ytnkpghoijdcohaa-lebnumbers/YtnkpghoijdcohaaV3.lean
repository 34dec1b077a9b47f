/- Bytes that are told, under a name. -/
import Derived.Test.YtnkpghoijdcohaaV2
import Derived.Test.YtnkpghoijdcohaaE10
import Derived.Test.YtnkpghoijdcohaaG2
namespace Go.Proofs.Ytnkpghoijdcohaa
set_option linter.unusedVariables false
open Go.RowKit

/-- Put, its bytes under a name. -/
theorem put_sl (n : Int) (l : List Nat) (k : Nat) (w : World) (hn0 : 0 ≤ n) (hn1 : n < 18446744073709551616) (hl : E.leb n.toNat = l) (hk : l.length = k) :
    Calls Try.prog 13 #[.int .u64 n] w fun e w' => ∃ a c, e = .returned (.slice a k c) ∧ Sl w' .u8 a k c (ints l) ∧ Below w.heap.size w w' := by
  refine (put_any n w hn0 hn1).mono ?_
  rintro e w' ⟨v, rfl, ho, hb⟩
  subst hl hk
  obtain ⟨a, c, rfl, hs, _⟩ := Sl.of_bytes ho
  exact ⟨a, c, rfl, hs, hb⟩
theorem rput_sl (n : Int) (l : List Nat) (k : Nat) (w : World) (hn0 : 0 ≤ n) (hn1 : n < 18446744073709551616) (hl : E.leb n.toNat = l) (hk : l.length = k) :
    Calls Try.prog 14 #[.int .u64 n] w fun e w' => ∃ a c, e = .returned (.slice a k c) ∧ Sl w' .u8 a k c (ints l) ∧ Below w.heap.size w w' := by
  refine (rput_any n w hn0 hn1).mono ?_
  rintro e w' ⟨v, rfl, ho, hb⟩
  subst hl hk
  obtain ⟨a, c, rfl, hs, _⟩ := Sl.of_bytes ho
  exact ⟨a, c, rfl, hs, hb⟩
end Go.Proofs.Ytnkpghoijdcohaa

/- What the walks need of flt.*: one proposition (M1 proves it of the landed text). -/
import Derived.Test.YthaeipephelmcaaRows
import Derived.WalkKit
import Derived.WalkSpells
import Derived.WalkLawsBesides
import Derived.Test.YthaeipephelmcaaD6
namespace Go.Proofs.Ythaeipephelmcaa
set_option linter.unusedVariables false
open Go.RowKit
def KeptNan : Prop := ∀ w : World, Calls Try.prog 20 #[] w fun e w' => e = .returned (.int .u64 9221120237041090560) ∧ w' = w
def KeptClean : Prop := ∀ (b : Int) (w : World), 0 ≤ b → b < 18446744073709551616 → Calls Try.prog 11 #[.int .u64 b] w fun e w' => e = .returned (.int .u64 (D.cl b)) ∧ w' = w
def KeptKey : Prop := ∀ (b : Int) (w : World), 0 ≤ b → b < 18446744073709551616 → Calls Try.prog 13 #[.int .u64 b] w fun e w' => e = .returned (.int .u64 (D.ky b)) ∧ w' = w
def KeptBits : Prop := ∀ (b : Int) (w : World), 0 ≤ b → b < 18446744073709551616 → Calls Try.prog 15 #[.int .u64 b] w fun e w' => e = .returned (.int .u64 (D.bt b)) ∧ w' = w
def KeptCompare : Prop := ∀ (a b : Int) (w : World), 0 ≤ a → a < 18446744073709551616 → 0 ≤ b → b < 18446744073709551616 → Calls Try.prog 17 #[.int .u64 a, .int .u64 b] w fun e w' => e = .returned (.int .i64 (D.cp a b)) ∧ w' = w
def KeptWhole : Prop := ∀ (b : Int) (w : World), 0 ≤ b → b < 18446744073709551616 → Calls Try.prog 21 #[.int .u64 b] w fun e w' => e = .returned (.tuple #[.int .i64 (D.wh b), .bool (D.whole b)]) ∧ w' = w
def FltKept : Prop := KeptNan ∧ KeptClean ∧ KeptKey ∧ KeptBits ∧ KeptCompare ∧ KeptWhole
theorem FltKept.nan (M : FltKept) : KeptNan := M.1
theorem FltKept.clean (M : FltKept) : KeptClean := M.2.1
theorem FltKept.key (M : FltKept) : KeptKey := M.2.2.1
theorem FltKept.bits (M : FltKept) : KeptBits := M.2.2.2.1
theorem FltKept.compare (M : FltKept) : KeptCompare := M.2.2.2.2.1
theorem FltKept.whole (M : FltKept) : KeptWhole := M.2.2.2.2.2
end Go.Proofs.Ythaeipephelmcaa

/-
  No cell of these rows narrows 'for every input' (looked for: loops, veiled, ifaces, maps, wideKeys, modest, calm, conditions, laid).
  DERIVED. THE GIVEN ROWS OF THIS SEAT. 5 by the template 'for every input the law returns true; each argument reads behind the call as it read before'; 0 by the template 'total and deterministic' (their statements: YthcnfbjljkighaaTotals.lean).
  GIVEN WITH THE SEED: the statements are not yours to turn. If you find one false, say at which input.
  Laid BY PROGRAM, IN A SANDBOX (cutbox-rows.mjs): the forced cells as the released guide's own fill.sh prints them over the translation aa2bb8b2ece3bb1e… (all of the seat's roots in one cut). By AI agents, Wed Nov 11 2026. No macro, syntax, notation, axiom, sorry.
-/
import Derived.Test.YthcnfbjljkighaaChecked
import GoSem.Claim
import GoSem.ClaimJoined
import GoSem.ClaimMapViews
import Derived.JoinedTies
import Derived.KernelRfl
namespace Go.Proofs.Ythcnfbjljkighaa
/- THE CELL 'sum', in the pinned program and in every row, IS THE sha256 OF THE DUMP (.gsa) THAT YthcnfbjljkighaaProg.lean LOADS. Nothing in Lean hashes anything: it is a label: what it is worth is what the hold of that sum in a sandbox is worth. -/
noncomputable def Try.pinned : Pinned := { name := "ythcnfbjljkighaa", sum := "aa2bb8b2ece3bb1e0af82a021e114a39fddd99a80ce8899464f1966892a9cdf2", checked := Try.checked }
namespace Rows
def none {H : Type} : Left H := { results := [], args := [] }

/-- 'astragallaw07.PlainBytes': WHATEVER THE INPUT: true; the input reads as it did. -/
def plainBytesSpec : ChangeSpec := { name := "plainBytes", fn := fun _ => fun
  | [d1, d2, d3, d4] => { results := [.lit (.bool true)], args := [d1, d2, d3, d4] }
  | _ => none }
def plainBytesRow : OpenClaim := { program := "ythcnfbjljkighaa", sum := "aa2bb8b2ece3bb1e0af82a021e114a39fddd99a80ce8899464f1966892a9cdf2", func := "astragal/astragallaw07.PlainBytes", spec := "plainBytes", unfollowed := true, recurses := true, apart := false }
def PlainBytesSaid : Prop := plainBytesRow.holds Try.pinned (OpenSpec.ofChange plainBytesSpec)

/-- ITS FALSE NEIGHBOUR: 'it returns false'. Refute it at one input. -/
def plainBytesWrong : ChangeSpec := { name := "plainBytes", fn := fun _ => fun
  | [d1, d2, d3, d4] => { results := [.lit (.bool false)], args := [d1, d2, d3, d4] }
  | _ => none }
def PlainBytesWrongFalsely : Prop := plainBytesRow.holds Try.pinned (OpenSpec.ofChange plainBytesWrong)

/-- 'astragallaw07.PlainBack': WHATEVER THE INPUT: true; the input reads as it did. -/
def plainBackSpec : ChangeSpec := { name := "plainBack", fn := fun _ => fun
  | [d1, d2, d3, d4] => { results := [.lit (.bool true)], args := [d1, d2, d3, d4] }
  | _ => none }
def plainBackRow : OpenClaim := { program := "ythcnfbjljkighaa", sum := "aa2bb8b2ece3bb1e0af82a021e114a39fddd99a80ce8899464f1966892a9cdf2", func := "astragal/astragallaw07.PlainBack", spec := "plainBack", unfollowed := true, recurses := true, apart := false }
def PlainBackSaid : Prop := plainBackRow.holds Try.pinned (OpenSpec.ofChange plainBackSpec)

/-- ITS FALSE NEIGHBOUR: 'it returns false'. Refute it at one input. -/
def plainBackWrong : ChangeSpec := { name := "plainBack", fn := fun _ => fun
  | [d1, d2, d3, d4] => { results := [.lit (.bool false)], args := [d1, d2, d3, d4] }
  | _ => none }
def PlainBackWrongFalsely : Prop := plainBackRow.holds Try.pinned (OpenSpec.ofChange plainBackWrong)

/-- 'astragallaw07.PlainJoins': WHATEVER THE INPUT: true; the input reads as it did. -/
def plainJoinsSpec : ChangeSpec := { name := "plainJoins", fn := fun _ => fun
  | [d1, d2, d3] => { results := [.lit (.bool true)], args := [d1, d2, d3] }
  | _ => none }
def plainJoinsRow : OpenClaim := { program := "ythcnfbjljkighaa", sum := "aa2bb8b2ece3bb1e0af82a021e114a39fddd99a80ce8899464f1966892a9cdf2", func := "astragal/astragallaw07.PlainJoins", spec := "plainJoins", unfollowed := true, recurses := true, apart := false }
def PlainJoinsSaid : Prop := plainJoinsRow.holds Try.pinned (OpenSpec.ofChange plainJoinsSpec)

/-- ITS FALSE NEIGHBOUR: 'it returns false'. Refute it at one input. -/
def plainJoinsWrong : ChangeSpec := { name := "plainJoins", fn := fun _ => fun
  | [d1, d2, d3] => { results := [.lit (.bool false)], args := [d1, d2, d3] }
  | _ => none }
def PlainJoinsWrongFalsely : Prop := plainJoinsRow.holds Try.pinned (OpenSpec.ofChange plainJoinsWrong)

/-- 'astragallaw07.PlainKinds': WHATEVER THE INPUT: true; the input reads as it did. -/
def plainKindsSpec : ChangeSpec := { name := "plainKinds", fn := fun _ => fun
  | [d1, d2, d3] => { results := [.lit (.bool true)], args := [d1, d2, d3] }
  | _ => none }
def plainKindsRow : OpenClaim := { program := "ythcnfbjljkighaa", sum := "aa2bb8b2ece3bb1e0af82a021e114a39fddd99a80ce8899464f1966892a9cdf2", func := "astragal/astragallaw07.PlainKinds", spec := "plainKinds", unfollowed := true, recurses := true, apart := false }
def PlainKindsSaid : Prop := plainKindsRow.holds Try.pinned (OpenSpec.ofChange plainKindsSpec)

/-- ITS FALSE NEIGHBOUR: 'it returns false'. Refute it at one input. -/
def plainKindsWrong : ChangeSpec := { name := "plainKinds", fn := fun _ => fun
  | [d1, d2, d3] => { results := [.lit (.bool false)], args := [d1, d2, d3] }
  | _ => none }
def PlainKindsWrongFalsely : Prop := plainKindsRow.holds Try.pinned (OpenSpec.ofChange plainKindsWrong)

/-- 'astragallaw07.PlainCuts': WHATEVER THE INPUT: true; the input reads as it did. -/
def plainCutsSpec : ChangeSpec := { name := "plainCuts", fn := fun _ => fun
  | [d1, d2, d3] => { results := [.lit (.bool true)], args := [d1, d2, d3] }
  | _ => none }
def plainCutsRow : OpenClaim := { program := "ythcnfbjljkighaa", sum := "aa2bb8b2ece3bb1e0af82a021e114a39fddd99a80ce8899464f1966892a9cdf2", func := "astragal/astragallaw07.PlainCuts", spec := "plainCuts", unfollowed := true, recurses := true, apart := false }
def PlainCutsSaid : Prop := plainCutsRow.holds Try.pinned (OpenSpec.ofChange plainCutsSpec)

/-- ITS FALSE NEIGHBOUR: 'it returns false'. Refute it at one input. -/
def plainCutsWrong : ChangeSpec := { name := "plainCuts", fn := fun _ => fun
  | [d1, d2, d3] => { results := [.lit (.bool false)], args := [d1, d2, d3] }
  | _ => none }
def PlainCutsWrongFalsely : Prop := plainCutsRow.holds Try.pinned (OpenSpec.ofChange plainCutsWrong)

/- THE SECOND FORM. 'bulk': how many values and letters a reading holds, each counted each time it is reached (what is shared counts as often as it is met; a slice's spare places count too). A statement '..UptoSaid' is the law's where the arguments, and the package variables that the reading takes, are together of bulk at most 1048576: NARROWER than '..Said'. Prove '..Said' where nothing that the law and all that it calls make is longer than what came in: it says more and counts as full. Else prove '..UptoSaid'. A law counts once. -/
mutual
def uptoBulk {H : Type} : DataW H → Nat
  | .lit (.string bytes) => bytes.length + 1
  | .lit _ => 1
  | .nil => 1
  | .ptr d => uptoBulk d + 1
  | .slice elems spare => uptoBulkAll elems + uptoBulkAll spare + 1
  | .agg parts => uptoBulkAll parts + 1
  | .iface _ d => uptoBulk d + 1
  | .map entries => uptoBulkEntries entries + 1
  | .held _ => 1
def uptoBulkAll {H : Type} : List (DataW H) → Nat
  | [] => 0
  | d :: r => uptoBulk d + uptoBulkAll r
def uptoBulkEntries {H : Type} : List (Lit × DataW H) → Nat
  | [] => 0
  | x :: r => uptoBulkEntry x + uptoBulkEntries r
def uptoBulkEntry {H : Type} : Lit × DataW H → Nat
  | (.string bytes, d) => bytes.length + uptoBulk d + 1
  | (_, d) => uptoBulk d + 1
 end
def uptoSmall : (H : Type) → List (DataW H) → Bool := fun _ ds => decide (uptoBulkAll ds ≤ 1048576)
def OpenSpec.upto (s : _root_.Go.ChangeSpec) : _root_.Go.OpenSpec := { _root_.Go.OpenSpec.ofChange s with cond := some uptoSmall }

/-- 'astragallaw07.PlainBytes', WHERE WHAT IT READS IS OF BULK AT MOST 1048576: true; the input reads as it did. -/
def plainBytesUptoRow : OpenClaim := { program := "ythcnfbjljkighaa", sum := "aa2bb8b2ece3bb1e0af82a021e114a39fddd99a80ce8899464f1966892a9cdf2", func := "astragal/astragallaw07.PlainBytes", spec := "plainBytes", unfollowed := true, recurses := true, apart := false, narrowed := true }
def PlainBytesUptoSaid : Prop := plainBytesUptoRow.holds Try.pinned (OpenSpec.upto plainBytesSpec)

/-- 'astragallaw07.PlainBack', WHERE WHAT IT READS IS OF BULK AT MOST 1048576: true; the input reads as it did. -/
def plainBackUptoRow : OpenClaim := { program := "ythcnfbjljkighaa", sum := "aa2bb8b2ece3bb1e0af82a021e114a39fddd99a80ce8899464f1966892a9cdf2", func := "astragal/astragallaw07.PlainBack", spec := "plainBack", unfollowed := true, recurses := true, apart := false, narrowed := true }
def PlainBackUptoSaid : Prop := plainBackUptoRow.holds Try.pinned (OpenSpec.upto plainBackSpec)

/-- 'astragallaw07.PlainJoins', WHERE WHAT IT READS IS OF BULK AT MOST 1048576: true; the input reads as it did. -/
def plainJoinsUptoRow : OpenClaim := { program := "ythcnfbjljkighaa", sum := "aa2bb8b2ece3bb1e0af82a021e114a39fddd99a80ce8899464f1966892a9cdf2", func := "astragal/astragallaw07.PlainJoins", spec := "plainJoins", unfollowed := true, recurses := true, apart := false, narrowed := true }
def PlainJoinsUptoSaid : Prop := plainJoinsUptoRow.holds Try.pinned (OpenSpec.upto plainJoinsSpec)

/-- 'astragallaw07.PlainKinds', WHERE WHAT IT READS IS OF BULK AT MOST 1048576: true; the input reads as it did. -/
def plainKindsUptoRow : OpenClaim := { program := "ythcnfbjljkighaa", sum := "aa2bb8b2ece3bb1e0af82a021e114a39fddd99a80ce8899464f1966892a9cdf2", func := "astragal/astragallaw07.PlainKinds", spec := "plainKinds", unfollowed := true, recurses := true, apart := false, narrowed := true }
def PlainKindsUptoSaid : Prop := plainKindsUptoRow.holds Try.pinned (OpenSpec.upto plainKindsSpec)

/-- 'astragallaw07.PlainCuts', WHERE WHAT IT READS IS OF BULK AT MOST 1048576: true; the input reads as it did. -/
def plainCutsUptoRow : OpenClaim := { program := "ythcnfbjljkighaa", sum := "aa2bb8b2ece3bb1e0af82a021e114a39fddd99a80ce8899464f1966892a9cdf2", func := "astragal/astragallaw07.PlainCuts", spec := "plainCuts", unfollowed := true, recurses := true, apart := false, narrowed := true }
def PlainCutsUptoSaid : Prop := plainCutsUptoRow.holds Try.pinned (OpenSpec.upto plainCutsSpec)

end Rows
end Go.Proofs.Ythcnfbjljkighaa

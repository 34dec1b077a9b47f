/-
  No cell of these rows narrows 'for every input' (looked for: loops, veiled, ifaces, maps, wideKeys, modest, calm, conditions, laid).
  DERIVED. THE GIVEN ROWS OF THIS SEAT. 6 by the template 'for every input the law returns true; each argument reads behind the call as it read before'; 0 by the template 'total and deterministic' (their statements: YtbgofbajihdjdaaTotals.lean).
  GIVEN WITH THE SEED: the statements are not yours to turn. If you find one false, say at which input.
  Laid BY PROGRAM, IN A SANDBOX (cutbox-rows.mjs): the forced cells as the released guide's own fill.sh prints them over the translation 014706ef1e4c0ccc… (all of the seat's roots in one cut). By AI agents, Wed Nov 11 2026. No macro, syntax, notation, axiom, sorry.
-/
import Derived.Test.YtbgofbajihdjdaaChecked
import GoSem.Claim
import GoSem.ClaimJoined
import GoSem.ClaimMapViews
import Derived.JoinedTies
import Derived.KernelRfl
namespace Go.Proofs.Ytbgofbajihdjdaa
/- THE CELL 'sum', in the pinned program and in every row, IS THE sha256 OF THE DUMP (.gsa) THAT YtbgofbajihdjdaaProg.lean LOADS. Nothing in Lean hashes anything: it is a label: what it is worth is what the hold of that sum in a sandbox is worth. -/
noncomputable def Try.pinned : Pinned := { name := "ytbgofbajihdjdaa", sum := "014706ef1e4c0ccc1533113648bc848cfc30e9f4a993eaae7a479a152bb50f86", checked := Try.checked }
namespace Rows
def none {H : Type} : Left H := { results := [], args := [] }

/-- 'astragallaw06.NullSplits': WHATEVER THE INPUT: true; the input reads as it did. -/
def nullSplitsSpec : ChangeSpec := { name := "nullSplits", fn := fun _ => fun
  | [d1, d2, d3] => { results := [.lit (.bool true)], args := [d1, d2, d3] }
  | _ => none }
def nullSplitsRow : OpenClaim := { program := "ytbgofbajihdjdaa", sum := "014706ef1e4c0ccc1533113648bc848cfc30e9f4a993eaae7a479a152bb50f86", func := "astragal/astragallaw06.NullSplits", spec := "nullSplits", unfollowed := true, recurses := true, apart := false }
def NullSplitsSaid : Prop := nullSplitsRow.holds Try.pinned (OpenSpec.ofChange nullSplitsSpec)

/-- ITS FALSE NEIGHBOUR: 'it returns false'. Refute it at one input. -/
def nullSplitsWrong : ChangeSpec := { name := "nullSplits", fn := fun _ => fun
  | [d1, d2, d3] => { results := [.lit (.bool false)], args := [d1, d2, d3] }
  | _ => none }
def NullSplitsWrongFalsely : Prop := nullSplitsRow.holds Try.pinned (OpenSpec.ofChange nullSplitsWrong)

/-- 'astragallaw06.NullBytes': WHATEVER THE INPUT: true; the input reads as it did. -/
def nullBytesSpec : ChangeSpec := { name := "nullBytes", fn := fun _ => fun
  | [d1, d2, d3] => { results := [.lit (.bool true)], args := [d1, d2, d3] }
  | _ => none }
def nullBytesRow : OpenClaim := { program := "ytbgofbajihdjdaa", sum := "014706ef1e4c0ccc1533113648bc848cfc30e9f4a993eaae7a479a152bb50f86", func := "astragal/astragallaw06.NullBytes", spec := "nullBytes", unfollowed := true, recurses := true, apart := false }
def NullBytesSaid : Prop := nullBytesRow.holds Try.pinned (OpenSpec.ofChange nullBytesSpec)

/-- ITS FALSE NEIGHBOUR: 'it returns false'. Refute it at one input. -/
def nullBytesWrong : ChangeSpec := { name := "nullBytes", fn := fun _ => fun
  | [d1, d2, d3] => { results := [.lit (.bool false)], args := [d1, d2, d3] }
  | _ => none }
def NullBytesWrongFalsely : Prop := nullBytesRow.holds Try.pinned (OpenSpec.ofChange nullBytesWrong)

/-- 'astragallaw06.NullBack': WHATEVER THE INPUT: true; the input reads as it did. -/
def nullBackSpec : ChangeSpec := { name := "nullBack", fn := fun _ => fun
  | [d] => { results := [.lit (.bool true)], args := [d] }
  | _ => none }
def nullBackRow : OpenClaim := { program := "ytbgofbajihdjdaa", sum := "014706ef1e4c0ccc1533113648bc848cfc30e9f4a993eaae7a479a152bb50f86", func := "astragal/astragallaw06.NullBack", spec := "nullBack", unfollowed := true, recurses := true, apart := false }
def NullBackSaid : Prop := nullBackRow.holds Try.pinned (OpenSpec.ofChange nullBackSpec)

/-- ITS FALSE NEIGHBOUR: 'it returns false'. Refute it at one input. -/
def nullBackWrong : ChangeSpec := { name := "nullBack", fn := fun _ => fun
  | [d] => { results := [.lit (.bool false)], args := [d] }
  | _ => none }
def NullBackWrongFalsely : Prop := nullBackRow.holds Try.pinned (OpenSpec.ofChange nullBackWrong)

/-- 'astragallaw06.NullMore': WHATEVER THE INPUT: true; the input reads as it did. -/
def nullMoreSpec : ChangeSpec := { name := "nullMore", fn := fun _ => fun
  | [d1, d2] => { results := [.lit (.bool true)], args := [d1, d2] }
  | _ => none }
def nullMoreRow : OpenClaim := { program := "ytbgofbajihdjdaa", sum := "014706ef1e4c0ccc1533113648bc848cfc30e9f4a993eaae7a479a152bb50f86", func := "astragal/astragallaw06.NullMore", spec := "nullMore", unfollowed := true, recurses := true, apart := false }
def NullMoreSaid : Prop := nullMoreRow.holds Try.pinned (OpenSpec.ofChange nullMoreSpec)

/-- ITS FALSE NEIGHBOUR: 'it returns false'. Refute it at one input. -/
def nullMoreWrong : ChangeSpec := { name := "nullMore", fn := fun _ => fun
  | [d1, d2] => { results := [.lit (.bool false)], args := [d1, d2] }
  | _ => none }
def NullMoreWrongFalsely : Prop := nullMoreRow.holds Try.pinned (OpenSpec.ofChange nullMoreWrong)

/-- 'astragallaw06.NullCounts': WHATEVER THE INPUT: true; the input reads as it did. -/
def nullCountsSpec : ChangeSpec := { name := "nullCounts", fn := fun _ => fun
  | [d1, d2] => { results := [.lit (.bool true)], args := [d1, d2] }
  | _ => none }
def nullCountsRow : OpenClaim := { program := "ytbgofbajihdjdaa", sum := "014706ef1e4c0ccc1533113648bc848cfc30e9f4a993eaae7a479a152bb50f86", func := "astragal/astragallaw06.NullCounts", spec := "nullCounts", unfollowed := true, recurses := true, apart := false }
def NullCountsSaid : Prop := nullCountsRow.holds Try.pinned (OpenSpec.ofChange nullCountsSpec)

/-- ITS FALSE NEIGHBOUR: 'it returns false'. Refute it at one input. -/
def nullCountsWrong : ChangeSpec := { name := "nullCounts", fn := fun _ => fun
  | [d1, d2] => { results := [.lit (.bool false)], args := [d1, d2] }
  | _ => none }
def NullCountsWrongFalsely : Prop := nullCountsRow.holds Try.pinned (OpenSpec.ofChange nullCountsWrong)

/-- 'astragallaw06.NullBits': WHATEVER THE INPUT: true; the input reads as it did. -/
def nullBitsSpec : ChangeSpec := { name := "nullBits", fn := fun _ => fun
  | [d] => { results := [.lit (.bool true)], args := [d] }
  | _ => none }
def nullBitsRow : OpenClaim := { program := "ytbgofbajihdjdaa", sum := "014706ef1e4c0ccc1533113648bc848cfc30e9f4a993eaae7a479a152bb50f86", func := "astragal/astragallaw06.NullBits", spec := "nullBits", unfollowed := true, recurses := true, apart := false }
def NullBitsSaid : Prop := nullBitsRow.holds Try.pinned (OpenSpec.ofChange nullBitsSpec)

/-- ITS FALSE NEIGHBOUR: 'it returns false'. Refute it at one input. -/
def nullBitsWrong : ChangeSpec := { name := "nullBits", fn := fun _ => fun
  | [d] => { results := [.lit (.bool false)], args := [d] }
  | _ => none }
def NullBitsWrongFalsely : Prop := nullBitsRow.holds Try.pinned (OpenSpec.ofChange nullBitsWrong)

/- THE SECOND FORM. 'bulk': how many values and letters a reading holds, each counted each time it is reached (what is shared counts as often as it is met; a slice's spare places count too). A statement '..UptoSaid' is the law's where the arguments, and the package variables that the reading takes, are together of bulk at most 1048576: NARROWER than '..Said'. Prove '..Said' where nothing that the law and all that it calls make is longer than what came in: it says more and counts as full. Else prove '..UptoSaid'. A law counts once. -/
mutual
def uptoBulk {H : Type} : DataW H → Nat
  | .lit (.string bytes) => bytes.length + 1
  | .lit _ => 1
  | .nil => 1
  | .ptr d => uptoBulk d + 1
  | .slice elems spare => uptoBulkAll elems + uptoBulkAll spare + 1
  | .agg parts => uptoBulkAll parts + 1
  | .iface _ d => uptoBulk d + 1
  | .map entries => uptoBulkEntries entries + 1
  | .held _ => 1
def uptoBulkAll {H : Type} : List (DataW H) → Nat
  | [] => 0
  | d :: r => uptoBulk d + uptoBulkAll r
def uptoBulkEntries {H : Type} : List (Lit × DataW H) → Nat
  | [] => 0
  | x :: r => uptoBulkEntry x + uptoBulkEntries r
def uptoBulkEntry {H : Type} : Lit × DataW H → Nat
  | (.string bytes, d) => bytes.length + uptoBulk d + 1
  | (_, d) => uptoBulk d + 1
 end
def uptoSmall : (H : Type) → List (DataW H) → Bool := fun _ ds => decide (uptoBulkAll ds ≤ 1048576)
def OpenSpec.upto (s : _root_.Go.ChangeSpec) : _root_.Go.OpenSpec := { _root_.Go.OpenSpec.ofChange s with cond := some uptoSmall }

/-- 'astragallaw06.NullSplits', WHERE WHAT IT READS IS OF BULK AT MOST 1048576: true; the input reads as it did. -/
def nullSplitsUptoRow : OpenClaim := { program := "ytbgofbajihdjdaa", sum := "014706ef1e4c0ccc1533113648bc848cfc30e9f4a993eaae7a479a152bb50f86", func := "astragal/astragallaw06.NullSplits", spec := "nullSplits", unfollowed := true, recurses := true, apart := false, narrowed := true }
def NullSplitsUptoSaid : Prop := nullSplitsUptoRow.holds Try.pinned (OpenSpec.upto nullSplitsSpec)

/-- 'astragallaw06.NullBytes', WHERE WHAT IT READS IS OF BULK AT MOST 1048576: true; the input reads as it did. -/
def nullBytesUptoRow : OpenClaim := { program := "ytbgofbajihdjdaa", sum := "014706ef1e4c0ccc1533113648bc848cfc30e9f4a993eaae7a479a152bb50f86", func := "astragal/astragallaw06.NullBytes", spec := "nullBytes", unfollowed := true, recurses := true, apart := false, narrowed := true }
def NullBytesUptoSaid : Prop := nullBytesUptoRow.holds Try.pinned (OpenSpec.upto nullBytesSpec)

/-- 'astragallaw06.NullBack', WHERE WHAT IT READS IS OF BULK AT MOST 1048576: true; the input reads as it did. -/
def nullBackUptoRow : OpenClaim := { program := "ytbgofbajihdjdaa", sum := "014706ef1e4c0ccc1533113648bc848cfc30e9f4a993eaae7a479a152bb50f86", func := "astragal/astragallaw06.NullBack", spec := "nullBack", unfollowed := true, recurses := true, apart := false, narrowed := true }
def NullBackUptoSaid : Prop := nullBackUptoRow.holds Try.pinned (OpenSpec.upto nullBackSpec)

/-- 'astragallaw06.NullMore', WHERE WHAT IT READS IS OF BULK AT MOST 1048576: true; the input reads as it did. -/
def nullMoreUptoRow : OpenClaim := { program := "ytbgofbajihdjdaa", sum := "014706ef1e4c0ccc1533113648bc848cfc30e9f4a993eaae7a479a152bb50f86", func := "astragal/astragallaw06.NullMore", spec := "nullMore", unfollowed := true, recurses := true, apart := false, narrowed := true }
def NullMoreUptoSaid : Prop := nullMoreUptoRow.holds Try.pinned (OpenSpec.upto nullMoreSpec)

/-- 'astragallaw06.NullCounts', WHERE WHAT IT READS IS OF BULK AT MOST 1048576: true; the input reads as it did. -/
def nullCountsUptoRow : OpenClaim := { program := "ytbgofbajihdjdaa", sum := "014706ef1e4c0ccc1533113648bc848cfc30e9f4a993eaae7a479a152bb50f86", func := "astragal/astragallaw06.NullCounts", spec := "nullCounts", unfollowed := true, recurses := true, apart := false, narrowed := true }
def NullCountsUptoSaid : Prop := nullCountsUptoRow.holds Try.pinned (OpenSpec.upto nullCountsSpec)

/-- 'astragallaw06.NullBits', WHERE WHAT IT READS IS OF BULK AT MOST 1048576: true; the input reads as it did. -/
def nullBitsUptoRow : OpenClaim := { program := "ytbgofbajihdjdaa", sum := "014706ef1e4c0ccc1533113648bc848cfc30e9f4a993eaae7a479a152bb50f86", func := "astragal/astragallaw06.NullBits", spec := "nullBits", unfollowed := true, recurses := true, apart := false, narrowed := true }
def NullBitsUptoSaid : Prop := nullBitsUptoRow.holds Try.pinned (OpenSpec.upto nullBitsSpec)

end Rows
end Go.Proofs.Ytbgofbajihdjdaa

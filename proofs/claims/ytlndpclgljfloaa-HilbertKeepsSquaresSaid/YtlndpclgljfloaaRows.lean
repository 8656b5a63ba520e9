/-
  No cell of these rows narrows 'for every input' (looked for: loops, veiled, ifaces, maps, wideKeys, modest, calm, conditions, laid).
  DERIVED. THE GIVEN ROWS OF THIS SEAT. 7 by the template 'for every input the law returns true; each argument reads behind the call as it read before'; 0 by the template 'total and deterministic' (their statements: YtlndpclgljfloaaTotals.lean).
  GIVEN WITH THE SEED: the statements are not yours to turn. If you find one false, say at which input.
  Laid BY PROGRAM, IN A SANDBOX (cutbox-rows.mjs): the forced cells as the released guide's own fill.sh prints them over the translation 3e5dcd29a216bb6d… (all of the seat's roots in one cut). By AI agents, Wed Nov 11 2026. No macro, syntax, notation, axiom, sorry.
-/
import Derived.Test.YtlndpclgljfloaaChecked
import GoSem.Claim
import GoSem.ClaimJoined
import GoSem.ClaimMapViews
import Derived.JoinedTies
import Derived.KernelRfl
namespace Go.Proofs.Ytlndpclgljfloaa
/- THE CELL 'sum', in the pinned program and in every row, IS THE sha256 OF THE DUMP (.gsa) THAT YtlndpclgljfloaaProg.lean LOADS. Nothing in Lean hashes anything: it is a label: what it is worth is what the hold of that sum in a sandbox is worth. -/
noncomputable def Try.pinned : Pinned := { name := "ytlndpclgljfloaa", sum := "3e5dcd29a216bb6d42cf613ac1adbe00493d754377ac98aa7a152984b796b9d5", checked := Try.checked }
namespace Rows
def none {H : Type} : Left H := { results := [], args := [] }

/-- 'fenlandlaw12.HilbertMatchesReference': WHATEVER THE INPUT: true; the input reads as it did. -/
def hilbertMatchesReferenceSpec : ChangeSpec := { name := "hilbertMatchesReference", fn := fun _ => fun
  | [d1, d2, d3] => { results := [.lit (.bool true)], args := [d1, d2, d3] }
  | _ => none }
def hilbertMatchesReferenceRow : OpenClaim := { program := "ytlndpclgljfloaa", sum := "3e5dcd29a216bb6d42cf613ac1adbe00493d754377ac98aa7a152984b796b9d5", func := "fenland/fenlandlaw12.HilbertMatchesReference", spec := "hilbertMatchesReference", unfollowed := true, recurses := true, named := ["math/bits.divideError", "math/bits.overflowError"], apart := false }
def HilbertMatchesReferenceSaid : Prop := hilbertMatchesReferenceRow.holds Try.pinned (OpenSpec.ofChange hilbertMatchesReferenceSpec)

/-- ITS FALSE NEIGHBOUR: 'it returns false'. Refute it at one input. -/
def hilbertMatchesReferenceWrong : ChangeSpec := { name := "hilbertMatchesReference", fn := fun _ => fun
  | [d1, d2, d3] => { results := [.lit (.bool false)], args := [d1, d2, d3] }
  | _ => none }
def HilbertMatchesReferenceWrongFalsely : Prop := hilbertMatchesReferenceRow.holds Try.pinned (OpenSpec.ofChange hilbertMatchesReferenceWrong)

/-- 'fenlandlaw12.HilbertIsBijective': WHATEVER THE INPUT: true; the input reads as it did. -/
def hilbertIsBijectiveSpec : ChangeSpec := { name := "hilbertIsBijective", fn := fun _ => fun
  | [d1, d2, d3] => { results := [.lit (.bool true)], args := [d1, d2, d3] }
  | _ => none }
def hilbertIsBijectiveRow : OpenClaim := { program := "ytlndpclgljfloaa", sum := "3e5dcd29a216bb6d42cf613ac1adbe00493d754377ac98aa7a152984b796b9d5", func := "fenland/fenlandlaw12.HilbertIsBijective", spec := "hilbertIsBijective", unfollowed := true, recurses := true, named := ["math/bits.divideError", "math/bits.overflowError"], apart := false }
def HilbertIsBijectiveSaid : Prop := hilbertIsBijectiveRow.holds Try.pinned (OpenSpec.ofChange hilbertIsBijectiveSpec)

/-- ITS FALSE NEIGHBOUR: 'it returns false'. Refute it at one input. -/
def hilbertIsBijectiveWrong : ChangeSpec := { name := "hilbertIsBijective", fn := fun _ => fun
  | [d1, d2, d3] => { results := [.lit (.bool false)], args := [d1, d2, d3] }
  | _ => none }
def HilbertIsBijectiveWrongFalsely : Prop := hilbertIsBijectiveRow.holds Try.pinned (OpenSpec.ofChange hilbertIsBijectiveWrong)

/-- 'fenlandlaw12.HilbertIsContinuous': WHATEVER THE INPUT: true; the input reads as it did. -/
def hilbertIsContinuousSpec : ChangeSpec := { name := "hilbertIsContinuous", fn := fun _ => fun
  | [d1, d2] => { results := [.lit (.bool true)], args := [d1, d2] }
  | _ => none }
def hilbertIsContinuousRow : OpenClaim := { program := "ytlndpclgljfloaa", sum := "3e5dcd29a216bb6d42cf613ac1adbe00493d754377ac98aa7a152984b796b9d5", func := "fenland/fenlandlaw12.HilbertIsContinuous", spec := "hilbertIsContinuous", unfollowed := true, recurses := true, named := ["math/bits.divideError", "math/bits.overflowError"], apart := false }
def HilbertIsContinuousSaid : Prop := hilbertIsContinuousRow.holds Try.pinned (OpenSpec.ofChange hilbertIsContinuousSpec)

/-- ITS FALSE NEIGHBOUR: 'it returns false'. Refute it at one input. -/
def hilbertIsContinuousWrong : ChangeSpec := { name := "hilbertIsContinuous", fn := fun _ => fun
  | [d1, d2] => { results := [.lit (.bool false)], args := [d1, d2] }
  | _ => none }
def HilbertIsContinuousWrongFalsely : Prop := hilbertIsContinuousRow.holds Try.pinned (OpenSpec.ofChange hilbertIsContinuousWrong)

/-- 'fenlandlaw12.HilbertKeepsSquares': WHATEVER THE INPUT: true; the input reads as it did. -/
def hilbertKeepsSquaresSpec : ChangeSpec := { name := "hilbertKeepsSquares", fn := fun _ => fun
  | [d1, d2, d3] => { results := [.lit (.bool true)], args := [d1, d2, d3] }
  | _ => none }
def hilbertKeepsSquaresRow : OpenClaim := { program := "ytlndpclgljfloaa", sum := "3e5dcd29a216bb6d42cf613ac1adbe00493d754377ac98aa7a152984b796b9d5", func := "fenland/fenlandlaw12.HilbertKeepsSquares", spec := "hilbertKeepsSquares", unfollowed := true, recurses := true, named := ["math/bits.divideError", "math/bits.overflowError"], apart := false }
def HilbertKeepsSquaresSaid : Prop := hilbertKeepsSquaresRow.holds Try.pinned (OpenSpec.ofChange hilbertKeepsSquaresSpec)

/-- ITS FALSE NEIGHBOUR: 'it returns false'. Refute it at one input. -/
def hilbertKeepsSquaresWrong : ChangeSpec := { name := "hilbertKeepsSquares", fn := fun _ => fun
  | [d1, d2, d3] => { results := [.lit (.bool false)], args := [d1, d2, d3] }
  | _ => none }
def HilbertKeepsSquaresWrongFalsely : Prop := hilbertKeepsSquaresRow.holds Try.pinned (OpenSpec.ofChange hilbertKeepsSquaresWrong)

/-- 'fenlandlaw12.HilbertScales': WHATEVER THE INPUT: true; the input reads as it did. -/
def hilbertScalesSpec : ChangeSpec := { name := "hilbertScales", fn := fun _ => fun
  | [d1, d2] => { results := [.lit (.bool true)], args := [d1, d2] }
  | _ => none }
def hilbertScalesRow : OpenClaim := { program := "ytlndpclgljfloaa", sum := "3e5dcd29a216bb6d42cf613ac1adbe00493d754377ac98aa7a152984b796b9d5", func := "fenland/fenlandlaw12.HilbertScales", spec := "hilbertScales", unfollowed := true, recurses := true, named := ["math/bits.divideError", "math/bits.overflowError"], apart := false }
def HilbertScalesSaid : Prop := hilbertScalesRow.holds Try.pinned (OpenSpec.ofChange hilbertScalesSpec)

/-- ITS FALSE NEIGHBOUR: 'it returns false'. Refute it at one input. -/
def hilbertScalesWrong : ChangeSpec := { name := "hilbertScales", fn := fun _ => fun
  | [d1, d2] => { results := [.lit (.bool false)], args := [d1, d2] }
  | _ => none }
def HilbertScalesWrongFalsely : Prop := hilbertScalesRow.holds Try.pinned (OpenSpec.ofChange hilbertScalesWrong)

/-- 'fenlandlaw12.HilbertOrders': WHATEVER THE INPUT: true; the input reads as it did. -/
def hilbertOrdersSpec : ChangeSpec := { name := "hilbertOrders", fn := fun _ => fun
  | [d1, d2, d3] => { results := [.lit (.bool true)], args := [d1, d2, d3] }
  | _ => none }
def hilbertOrdersRow : OpenClaim := { program := "ytlndpclgljfloaa", sum := "3e5dcd29a216bb6d42cf613ac1adbe00493d754377ac98aa7a152984b796b9d5", func := "fenland/fenlandlaw12.HilbertOrders", spec := "hilbertOrders", unfollowed := true, recurses := true, named := ["math/bits.divideError", "math/bits.overflowError"], apart := false }
def HilbertOrdersSaid : Prop := hilbertOrdersRow.holds Try.pinned (OpenSpec.ofChange hilbertOrdersSpec)

/-- ITS FALSE NEIGHBOUR: 'it returns false'. Refute it at one input. -/
def hilbertOrdersWrong : ChangeSpec := { name := "hilbertOrders", fn := fun _ => fun
  | [d1, d2, d3] => { results := [.lit (.bool false)], args := [d1, d2, d3] }
  | _ => none }
def HilbertOrdersWrongFalsely : Prop := hilbertOrdersRow.holds Try.pinned (OpenSpec.ofChange hilbertOrdersWrong)

/-- 'fenlandlaw12.HilbertCovers': WHATEVER THE INPUT: true; the input reads as it did. -/
def hilbertCoversSpec : ChangeSpec := { name := "hilbertCovers", fn := fun _ => fun
  | [d1, d2, d3] => { results := [.lit (.bool true)], args := [d1, d2, d3] }
  | _ => none }
def hilbertCoversRow : OpenClaim := { program := "ytlndpclgljfloaa", sum := "3e5dcd29a216bb6d42cf613ac1adbe00493d754377ac98aa7a152984b796b9d5", func := "fenland/fenlandlaw12.HilbertCovers", spec := "hilbertCovers", unfollowed := true, recurses := true, named := ["math/bits.divideError", "math/bits.overflowError"], apart := false }
def HilbertCoversSaid : Prop := hilbertCoversRow.holds Try.pinned (OpenSpec.ofChange hilbertCoversSpec)

/-- ITS FALSE NEIGHBOUR: 'it returns false'. Refute it at one input. -/
def hilbertCoversWrong : ChangeSpec := { name := "hilbertCovers", fn := fun _ => fun
  | [d1, d2, d3] => { results := [.lit (.bool false)], args := [d1, d2, d3] }
  | _ => none }
def HilbertCoversWrongFalsely : Prop := hilbertCoversRow.holds Try.pinned (OpenSpec.ofChange hilbertCoversWrong)

/- THE SECOND FORM. 'bulk': how many values and letters a reading holds, each counted each time it is reached (what is shared counts as often as it is met; a slice's spare places count too). A statement '..UptoSaid' is the law's where the arguments, and the package variables that the reading takes, are together of bulk at most 1048576: NARROWER than '..Said'. Prove '..Said' where nothing that the law and all that it calls make is longer than what came in: it says more and counts as full. Else prove '..UptoSaid'. A law counts once. -/
mutual
def uptoBulk {H : Type} : DataW H → Nat
  | .lit (.string bytes) => bytes.length + 1
  | .lit _ => 1
  | .nil => 1
  | .ptr d => uptoBulk d + 1
  | .slice elems spare => uptoBulkAll elems + uptoBulkAll spare + 1
  | .agg parts => uptoBulkAll parts + 1
  | .iface _ d => uptoBulk d + 1
  | .map entries => uptoBulkEntries entries + 1
  | .held _ => 1
def uptoBulkAll {H : Type} : List (DataW H) → Nat
  | [] => 0
  | d :: r => uptoBulk d + uptoBulkAll r
def uptoBulkEntries {H : Type} : List (Lit × DataW H) → Nat
  | [] => 0
  | x :: r => uptoBulkEntry x + uptoBulkEntries r
def uptoBulkEntry {H : Type} : Lit × DataW H → Nat
  | (.string bytes, d) => bytes.length + uptoBulk d + 1
  | (_, d) => uptoBulk d + 1
 end
def uptoSmall : (H : Type) → List (DataW H) → Bool := fun _ ds => decide (uptoBulkAll ds ≤ 1048576)
def OpenSpec.upto (s : _root_.Go.ChangeSpec) : _root_.Go.OpenSpec := { _root_.Go.OpenSpec.ofChange s with cond := some uptoSmall }

/-- 'fenlandlaw12.HilbertMatchesReference', WHERE WHAT IT READS IS OF BULK AT MOST 1048576: true; the input reads as it did. -/
def hilbertMatchesReferenceUptoRow : OpenClaim := { program := "ytlndpclgljfloaa", sum := "3e5dcd29a216bb6d42cf613ac1adbe00493d754377ac98aa7a152984b796b9d5", func := "fenland/fenlandlaw12.HilbertMatchesReference", spec := "hilbertMatchesReference", unfollowed := true, recurses := true, named := ["math/bits.divideError", "math/bits.overflowError"], apart := false, narrowed := true }
def HilbertMatchesReferenceUptoSaid : Prop := hilbertMatchesReferenceUptoRow.holds Try.pinned (OpenSpec.upto hilbertMatchesReferenceSpec)

/-- 'fenlandlaw12.HilbertIsBijective', WHERE WHAT IT READS IS OF BULK AT MOST 1048576: true; the input reads as it did. -/
def hilbertIsBijectiveUptoRow : OpenClaim := { program := "ytlndpclgljfloaa", sum := "3e5dcd29a216bb6d42cf613ac1adbe00493d754377ac98aa7a152984b796b9d5", func := "fenland/fenlandlaw12.HilbertIsBijective", spec := "hilbertIsBijective", unfollowed := true, recurses := true, named := ["math/bits.divideError", "math/bits.overflowError"], apart := false, narrowed := true }
def HilbertIsBijectiveUptoSaid : Prop := hilbertIsBijectiveUptoRow.holds Try.pinned (OpenSpec.upto hilbertIsBijectiveSpec)

/-- 'fenlandlaw12.HilbertIsContinuous', WHERE WHAT IT READS IS OF BULK AT MOST 1048576: true; the input reads as it did. -/
def hilbertIsContinuousUptoRow : OpenClaim := { program := "ytlndpclgljfloaa", sum := "3e5dcd29a216bb6d42cf613ac1adbe00493d754377ac98aa7a152984b796b9d5", func := "fenland/fenlandlaw12.HilbertIsContinuous", spec := "hilbertIsContinuous", unfollowed := true, recurses := true, named := ["math/bits.divideError", "math/bits.overflowError"], apart := false, narrowed := true }
def HilbertIsContinuousUptoSaid : Prop := hilbertIsContinuousUptoRow.holds Try.pinned (OpenSpec.upto hilbertIsContinuousSpec)

/-- 'fenlandlaw12.HilbertKeepsSquares', WHERE WHAT IT READS IS OF BULK AT MOST 1048576: true; the input reads as it did. -/
def hilbertKeepsSquaresUptoRow : OpenClaim := { program := "ytlndpclgljfloaa", sum := "3e5dcd29a216bb6d42cf613ac1adbe00493d754377ac98aa7a152984b796b9d5", func := "fenland/fenlandlaw12.HilbertKeepsSquares", spec := "hilbertKeepsSquares", unfollowed := true, recurses := true, named := ["math/bits.divideError", "math/bits.overflowError"], apart := false, narrowed := true }
def HilbertKeepsSquaresUptoSaid : Prop := hilbertKeepsSquaresUptoRow.holds Try.pinned (OpenSpec.upto hilbertKeepsSquaresSpec)

/-- 'fenlandlaw12.HilbertScales', WHERE WHAT IT READS IS OF BULK AT MOST 1048576: true; the input reads as it did. -/
def hilbertScalesUptoRow : OpenClaim := { program := "ytlndpclgljfloaa", sum := "3e5dcd29a216bb6d42cf613ac1adbe00493d754377ac98aa7a152984b796b9d5", func := "fenland/fenlandlaw12.HilbertScales", spec := "hilbertScales", unfollowed := true, recurses := true, named := ["math/bits.divideError", "math/bits.overflowError"], apart := false, narrowed := true }
def HilbertScalesUptoSaid : Prop := hilbertScalesUptoRow.holds Try.pinned (OpenSpec.upto hilbertScalesSpec)

/-- 'fenlandlaw12.HilbertOrders', WHERE WHAT IT READS IS OF BULK AT MOST 1048576: true; the input reads as it did. -/
def hilbertOrdersUptoRow : OpenClaim := { program := "ytlndpclgljfloaa", sum := "3e5dcd29a216bb6d42cf613ac1adbe00493d754377ac98aa7a152984b796b9d5", func := "fenland/fenlandlaw12.HilbertOrders", spec := "hilbertOrders", unfollowed := true, recurses := true, named := ["math/bits.divideError", "math/bits.overflowError"], apart := false, narrowed := true }
def HilbertOrdersUptoSaid : Prop := hilbertOrdersUptoRow.holds Try.pinned (OpenSpec.upto hilbertOrdersSpec)

/-- 'fenlandlaw12.HilbertCovers', WHERE WHAT IT READS IS OF BULK AT MOST 1048576: true; the input reads as it did. -/
def hilbertCoversUptoRow : OpenClaim := { program := "ytlndpclgljfloaa", sum := "3e5dcd29a216bb6d42cf613ac1adbe00493d754377ac98aa7a152984b796b9d5", func := "fenland/fenlandlaw12.HilbertCovers", spec := "hilbertCovers", unfollowed := true, recurses := true, named := ["math/bits.divideError", "math/bits.overflowError"], apart := false, narrowed := true }
def HilbertCoversUptoSaid : Prop := hilbertCoversUptoRow.holds Try.pinned (OpenSpec.upto hilbertCoversSpec)

end Rows
end Go.Proofs.Ytlndpclgljfloaa

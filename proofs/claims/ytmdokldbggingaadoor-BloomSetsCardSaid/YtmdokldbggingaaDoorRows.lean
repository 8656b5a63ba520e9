/-
  NARROWER THAN 'FOR EVERY INPUT', by the rows' own cells (each row's printed sentence says how): BloomMatchesReference: laid · BloomNoFalseNegatives: laid · BloomSets: laid · BloomFolds: laid · BloomGrows: laid.
  DERIVED. THE GIVEN ROWS OF THIS SEAT. 5 by the template 'for every input the law returns true; each argument reads behind the call as it read before'; 0 by the template 'total and deterministic' (their statements: YtmdokldbggingaaDoorTotals.lean).
  GIVEN WITH THE SEED: the statements are not yours to turn. If you find one false, say at which input.
  Laid BY PROGRAM, IN A SANDBOX (cutbox-rows.mjs): the forced cells as the released guide's own fill.sh prints them over the translation e8e009416a0bce19… (all of the seat's roots in one cut). By AI agents, Wed Nov 11 2026. No macro, syntax, notation, axiom, sorry.
-/
import Derived.Test.YtmdokldbggingaaDoorChecked
import GoSem.Claim
import GoSem.ClaimJoined
import GoSem.ClaimMapViews
import Derived.JoinedTies
import Derived.KernelRfl
namespace Go.Proofs.YtmdokldbggingaaDoor
/- THE CELL 'sum', in the pinned program and in every row, IS THE sha256 OF THE DUMP (.gsa) THAT YtmdokldbggingaaDoorProg.lean LOADS. Nothing in Lean hashes anything: it is a label: what it is worth is what the hold of that sum in a sandbox is worth. -/
noncomputable def Tryd.pinned : Pinned := { name := "ytmdokldbggingaadoor", sum := "e8e009416a0bce198e0e89e3f95d1086f61d072c15a18945cf37ef953c9cf1fa", checked := Tryd.checked }
namespace Rows
def none {H : Type} : Left H := { results := [], args := [] }

/- WHAT THE LISTED PACKAGE-LEVEL VARIABLES READ AS WHEN THE CALL BEGINS. Each datum BY PROGRAM (the guide's laid-datum.mjs) off the statement by which the dump's own 'gosem.cut.vars' lays the variable. In a bare row this is a premise. The card (YtmdokldbggingaaDoorCards.lean) ties it to the program's text. -/
def laid_fenland_blake_iv {H : Type} : DataW H := .agg [.lit (.int .u32 1779033703), .lit (.int .u32 3144134277), .lit (.int .u32 1013904242), .lit (.int .u32 2773480762), .lit (.int .u32 1359893119), .lit (.int .u32 2600822924), .lit (.int .u32 528734635), .lit (.int .u32 1541459225)]
def laid_fenland_blake_order {H : Type} : DataW H := .agg [.agg [.lit (.int .u8 0), .lit (.int .u8 1), .lit (.int .u8 2), .lit (.int .u8 3), .lit (.int .u8 4), .lit (.int .u8 5), .lit (.int .u8 6), .lit (.int .u8 7), .lit (.int .u8 8), .lit (.int .u8 9), .lit (.int .u8 10), .lit (.int .u8 11), .lit (.int .u8 12), .lit (.int .u8 13), .lit (.int .u8 14), .lit (.int .u8 15)], .agg [.lit (.int .u8 14), .lit (.int .u8 10), .lit (.int .u8 4), .lit (.int .u8 8), .lit (.int .u8 9), .lit (.int .u8 15), .lit (.int .u8 13), .lit (.int .u8 6), .lit (.int .u8 1), .lit (.int .u8 12), .lit (.int .u8 0), .lit (.int .u8 2), .lit (.int .u8 11), .lit (.int .u8 7), .lit (.int .u8 5), .lit (.int .u8 3)], .agg [.lit (.int .u8 11), .lit (.int .u8 8), .lit (.int .u8 12), .lit (.int .u8 0), .lit (.int .u8 5), .lit (.int .u8 2), .lit (.int .u8 15), .lit (.int .u8 13), .lit (.int .u8 10), .lit (.int .u8 14), .lit (.int .u8 3), .lit (.int .u8 6), .lit (.int .u8 7), .lit (.int .u8 1), .lit (.int .u8 9), .lit (.int .u8 4)], .agg [.lit (.int .u8 7), .lit (.int .u8 9), .lit (.int .u8 3), .lit (.int .u8 1), .lit (.int .u8 13), .lit (.int .u8 12), .lit (.int .u8 11), .lit (.int .u8 14), .lit (.int .u8 2), .lit (.int .u8 6), .lit (.int .u8 5), .lit (.int .u8 10), .lit (.int .u8 4), .lit (.int .u8 0), .lit (.int .u8 15), .lit (.int .u8 8)], .agg [.lit (.int .u8 9), .lit (.int .u8 0), .lit (.int .u8 5), .lit (.int .u8 7), .lit (.int .u8 2), .lit (.int .u8 4), .lit (.int .u8 10), .lit (.int .u8 15), .lit (.int .u8 14), .lit (.int .u8 1), .lit (.int .u8 11), .lit (.int .u8 12), .lit (.int .u8 6), .lit (.int .u8 8), .lit (.int .u8 3), .lit (.int .u8 13)], .agg [.lit (.int .u8 2), .lit (.int .u8 12), .lit (.int .u8 6), .lit (.int .u8 10), .lit (.int .u8 0), .lit (.int .u8 11), .lit (.int .u8 8), .lit (.int .u8 3), .lit (.int .u8 4), .lit (.int .u8 13), .lit (.int .u8 7), .lit (.int .u8 5), .lit (.int .u8 15), .lit (.int .u8 14), .lit (.int .u8 1), .lit (.int .u8 9)], .agg [.lit (.int .u8 12), .lit (.int .u8 5), .lit (.int .u8 1), .lit (.int .u8 15), .lit (.int .u8 14), .lit (.int .u8 13), .lit (.int .u8 4), .lit (.int .u8 10), .lit (.int .u8 0), .lit (.int .u8 7), .lit (.int .u8 6), .lit (.int .u8 3), .lit (.int .u8 9), .lit (.int .u8 2), .lit (.int .u8 8), .lit (.int .u8 11)], .agg [.lit (.int .u8 13), .lit (.int .u8 11), .lit (.int .u8 7), .lit (.int .u8 14), .lit (.int .u8 12), .lit (.int .u8 1), .lit (.int .u8 3), .lit (.int .u8 9), .lit (.int .u8 5), .lit (.int .u8 0), .lit (.int .u8 15), .lit (.int .u8 4), .lit (.int .u8 8), .lit (.int .u8 6), .lit (.int .u8 2), .lit (.int .u8 10)], .agg [.lit (.int .u8 6), .lit (.int .u8 15), .lit (.int .u8 14), .lit (.int .u8 9), .lit (.int .u8 11), .lit (.int .u8 3), .lit (.int .u8 0), .lit (.int .u8 8), .lit (.int .u8 12), .lit (.int .u8 2), .lit (.int .u8 13), .lit (.int .u8 7), .lit (.int .u8 1), .lit (.int .u8 4), .lit (.int .u8 10), .lit (.int .u8 5)], .agg [.lit (.int .u8 10), .lit (.int .u8 2), .lit (.int .u8 8), .lit (.int .u8 4), .lit (.int .u8 7), .lit (.int .u8 6), .lit (.int .u8 1), .lit (.int .u8 5), .lit (.int .u8 15), .lit (.int .u8 11), .lit (.int .u8 9), .lit (.int .u8 14), .lit (.int .u8 3), .lit (.int .u8 12), .lit (.int .u8 13), .lit (.int .u8 0)]]

/-- 'fenlandlaw11.BloomMatchesReference': WHATEVER THE INPUT: true; the input reads as it did. -/
def bloomMatchesReferenceSpec : ChangeSpec := { name := "bloomMatchesReference", fn := fun _ => fun
  | [d1, d2, d3] => { results := [.lit (.bool true)], args := [d1, d2, d3] }
  | _ => none }
def bloomMatchesReferenceRow : OpenClaim := { program := "ytmdokldbggingaadoor", sum := "e8e009416a0bce198e0e89e3f95d1086f61d072c15a18945cf37ef953c9cf1fa", func := "fenland/fenlandlaw11.BloomMatchesReference", spec := "bloomMatchesReference", unfollowed := true, recurses := true, named := ["fenland/blake.iv", "fenland/blake.order"], apart := false, laid := [("fenland/blake.iv", laid_fenland_blake_iv), ("fenland/blake.order", laid_fenland_blake_order)] }
def BloomMatchesReferenceSaid : Prop := bloomMatchesReferenceRow.holds Tryd.pinned (OpenSpec.ofChange bloomMatchesReferenceSpec)

/-- ITS FALSE NEIGHBOUR: 'it returns false'. Refute it at one input. -/
def bloomMatchesReferenceWrong : ChangeSpec := { name := "bloomMatchesReference", fn := fun _ => fun
  | [d1, d2, d3] => { results := [.lit (.bool false)], args := [d1, d2, d3] }
  | _ => none }
def BloomMatchesReferenceWrongFalsely : Prop := bloomMatchesReferenceRow.holds Tryd.pinned (OpenSpec.ofChange bloomMatchesReferenceWrong)

/-- 'fenlandlaw11.BloomNoFalseNegatives': WHATEVER THE INPUT: true; the input reads as it did. -/
def bloomNoFalseNegativesSpec : ChangeSpec := { name := "bloomNoFalseNegatives", fn := fun _ => fun
  | [d1, d2, d3] => { results := [.lit (.bool true)], args := [d1, d2, d3] }
  | _ => none }
def bloomNoFalseNegativesRow : OpenClaim := { program := "ytmdokldbggingaadoor", sum := "e8e009416a0bce198e0e89e3f95d1086f61d072c15a18945cf37ef953c9cf1fa", func := "fenland/fenlandlaw11.BloomNoFalseNegatives", spec := "bloomNoFalseNegatives", unfollowed := true, recurses := true, named := ["fenland/blake.iv", "fenland/blake.order"], apart := false, laid := [("fenland/blake.iv", laid_fenland_blake_iv), ("fenland/blake.order", laid_fenland_blake_order)] }
def BloomNoFalseNegativesSaid : Prop := bloomNoFalseNegativesRow.holds Tryd.pinned (OpenSpec.ofChange bloomNoFalseNegativesSpec)

/-- ITS FALSE NEIGHBOUR: 'it returns false'. Refute it at one input. -/
def bloomNoFalseNegativesWrong : ChangeSpec := { name := "bloomNoFalseNegatives", fn := fun _ => fun
  | [d1, d2, d3] => { results := [.lit (.bool false)], args := [d1, d2, d3] }
  | _ => none }
def BloomNoFalseNegativesWrongFalsely : Prop := bloomNoFalseNegativesRow.holds Tryd.pinned (OpenSpec.ofChange bloomNoFalseNegativesWrong)

/-- 'fenlandlaw11.BloomSets': WHATEVER THE INPUT: true; the input reads as it did. -/
def bloomSetsSpec : ChangeSpec := { name := "bloomSets", fn := fun _ => fun
  | [d1, d2, d3] => { results := [.lit (.bool true)], args := [d1, d2, d3] }
  | _ => none }
def bloomSetsRow : OpenClaim := { program := "ytmdokldbggingaadoor", sum := "e8e009416a0bce198e0e89e3f95d1086f61d072c15a18945cf37ef953c9cf1fa", func := "fenland/fenlandlaw11.BloomSets", spec := "bloomSets", unfollowed := true, recurses := true, named := ["fenland/blake.iv", "fenland/blake.order"], apart := false, laid := [("fenland/blake.iv", laid_fenland_blake_iv), ("fenland/blake.order", laid_fenland_blake_order)] }
def BloomSetsSaid : Prop := bloomSetsRow.holds Tryd.pinned (OpenSpec.ofChange bloomSetsSpec)

/-- ITS FALSE NEIGHBOUR: 'it returns false'. Refute it at one input. -/
def bloomSetsWrong : ChangeSpec := { name := "bloomSets", fn := fun _ => fun
  | [d1, d2, d3] => { results := [.lit (.bool false)], args := [d1, d2, d3] }
  | _ => none }
def BloomSetsWrongFalsely : Prop := bloomSetsRow.holds Tryd.pinned (OpenSpec.ofChange bloomSetsWrong)

/-- 'fenlandlaw11.BloomFolds': WHATEVER THE INPUT: true; the input reads as it did. -/
def bloomFoldsSpec : ChangeSpec := { name := "bloomFolds", fn := fun _ => fun
  | [d1, d2] => { results := [.lit (.bool true)], args := [d1, d2] }
  | _ => none }
def bloomFoldsRow : OpenClaim := { program := "ytmdokldbggingaadoor", sum := "e8e009416a0bce198e0e89e3f95d1086f61d072c15a18945cf37ef953c9cf1fa", func := "fenland/fenlandlaw11.BloomFolds", spec := "bloomFolds", unfollowed := true, recurses := true, named := ["fenland/blake.iv", "fenland/blake.order"], apart := false, laid := [("fenland/blake.iv", laid_fenland_blake_iv), ("fenland/blake.order", laid_fenland_blake_order)] }
def BloomFoldsSaid : Prop := bloomFoldsRow.holds Tryd.pinned (OpenSpec.ofChange bloomFoldsSpec)

/-- ITS FALSE NEIGHBOUR: 'it returns false'. Refute it at one input. -/
def bloomFoldsWrong : ChangeSpec := { name := "bloomFolds", fn := fun _ => fun
  | [d1, d2] => { results := [.lit (.bool false)], args := [d1, d2] }
  | _ => none }
def BloomFoldsWrongFalsely : Prop := bloomFoldsRow.holds Tryd.pinned (OpenSpec.ofChange bloomFoldsWrong)

/-- 'fenlandlaw11.BloomGrows': WHATEVER THE INPUT: true; the input reads as it did. -/
def bloomGrowsSpec : ChangeSpec := { name := "bloomGrows", fn := fun _ => fun
  | [d1, d2] => { results := [.lit (.bool true)], args := [d1, d2] }
  | _ => none }
def bloomGrowsRow : OpenClaim := { program := "ytmdokldbggingaadoor", sum := "e8e009416a0bce198e0e89e3f95d1086f61d072c15a18945cf37ef953c9cf1fa", func := "fenland/fenlandlaw11.BloomGrows", spec := "bloomGrows", unfollowed := true, recurses := true, named := ["fenland/blake.iv", "fenland/blake.order"], apart := false, laid := [("fenland/blake.iv", laid_fenland_blake_iv), ("fenland/blake.order", laid_fenland_blake_order)] }
def BloomGrowsSaid : Prop := bloomGrowsRow.holds Tryd.pinned (OpenSpec.ofChange bloomGrowsSpec)

/-- ITS FALSE NEIGHBOUR: 'it returns false'. Refute it at one input. -/
def bloomGrowsWrong : ChangeSpec := { name := "bloomGrows", fn := fun _ => fun
  | [d1, d2] => { results := [.lit (.bool false)], args := [d1, d2] }
  | _ => none }
def BloomGrowsWrongFalsely : Prop := bloomGrowsRow.holds Tryd.pinned (OpenSpec.ofChange bloomGrowsWrong)

/- THE SECOND FORM. 'bulk': how many values and letters a reading holds, each counted each time it is reached (what is shared counts as often as it is met; a slice's spare places count too). A statement '..UptoSaid' is the law's where the arguments, and the package variables that the reading takes, are together of bulk at most 1048576: NARROWER than '..Said'. Prove '..Said' where nothing that the law and all that it calls make is longer than what came in: it says more and counts as full. Else prove '..UptoSaid'. A law counts once. -/
mutual
def uptoBulk {H : Type} : DataW H → Nat
  | .lit (.string bytes) => bytes.length + 1
  | .lit _ => 1
  | .nil => 1
  | .ptr d => uptoBulk d + 1
  | .slice elems spare => uptoBulkAll elems + uptoBulkAll spare + 1
  | .agg parts => uptoBulkAll parts + 1
  | .iface _ d => uptoBulk d + 1
  | .map entries => uptoBulkEntries entries + 1
  | .held _ => 1
def uptoBulkAll {H : Type} : List (DataW H) → Nat
  | [] => 0
  | d :: r => uptoBulk d + uptoBulkAll r
def uptoBulkEntries {H : Type} : List (Lit × DataW H) → Nat
  | [] => 0
  | x :: r => uptoBulkEntry x + uptoBulkEntries r
def uptoBulkEntry {H : Type} : Lit × DataW H → Nat
  | (.string bytes, d) => bytes.length + uptoBulk d + 1
  | (_, d) => uptoBulk d + 1
 end
def uptoSmall : (H : Type) → List (DataW H) → Bool := fun _ ds => decide (uptoBulkAll ds ≤ 1048576)
def OpenSpec.upto (s : _root_.Go.ChangeSpec) : _root_.Go.OpenSpec := { _root_.Go.OpenSpec.ofChange s with cond := some uptoSmall }

/-- 'fenlandlaw11.BloomMatchesReference', WHERE WHAT IT READS IS OF BULK AT MOST 1048576: true; the input reads as it did. -/
def bloomMatchesReferenceUptoRow : OpenClaim := { program := "ytmdokldbggingaadoor", sum := "e8e009416a0bce198e0e89e3f95d1086f61d072c15a18945cf37ef953c9cf1fa", func := "fenland/fenlandlaw11.BloomMatchesReference", spec := "bloomMatchesReference", unfollowed := true, recurses := true, named := ["fenland/blake.iv", "fenland/blake.order"], apart := false, laid := [("fenland/blake.iv", laid_fenland_blake_iv), ("fenland/blake.order", laid_fenland_blake_order)], narrowed := true }
def BloomMatchesReferenceUptoSaid : Prop := bloomMatchesReferenceUptoRow.holds Tryd.pinned (OpenSpec.upto bloomMatchesReferenceSpec)

/-- 'fenlandlaw11.BloomNoFalseNegatives', WHERE WHAT IT READS IS OF BULK AT MOST 1048576: true; the input reads as it did. -/
def bloomNoFalseNegativesUptoRow : OpenClaim := { program := "ytmdokldbggingaadoor", sum := "e8e009416a0bce198e0e89e3f95d1086f61d072c15a18945cf37ef953c9cf1fa", func := "fenland/fenlandlaw11.BloomNoFalseNegatives", spec := "bloomNoFalseNegatives", unfollowed := true, recurses := true, named := ["fenland/blake.iv", "fenland/blake.order"], apart := false, laid := [("fenland/blake.iv", laid_fenland_blake_iv), ("fenland/blake.order", laid_fenland_blake_order)], narrowed := true }
def BloomNoFalseNegativesUptoSaid : Prop := bloomNoFalseNegativesUptoRow.holds Tryd.pinned (OpenSpec.upto bloomNoFalseNegativesSpec)

/-- 'fenlandlaw11.BloomSets', WHERE WHAT IT READS IS OF BULK AT MOST 1048576: true; the input reads as it did. -/
def bloomSetsUptoRow : OpenClaim := { program := "ytmdokldbggingaadoor", sum := "e8e009416a0bce198e0e89e3f95d1086f61d072c15a18945cf37ef953c9cf1fa", func := "fenland/fenlandlaw11.BloomSets", spec := "bloomSets", unfollowed := true, recurses := true, named := ["fenland/blake.iv", "fenland/blake.order"], apart := false, laid := [("fenland/blake.iv", laid_fenland_blake_iv), ("fenland/blake.order", laid_fenland_blake_order)], narrowed := true }
def BloomSetsUptoSaid : Prop := bloomSetsUptoRow.holds Tryd.pinned (OpenSpec.upto bloomSetsSpec)

/-- 'fenlandlaw11.BloomFolds', WHERE WHAT IT READS IS OF BULK AT MOST 1048576: true; the input reads as it did. -/
def bloomFoldsUptoRow : OpenClaim := { program := "ytmdokldbggingaadoor", sum := "e8e009416a0bce198e0e89e3f95d1086f61d072c15a18945cf37ef953c9cf1fa", func := "fenland/fenlandlaw11.BloomFolds", spec := "bloomFolds", unfollowed := true, recurses := true, named := ["fenland/blake.iv", "fenland/blake.order"], apart := false, laid := [("fenland/blake.iv", laid_fenland_blake_iv), ("fenland/blake.order", laid_fenland_blake_order)], narrowed := true }
def BloomFoldsUptoSaid : Prop := bloomFoldsUptoRow.holds Tryd.pinned (OpenSpec.upto bloomFoldsSpec)

/-- 'fenlandlaw11.BloomGrows', WHERE WHAT IT READS IS OF BULK AT MOST 1048576: true; the input reads as it did. -/
def bloomGrowsUptoRow : OpenClaim := { program := "ytmdokldbggingaadoor", sum := "e8e009416a0bce198e0e89e3f95d1086f61d072c15a18945cf37ef953c9cf1fa", func := "fenland/fenlandlaw11.BloomGrows", spec := "bloomGrows", unfollowed := true, recurses := true, named := ["fenland/blake.iv", "fenland/blake.order"], apart := false, laid := [("fenland/blake.iv", laid_fenland_blake_iv), ("fenland/blake.order", laid_fenland_blake_order)], narrowed := true }
def BloomGrowsUptoSaid : Prop := bloomGrowsUptoRow.holds Tryd.pinned (OpenSpec.upto bloomGrowsSpec)

end Rows
end Go.Proofs.YtmdokldbggingaaDoor

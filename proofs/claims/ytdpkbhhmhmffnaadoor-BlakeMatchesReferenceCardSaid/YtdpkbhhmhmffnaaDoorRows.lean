/-
  NARROWER THAN 'FOR EVERY INPUT', by the rows' own cells (each row's printed sentence says how): BlakeMatchesReference: laid · BlakeKeys: laid · BlakeTrees: laid · BlakeSeparates: laid · BlakeLeavesArguments: laid.
  DERIVED. THE GIVEN ROWS OF THIS SEAT. 5 by the template 'for every input the law returns true; each argument reads behind the call as it read before'; 0 by the template 'total and deterministic' (their statements: YtdpkbhhmhmffnaaDoorTotals.lean).
  GIVEN WITH THE SEED: the statements are not yours to turn. If you find one false, say at which input.
  Laid BY PROGRAM, IN A SANDBOX (cutbox-rows.mjs): the forced cells as the released guide's own fill.sh prints them over the translation 527bfcbaaa920fc3… (all of the seat's roots in one cut). By AI agents, Wed Nov 11 2026. No macro, syntax, notation, axiom, sorry.
-/
import Derived.Test.YtdpkbhhmhmffnaaDoorChecked
import GoSem.Claim
import GoSem.ClaimJoined
import GoSem.ClaimMapViews
import Derived.JoinedTies
import Derived.KernelRfl
namespace Go.Proofs.YtdpkbhhmhmffnaaDoor
/- THE CELL 'sum', in the pinned program and in every row, IS THE sha256 OF THE DUMP (.gsa) THAT YtdpkbhhmhmffnaaDoorProg.lean LOADS. Nothing in Lean hashes anything: it is a label: what it is worth is what the hold of that sum in a sandbox is worth. -/
noncomputable def Tryd.pinned : Pinned := { name := "ytdpkbhhmhmffnaadoor", sum := "527bfcbaaa920fc34f157c684dde8a19cf0be360b9c4ee1327700e1bcbd336d3", checked := Tryd.checked }
namespace Rows
def none {H : Type} : Left H := { results := [], args := [] }

/- WHAT THE LISTED PACKAGE-LEVEL VARIABLES READ AS WHEN THE CALL BEGINS. Each datum BY PROGRAM (the guide's laid-datum.mjs) off the statement by which the dump's own 'gosem.cut.vars' lays the variable. In a bare row this is a premise. The card (YtdpkbhhmhmffnaaDoorCards.lean) ties it to the program's text. -/
def laid_fenland_blake_iv {H : Type} : DataW H := .agg [.lit (.int .u32 1779033703), .lit (.int .u32 3144134277), .lit (.int .u32 1013904242), .lit (.int .u32 2773480762), .lit (.int .u32 1359893119), .lit (.int .u32 2600822924), .lit (.int .u32 528734635), .lit (.int .u32 1541459225)]
def laid_fenland_blake_order {H : Type} : DataW H := .agg [.agg [.lit (.int .u8 0), .lit (.int .u8 1), .lit (.int .u8 2), .lit (.int .u8 3), .lit (.int .u8 4), .lit (.int .u8 5), .lit (.int .u8 6), .lit (.int .u8 7), .lit (.int .u8 8), .lit (.int .u8 9), .lit (.int .u8 10), .lit (.int .u8 11), .lit (.int .u8 12), .lit (.int .u8 13), .lit (.int .u8 14), .lit (.int .u8 15)], .agg [.lit (.int .u8 14), .lit (.int .u8 10), .lit (.int .u8 4), .lit (.int .u8 8), .lit (.int .u8 9), .lit (.int .u8 15), .lit (.int .u8 13), .lit (.int .u8 6), .lit (.int .u8 1), .lit (.int .u8 12), .lit (.int .u8 0), .lit (.int .u8 2), .lit (.int .u8 11), .lit (.int .u8 7), .lit (.int .u8 5), .lit (.int .u8 3)], .agg [.lit (.int .u8 11), .lit (.int .u8 8), .lit (.int .u8 12), .lit (.int .u8 0), .lit (.int .u8 5), .lit (.int .u8 2), .lit (.int .u8 15), .lit (.int .u8 13), .lit (.int .u8 10), .lit (.int .u8 14), .lit (.int .u8 3), .lit (.int .u8 6), .lit (.int .u8 7), .lit (.int .u8 1), .lit (.int .u8 9), .lit (.int .u8 4)], .agg [.lit (.int .u8 7), .lit (.int .u8 9), .lit (.int .u8 3), .lit (.int .u8 1), .lit (.int .u8 13), .lit (.int .u8 12), .lit (.int .u8 11), .lit (.int .u8 14), .lit (.int .u8 2), .lit (.int .u8 6), .lit (.int .u8 5), .lit (.int .u8 10), .lit (.int .u8 4), .lit (.int .u8 0), .lit (.int .u8 15), .lit (.int .u8 8)], .agg [.lit (.int .u8 9), .lit (.int .u8 0), .lit (.int .u8 5), .lit (.int .u8 7), .lit (.int .u8 2), .lit (.int .u8 4), .lit (.int .u8 10), .lit (.int .u8 15), .lit (.int .u8 14), .lit (.int .u8 1), .lit (.int .u8 11), .lit (.int .u8 12), .lit (.int .u8 6), .lit (.int .u8 8), .lit (.int .u8 3), .lit (.int .u8 13)], .agg [.lit (.int .u8 2), .lit (.int .u8 12), .lit (.int .u8 6), .lit (.int .u8 10), .lit (.int .u8 0), .lit (.int .u8 11), .lit (.int .u8 8), .lit (.int .u8 3), .lit (.int .u8 4), .lit (.int .u8 13), .lit (.int .u8 7), .lit (.int .u8 5), .lit (.int .u8 15), .lit (.int .u8 14), .lit (.int .u8 1), .lit (.int .u8 9)], .agg [.lit (.int .u8 12), .lit (.int .u8 5), .lit (.int .u8 1), .lit (.int .u8 15), .lit (.int .u8 14), .lit (.int .u8 13), .lit (.int .u8 4), .lit (.int .u8 10), .lit (.int .u8 0), .lit (.int .u8 7), .lit (.int .u8 6), .lit (.int .u8 3), .lit (.int .u8 9), .lit (.int .u8 2), .lit (.int .u8 8), .lit (.int .u8 11)], .agg [.lit (.int .u8 13), .lit (.int .u8 11), .lit (.int .u8 7), .lit (.int .u8 14), .lit (.int .u8 12), .lit (.int .u8 1), .lit (.int .u8 3), .lit (.int .u8 9), .lit (.int .u8 5), .lit (.int .u8 0), .lit (.int .u8 15), .lit (.int .u8 4), .lit (.int .u8 8), .lit (.int .u8 6), .lit (.int .u8 2), .lit (.int .u8 10)], .agg [.lit (.int .u8 6), .lit (.int .u8 15), .lit (.int .u8 14), .lit (.int .u8 9), .lit (.int .u8 11), .lit (.int .u8 3), .lit (.int .u8 0), .lit (.int .u8 8), .lit (.int .u8 12), .lit (.int .u8 2), .lit (.int .u8 13), .lit (.int .u8 7), .lit (.int .u8 1), .lit (.int .u8 4), .lit (.int .u8 10), .lit (.int .u8 5)], .agg [.lit (.int .u8 10), .lit (.int .u8 2), .lit (.int .u8 8), .lit (.int .u8 4), .lit (.int .u8 7), .lit (.int .u8 6), .lit (.int .u8 1), .lit (.int .u8 5), .lit (.int .u8 15), .lit (.int .u8 11), .lit (.int .u8 9), .lit (.int .u8 14), .lit (.int .u8 3), .lit (.int .u8 12), .lit (.int .u8 13), .lit (.int .u8 0)]]

/-- 'fenlandlaw02.BlakeMatchesReference': WHATEVER THE INPUT: true; the input reads as it did. -/
def blakeMatchesReferenceSpec : ChangeSpec := { name := "blakeMatchesReference", fn := fun _ => fun
  | [d1, d2, d3] => { results := [.lit (.bool true)], args := [d1, d2, d3] }
  | _ => none }
def blakeMatchesReferenceRow : OpenClaim := { program := "ytdpkbhhmhmffnaadoor", sum := "527bfcbaaa920fc34f157c684dde8a19cf0be360b9c4ee1327700e1bcbd336d3", func := "fenland/fenlandlaw02.BlakeMatchesReference", spec := "blakeMatchesReference", named := ["fenland/blake.iv", "fenland/blake.order"], apart := false, laid := [("fenland/blake.iv", laid_fenland_blake_iv), ("fenland/blake.order", laid_fenland_blake_order)] }
def BlakeMatchesReferenceSaid : Prop := blakeMatchesReferenceRow.holds Tryd.pinned (OpenSpec.ofChange blakeMatchesReferenceSpec)

/-- ITS FALSE NEIGHBOUR: 'it returns false'. Refute it at one input. -/
def blakeMatchesReferenceWrong : ChangeSpec := { name := "blakeMatchesReference", fn := fun _ => fun
  | [d1, d2, d3] => { results := [.lit (.bool false)], args := [d1, d2, d3] }
  | _ => none }
def BlakeMatchesReferenceWrongFalsely : Prop := blakeMatchesReferenceRow.holds Tryd.pinned (OpenSpec.ofChange blakeMatchesReferenceWrong)

/-- 'fenlandlaw02.BlakeKeys': WHATEVER THE INPUT: true; the input reads as it did. -/
def blakeKeysSpec : ChangeSpec := { name := "blakeKeys", fn := fun _ => fun
  | [d1, d2, d3] => { results := [.lit (.bool true)], args := [d1, d2, d3] }
  | _ => none }
def blakeKeysRow : OpenClaim := { program := "ytdpkbhhmhmffnaadoor", sum := "527bfcbaaa920fc34f157c684dde8a19cf0be360b9c4ee1327700e1bcbd336d3", func := "fenland/fenlandlaw02.BlakeKeys", spec := "blakeKeys", named := ["fenland/blake.iv", "fenland/blake.order"], apart := false, laid := [("fenland/blake.iv", laid_fenland_blake_iv), ("fenland/blake.order", laid_fenland_blake_order)] }
def BlakeKeysSaid : Prop := blakeKeysRow.holds Tryd.pinned (OpenSpec.ofChange blakeKeysSpec)

/-- ITS FALSE NEIGHBOUR: 'it returns false'. Refute it at one input. -/
def blakeKeysWrong : ChangeSpec := { name := "blakeKeys", fn := fun _ => fun
  | [d1, d2, d3] => { results := [.lit (.bool false)], args := [d1, d2, d3] }
  | _ => none }
def BlakeKeysWrongFalsely : Prop := blakeKeysRow.holds Tryd.pinned (OpenSpec.ofChange blakeKeysWrong)

/-- 'fenlandlaw02.BlakeTrees': WHATEVER THE INPUT: true; the input reads as it did. -/
def blakeTreesSpec : ChangeSpec := { name := "blakeTrees", fn := fun _ => fun
  | [d1, d2, d3] => { results := [.lit (.bool true)], args := [d1, d2, d3] }
  | _ => none }
def blakeTreesRow : OpenClaim := { program := "ytdpkbhhmhmffnaadoor", sum := "527bfcbaaa920fc34f157c684dde8a19cf0be360b9c4ee1327700e1bcbd336d3", func := "fenland/fenlandlaw02.BlakeTrees", spec := "blakeTrees", named := ["fenland/blake.iv", "fenland/blake.order"], apart := false, laid := [("fenland/blake.iv", laid_fenland_blake_iv), ("fenland/blake.order", laid_fenland_blake_order)] }
def BlakeTreesSaid : Prop := blakeTreesRow.holds Tryd.pinned (OpenSpec.ofChange blakeTreesSpec)

/-- ITS FALSE NEIGHBOUR: 'it returns false'. Refute it at one input. -/
def blakeTreesWrong : ChangeSpec := { name := "blakeTrees", fn := fun _ => fun
  | [d1, d2, d3] => { results := [.lit (.bool false)], args := [d1, d2, d3] }
  | _ => none }
def BlakeTreesWrongFalsely : Prop := blakeTreesRow.holds Tryd.pinned (OpenSpec.ofChange blakeTreesWrong)

/-- 'fenlandlaw02.BlakeSeparates': WHATEVER THE INPUT: true; the input reads as it did. -/
def blakeSeparatesSpec : ChangeSpec := { name := "blakeSeparates", fn := fun _ => fun
  | [d1, d2, d3] => { results := [.lit (.bool true)], args := [d1, d2, d3] }
  | _ => none }
def blakeSeparatesRow : OpenClaim := { program := "ytdpkbhhmhmffnaadoor", sum := "527bfcbaaa920fc34f157c684dde8a19cf0be360b9c4ee1327700e1bcbd336d3", func := "fenland/fenlandlaw02.BlakeSeparates", spec := "blakeSeparates", named := ["fenland/blake.iv", "fenland/blake.order"], apart := false, laid := [("fenland/blake.iv", laid_fenland_blake_iv), ("fenland/blake.order", laid_fenland_blake_order)] }
def BlakeSeparatesSaid : Prop := blakeSeparatesRow.holds Tryd.pinned (OpenSpec.ofChange blakeSeparatesSpec)

/-- ITS FALSE NEIGHBOUR: 'it returns false'. Refute it at one input. -/
def blakeSeparatesWrong : ChangeSpec := { name := "blakeSeparates", fn := fun _ => fun
  | [d1, d2, d3] => { results := [.lit (.bool false)], args := [d1, d2, d3] }
  | _ => none }
def BlakeSeparatesWrongFalsely : Prop := blakeSeparatesRow.holds Tryd.pinned (OpenSpec.ofChange blakeSeparatesWrong)

/-- 'fenlandlaw02.BlakeLeavesArguments': WHATEVER THE INPUT: true; the input reads as it did. -/
def blakeLeavesArgumentsSpec : ChangeSpec := { name := "blakeLeavesArguments", fn := fun _ => fun
  | [d1, d2, d3] => { results := [.lit (.bool true)], args := [d1, d2, d3] }
  | _ => none }
def blakeLeavesArgumentsRow : OpenClaim := { program := "ytdpkbhhmhmffnaadoor", sum := "527bfcbaaa920fc34f157c684dde8a19cf0be360b9c4ee1327700e1bcbd336d3", func := "fenland/fenlandlaw02.BlakeLeavesArguments", spec := "blakeLeavesArguments", named := ["fenland/blake.iv", "fenland/blake.order"], apart := false, laid := [("fenland/blake.iv", laid_fenland_blake_iv), ("fenland/blake.order", laid_fenland_blake_order)] }
def BlakeLeavesArgumentsSaid : Prop := blakeLeavesArgumentsRow.holds Tryd.pinned (OpenSpec.ofChange blakeLeavesArgumentsSpec)

/-- ITS FALSE NEIGHBOUR: 'it returns false'. Refute it at one input. -/
def blakeLeavesArgumentsWrong : ChangeSpec := { name := "blakeLeavesArguments", fn := fun _ => fun
  | [d1, d2, d3] => { results := [.lit (.bool false)], args := [d1, d2, d3] }
  | _ => none }
def BlakeLeavesArgumentsWrongFalsely : Prop := blakeLeavesArgumentsRow.holds Tryd.pinned (OpenSpec.ofChange blakeLeavesArgumentsWrong)

/- THE SECOND FORM. 'bulk': how many values and letters a reading holds, each counted each time it is reached (what is shared counts as often as it is met; a slice's spare places count too). A statement '..UptoSaid' is the law's where the arguments, and the package variables that the reading takes, are together of bulk at most 1048576: NARROWER than '..Said'. Prove '..Said' where nothing that the law and all that it calls make is longer than what came in: it says more and counts as full. Else prove '..UptoSaid'. A law counts once. -/
mutual
def uptoBulk {H : Type} : DataW H → Nat
  | .lit (.string bytes) => bytes.length + 1
  | .lit _ => 1
  | .nil => 1
  | .ptr d => uptoBulk d + 1
  | .slice elems spare => uptoBulkAll elems + uptoBulkAll spare + 1
  | .agg parts => uptoBulkAll parts + 1
  | .iface _ d => uptoBulk d + 1
  | .map entries => uptoBulkEntries entries + 1
  | .held _ => 1
def uptoBulkAll {H : Type} : List (DataW H) → Nat
  | [] => 0
  | d :: r => uptoBulk d + uptoBulkAll r
def uptoBulkEntries {H : Type} : List (Lit × DataW H) → Nat
  | [] => 0
  | x :: r => uptoBulkEntry x + uptoBulkEntries r
def uptoBulkEntry {H : Type} : Lit × DataW H → Nat
  | (.string bytes, d) => bytes.length + uptoBulk d + 1
  | (_, d) => uptoBulk d + 1
 end
def uptoSmall : (H : Type) → List (DataW H) → Bool := fun _ ds => decide (uptoBulkAll ds ≤ 1048576)
def OpenSpec.upto (s : _root_.Go.ChangeSpec) : _root_.Go.OpenSpec := { _root_.Go.OpenSpec.ofChange s with cond := some uptoSmall }

/-- 'fenlandlaw02.BlakeMatchesReference', WHERE WHAT IT READS IS OF BULK AT MOST 1048576: true; the input reads as it did. -/
def blakeMatchesReferenceUptoRow : OpenClaim := { program := "ytdpkbhhmhmffnaadoor", sum := "527bfcbaaa920fc34f157c684dde8a19cf0be360b9c4ee1327700e1bcbd336d3", func := "fenland/fenlandlaw02.BlakeMatchesReference", spec := "blakeMatchesReference", named := ["fenland/blake.iv", "fenland/blake.order"], apart := false, laid := [("fenland/blake.iv", laid_fenland_blake_iv), ("fenland/blake.order", laid_fenland_blake_order)], narrowed := true }
def BlakeMatchesReferenceUptoSaid : Prop := blakeMatchesReferenceUptoRow.holds Tryd.pinned (OpenSpec.upto blakeMatchesReferenceSpec)

/-- 'fenlandlaw02.BlakeKeys', WHERE WHAT IT READS IS OF BULK AT MOST 1048576: true; the input reads as it did. -/
def blakeKeysUptoRow : OpenClaim := { program := "ytdpkbhhmhmffnaadoor", sum := "527bfcbaaa920fc34f157c684dde8a19cf0be360b9c4ee1327700e1bcbd336d3", func := "fenland/fenlandlaw02.BlakeKeys", spec := "blakeKeys", named := ["fenland/blake.iv", "fenland/blake.order"], apart := false, laid := [("fenland/blake.iv", laid_fenland_blake_iv), ("fenland/blake.order", laid_fenland_blake_order)], narrowed := true }
def BlakeKeysUptoSaid : Prop := blakeKeysUptoRow.holds Tryd.pinned (OpenSpec.upto blakeKeysSpec)

/-- 'fenlandlaw02.BlakeTrees', WHERE WHAT IT READS IS OF BULK AT MOST 1048576: true; the input reads as it did. -/
def blakeTreesUptoRow : OpenClaim := { program := "ytdpkbhhmhmffnaadoor", sum := "527bfcbaaa920fc34f157c684dde8a19cf0be360b9c4ee1327700e1bcbd336d3", func := "fenland/fenlandlaw02.BlakeTrees", spec := "blakeTrees", named := ["fenland/blake.iv", "fenland/blake.order"], apart := false, laid := [("fenland/blake.iv", laid_fenland_blake_iv), ("fenland/blake.order", laid_fenland_blake_order)], narrowed := true }
def BlakeTreesUptoSaid : Prop := blakeTreesUptoRow.holds Tryd.pinned (OpenSpec.upto blakeTreesSpec)

/-- 'fenlandlaw02.BlakeSeparates', WHERE WHAT IT READS IS OF BULK AT MOST 1048576: true; the input reads as it did. -/
def blakeSeparatesUptoRow : OpenClaim := { program := "ytdpkbhhmhmffnaadoor", sum := "527bfcbaaa920fc34f157c684dde8a19cf0be360b9c4ee1327700e1bcbd336d3", func := "fenland/fenlandlaw02.BlakeSeparates", spec := "blakeSeparates", named := ["fenland/blake.iv", "fenland/blake.order"], apart := false, laid := [("fenland/blake.iv", laid_fenland_blake_iv), ("fenland/blake.order", laid_fenland_blake_order)], narrowed := true }
def BlakeSeparatesUptoSaid : Prop := blakeSeparatesUptoRow.holds Tryd.pinned (OpenSpec.upto blakeSeparatesSpec)

/-- 'fenlandlaw02.BlakeLeavesArguments', WHERE WHAT IT READS IS OF BULK AT MOST 1048576: true; the input reads as it did. -/
def blakeLeavesArgumentsUptoRow : OpenClaim := { program := "ytdpkbhhmhmffnaadoor", sum := "527bfcbaaa920fc34f157c684dde8a19cf0be360b9c4ee1327700e1bcbd336d3", func := "fenland/fenlandlaw02.BlakeLeavesArguments", spec := "blakeLeavesArguments", named := ["fenland/blake.iv", "fenland/blake.order"], apart := false, laid := [("fenland/blake.iv", laid_fenland_blake_iv), ("fenland/blake.order", laid_fenland_blake_order)], narrowed := true }
def BlakeLeavesArgumentsUptoSaid : Prop := blakeLeavesArgumentsUptoRow.holds Tryd.pinned (OpenSpec.upto blakeLeavesArgumentsSpec)

end Rows
end Go.Proofs.YtdpkbhhmhmffnaaDoor

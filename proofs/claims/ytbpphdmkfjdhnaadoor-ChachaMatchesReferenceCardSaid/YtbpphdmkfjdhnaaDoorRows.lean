/-
  NARROWER THAN 'FOR EVERY INPUT', by the rows' own cells (each row's printed sentence says how): ChachaMatchesReference: laid · ChachaIsInvolution: laid · ChachaPrefixes: laid · ChachaBlocks: laid · ChachaIsLinear: laid · ChachaInvertsRounds: laid · ChachaDerives: laid.
  DERIVED. THE GIVEN ROWS OF THIS SEAT. 7 by the template 'for every input the law returns true; each argument reads behind the call as it read before'; 0 by the template 'total and deterministic' (their statements: YtbpphdmkfjdhnaaDoorTotals.lean).
  GIVEN WITH THE SEED: the statements are not yours to turn. If you find one false, say at which input.
  Laid BY PROGRAM, IN A SANDBOX (cutbox-rows.mjs): the forced cells as the released guide's own fill.sh prints them over the translation 213d4bd629e48877… (all of the seat's roots in one cut). By AI agents, Wed Nov 11 2026. No macro, syntax, notation, axiom, sorry.
-/
import Derived.Test.YtbpphdmkfjdhnaaDoorChecked
import GoSem.Claim
import GoSem.ClaimJoined
import GoSem.ClaimMapViews
import Derived.JoinedTies
import Derived.KernelRfl
namespace Go.Proofs.YtbpphdmkfjdhnaaDoor
/- THE CELL 'sum', in the pinned program and in every row, IS THE sha256 OF THE DUMP (.gsa) THAT YtbpphdmkfjdhnaaDoorProg.lean LOADS. Nothing in Lean hashes anything: it is a label: what it is worth is what the hold of that sum in a sandbox is worth. -/
noncomputable def Tryd.pinned : Pinned := { name := "ytbpphdmkfjdhnaadoor", sum := "213d4bd629e48877afd4482a71ddde1d646ecba1acd4365e59eaabc6dbe6074f", checked := Tryd.checked }
namespace Rows
def none {H : Type} : Left H := { results := [], args := [] }

/- WHAT THE LISTED PACKAGE-LEVEL VARIABLES READ AS WHEN THE CALL BEGINS. Each datum BY PROGRAM (the guide's laid-datum.mjs) off the statement by which the dump's own 'gosem.cut.vars' lays the variable. In a bare row this is a premise. The card (YtbpphdmkfjdhnaaDoorCards.lean) ties it to the program's text. -/
def laid_fenland_blake_iv {H : Type} : DataW H := .agg [.lit (.int .u32 1779033703), .lit (.int .u32 3144134277), .lit (.int .u32 1013904242), .lit (.int .u32 2773480762), .lit (.int .u32 1359893119), .lit (.int .u32 2600822924), .lit (.int .u32 528734635), .lit (.int .u32 1541459225)]
def laid_fenland_blake_order {H : Type} : DataW H := .agg [.agg [.lit (.int .u8 0), .lit (.int .u8 1), .lit (.int .u8 2), .lit (.int .u8 3), .lit (.int .u8 4), .lit (.int .u8 5), .lit (.int .u8 6), .lit (.int .u8 7), .lit (.int .u8 8), .lit (.int .u8 9), .lit (.int .u8 10), .lit (.int .u8 11), .lit (.int .u8 12), .lit (.int .u8 13), .lit (.int .u8 14), .lit (.int .u8 15)], .agg [.lit (.int .u8 14), .lit (.int .u8 10), .lit (.int .u8 4), .lit (.int .u8 8), .lit (.int .u8 9), .lit (.int .u8 15), .lit (.int .u8 13), .lit (.int .u8 6), .lit (.int .u8 1), .lit (.int .u8 12), .lit (.int .u8 0), .lit (.int .u8 2), .lit (.int .u8 11), .lit (.int .u8 7), .lit (.int .u8 5), .lit (.int .u8 3)], .agg [.lit (.int .u8 11), .lit (.int .u8 8), .lit (.int .u8 12), .lit (.int .u8 0), .lit (.int .u8 5), .lit (.int .u8 2), .lit (.int .u8 15), .lit (.int .u8 13), .lit (.int .u8 10), .lit (.int .u8 14), .lit (.int .u8 3), .lit (.int .u8 6), .lit (.int .u8 7), .lit (.int .u8 1), .lit (.int .u8 9), .lit (.int .u8 4)], .agg [.lit (.int .u8 7), .lit (.int .u8 9), .lit (.int .u8 3), .lit (.int .u8 1), .lit (.int .u8 13), .lit (.int .u8 12), .lit (.int .u8 11), .lit (.int .u8 14), .lit (.int .u8 2), .lit (.int .u8 6), .lit (.int .u8 5), .lit (.int .u8 10), .lit (.int .u8 4), .lit (.int .u8 0), .lit (.int .u8 15), .lit (.int .u8 8)], .agg [.lit (.int .u8 9), .lit (.int .u8 0), .lit (.int .u8 5), .lit (.int .u8 7), .lit (.int .u8 2), .lit (.int .u8 4), .lit (.int .u8 10), .lit (.int .u8 15), .lit (.int .u8 14), .lit (.int .u8 1), .lit (.int .u8 11), .lit (.int .u8 12), .lit (.int .u8 6), .lit (.int .u8 8), .lit (.int .u8 3), .lit (.int .u8 13)], .agg [.lit (.int .u8 2), .lit (.int .u8 12), .lit (.int .u8 6), .lit (.int .u8 10), .lit (.int .u8 0), .lit (.int .u8 11), .lit (.int .u8 8), .lit (.int .u8 3), .lit (.int .u8 4), .lit (.int .u8 13), .lit (.int .u8 7), .lit (.int .u8 5), .lit (.int .u8 15), .lit (.int .u8 14), .lit (.int .u8 1), .lit (.int .u8 9)], .agg [.lit (.int .u8 12), .lit (.int .u8 5), .lit (.int .u8 1), .lit (.int .u8 15), .lit (.int .u8 14), .lit (.int .u8 13), .lit (.int .u8 4), .lit (.int .u8 10), .lit (.int .u8 0), .lit (.int .u8 7), .lit (.int .u8 6), .lit (.int .u8 3), .lit (.int .u8 9), .lit (.int .u8 2), .lit (.int .u8 8), .lit (.int .u8 11)], .agg [.lit (.int .u8 13), .lit (.int .u8 11), .lit (.int .u8 7), .lit (.int .u8 14), .lit (.int .u8 12), .lit (.int .u8 1), .lit (.int .u8 3), .lit (.int .u8 9), .lit (.int .u8 5), .lit (.int .u8 0), .lit (.int .u8 15), .lit (.int .u8 4), .lit (.int .u8 8), .lit (.int .u8 6), .lit (.int .u8 2), .lit (.int .u8 10)], .agg [.lit (.int .u8 6), .lit (.int .u8 15), .lit (.int .u8 14), .lit (.int .u8 9), .lit (.int .u8 11), .lit (.int .u8 3), .lit (.int .u8 0), .lit (.int .u8 8), .lit (.int .u8 12), .lit (.int .u8 2), .lit (.int .u8 13), .lit (.int .u8 7), .lit (.int .u8 1), .lit (.int .u8 4), .lit (.int .u8 10), .lit (.int .u8 5)], .agg [.lit (.int .u8 10), .lit (.int .u8 2), .lit (.int .u8 8), .lit (.int .u8 4), .lit (.int .u8 7), .lit (.int .u8 6), .lit (.int .u8 1), .lit (.int .u8 5), .lit (.int .u8 15), .lit (.int .u8 11), .lit (.int .u8 9), .lit (.int .u8 14), .lit (.int .u8 3), .lit (.int .u8 12), .lit (.int .u8 13), .lit (.int .u8 0)]]
def laid_fenland_chacha_rows {H : Type} : DataW H := .agg [.agg [.lit (.int .u8 0), .lit (.int .u8 4), .lit (.int .u8 8), .lit (.int .u8 12)], .agg [.lit (.int .u8 1), .lit (.int .u8 5), .lit (.int .u8 9), .lit (.int .u8 13)], .agg [.lit (.int .u8 2), .lit (.int .u8 6), .lit (.int .u8 10), .lit (.int .u8 14)], .agg [.lit (.int .u8 3), .lit (.int .u8 7), .lit (.int .u8 11), .lit (.int .u8 15)], .agg [.lit (.int .u8 0), .lit (.int .u8 5), .lit (.int .u8 10), .lit (.int .u8 15)], .agg [.lit (.int .u8 1), .lit (.int .u8 6), .lit (.int .u8 11), .lit (.int .u8 12)], .agg [.lit (.int .u8 2), .lit (.int .u8 7), .lit (.int .u8 8), .lit (.int .u8 13)], .agg [.lit (.int .u8 3), .lit (.int .u8 4), .lit (.int .u8 9), .lit (.int .u8 14)]]

/-- 'fenlandlaw03.ChachaMatchesReference': WHATEVER THE INPUT: true; the input reads as it did. -/
def chachaMatchesReferenceSpec : ChangeSpec := { name := "chachaMatchesReference", fn := fun _ => fun
  | [d1, d2, d3] => { results := [.lit (.bool true)], args := [d1, d2, d3] }
  | _ => none }
def chachaMatchesReferenceRow : OpenClaim := { program := "ytbpphdmkfjdhnaadoor", sum := "213d4bd629e48877afd4482a71ddde1d646ecba1acd4365e59eaabc6dbe6074f", func := "fenland/fenlandlaw03.ChachaMatchesReference", spec := "chachaMatchesReference", named := ["fenland/chacha.rows", "fenland/blake.iv", "fenland/blake.order"], apart := false, laid := [("fenland/blake.iv", laid_fenland_blake_iv), ("fenland/blake.order", laid_fenland_blake_order), ("fenland/chacha.rows", laid_fenland_chacha_rows)] }
def ChachaMatchesReferenceSaid : Prop := chachaMatchesReferenceRow.holds Tryd.pinned (OpenSpec.ofChange chachaMatchesReferenceSpec)

/-- ITS FALSE NEIGHBOUR: 'it returns false'. Refute it at one input. -/
def chachaMatchesReferenceWrong : ChangeSpec := { name := "chachaMatchesReference", fn := fun _ => fun
  | [d1, d2, d3] => { results := [.lit (.bool false)], args := [d1, d2, d3] }
  | _ => none }
def ChachaMatchesReferenceWrongFalsely : Prop := chachaMatchesReferenceRow.holds Tryd.pinned (OpenSpec.ofChange chachaMatchesReferenceWrong)

/-- 'fenlandlaw03.ChachaIsInvolution': WHATEVER THE INPUT: true; the input reads as it did. -/
def chachaIsInvolutionSpec : ChangeSpec := { name := "chachaIsInvolution", fn := fun _ => fun
  | [d1, d2] => { results := [.lit (.bool true)], args := [d1, d2] }
  | _ => none }
def chachaIsInvolutionRow : OpenClaim := { program := "ytbpphdmkfjdhnaadoor", sum := "213d4bd629e48877afd4482a71ddde1d646ecba1acd4365e59eaabc6dbe6074f", func := "fenland/fenlandlaw03.ChachaIsInvolution", spec := "chachaIsInvolution", named := ["fenland/chacha.rows"], apart := false, laid := [("fenland/chacha.rows", laid_fenland_chacha_rows)] }
def ChachaIsInvolutionSaid : Prop := chachaIsInvolutionRow.holds Tryd.pinned (OpenSpec.ofChange chachaIsInvolutionSpec)

/-- ITS FALSE NEIGHBOUR: 'it returns false'. Refute it at one input. -/
def chachaIsInvolutionWrong : ChangeSpec := { name := "chachaIsInvolution", fn := fun _ => fun
  | [d1, d2] => { results := [.lit (.bool false)], args := [d1, d2] }
  | _ => none }
def ChachaIsInvolutionWrongFalsely : Prop := chachaIsInvolutionRow.holds Tryd.pinned (OpenSpec.ofChange chachaIsInvolutionWrong)

/-- 'fenlandlaw03.ChachaPrefixes': WHATEVER THE INPUT: true; the input reads as it did. -/
def chachaPrefixesSpec : ChangeSpec := { name := "chachaPrefixes", fn := fun _ => fun
  | [d1, d2, d3] => { results := [.lit (.bool true)], args := [d1, d2, d3] }
  | _ => none }
def chachaPrefixesRow : OpenClaim := { program := "ytbpphdmkfjdhnaadoor", sum := "213d4bd629e48877afd4482a71ddde1d646ecba1acd4365e59eaabc6dbe6074f", func := "fenland/fenlandlaw03.ChachaPrefixes", spec := "chachaPrefixes", named := ["fenland/chacha.rows"], apart := false, laid := [("fenland/chacha.rows", laid_fenland_chacha_rows)] }
def ChachaPrefixesSaid : Prop := chachaPrefixesRow.holds Tryd.pinned (OpenSpec.ofChange chachaPrefixesSpec)

/-- ITS FALSE NEIGHBOUR: 'it returns false'. Refute it at one input. -/
def chachaPrefixesWrong : ChangeSpec := { name := "chachaPrefixes", fn := fun _ => fun
  | [d1, d2, d3] => { results := [.lit (.bool false)], args := [d1, d2, d3] }
  | _ => none }
def ChachaPrefixesWrongFalsely : Prop := chachaPrefixesRow.holds Tryd.pinned (OpenSpec.ofChange chachaPrefixesWrong)

/-- 'fenlandlaw03.ChachaBlocks': WHATEVER THE INPUT: true; the input reads as it did. -/
def chachaBlocksSpec : ChangeSpec := { name := "chachaBlocks", fn := fun _ => fun
  | [d1, d2] => { results := [.lit (.bool true)], args := [d1, d2] }
  | _ => none }
def chachaBlocksRow : OpenClaim := { program := "ytbpphdmkfjdhnaadoor", sum := "213d4bd629e48877afd4482a71ddde1d646ecba1acd4365e59eaabc6dbe6074f", func := "fenland/fenlandlaw03.ChachaBlocks", spec := "chachaBlocks", named := ["fenland/chacha.rows"], apart := false, laid := [("fenland/chacha.rows", laid_fenland_chacha_rows)] }
def ChachaBlocksSaid : Prop := chachaBlocksRow.holds Tryd.pinned (OpenSpec.ofChange chachaBlocksSpec)

/-- ITS FALSE NEIGHBOUR: 'it returns false'. Refute it at one input. -/
def chachaBlocksWrong : ChangeSpec := { name := "chachaBlocks", fn := fun _ => fun
  | [d1, d2] => { results := [.lit (.bool false)], args := [d1, d2] }
  | _ => none }
def ChachaBlocksWrongFalsely : Prop := chachaBlocksRow.holds Tryd.pinned (OpenSpec.ofChange chachaBlocksWrong)

/-- 'fenlandlaw03.ChachaIsLinear': WHATEVER THE INPUT: true; the input reads as it did. -/
def chachaIsLinearSpec : ChangeSpec := { name := "chachaIsLinear", fn := fun _ => fun
  | [d1, d2, d3] => { results := [.lit (.bool true)], args := [d1, d2, d3] }
  | _ => none }
def chachaIsLinearRow : OpenClaim := { program := "ytbpphdmkfjdhnaadoor", sum := "213d4bd629e48877afd4482a71ddde1d646ecba1acd4365e59eaabc6dbe6074f", func := "fenland/fenlandlaw03.ChachaIsLinear", spec := "chachaIsLinear", named := ["fenland/chacha.rows"], apart := false, laid := [("fenland/chacha.rows", laid_fenland_chacha_rows)] }
def ChachaIsLinearSaid : Prop := chachaIsLinearRow.holds Tryd.pinned (OpenSpec.ofChange chachaIsLinearSpec)

/-- ITS FALSE NEIGHBOUR: 'it returns false'. Refute it at one input. -/
def chachaIsLinearWrong : ChangeSpec := { name := "chachaIsLinear", fn := fun _ => fun
  | [d1, d2, d3] => { results := [.lit (.bool false)], args := [d1, d2, d3] }
  | _ => none }
def ChachaIsLinearWrongFalsely : Prop := chachaIsLinearRow.holds Tryd.pinned (OpenSpec.ofChange chachaIsLinearWrong)

/-- 'fenlandlaw03.ChachaInvertsRounds': WHATEVER THE INPUT: true; the input reads as it did. -/
def chachaInvertsRoundsSpec : ChangeSpec := { name := "chachaInvertsRounds", fn := fun _ => fun
  | [d1, d2] => { results := [.lit (.bool true)], args := [d1, d2] }
  | _ => none }
def chachaInvertsRoundsRow : OpenClaim := { program := "ytbpphdmkfjdhnaadoor", sum := "213d4bd629e48877afd4482a71ddde1d646ecba1acd4365e59eaabc6dbe6074f", func := "fenland/fenlandlaw03.ChachaInvertsRounds", spec := "chachaInvertsRounds", named := ["fenland/chacha.rows"], apart := false, laid := [("fenland/chacha.rows", laid_fenland_chacha_rows)] }
def ChachaInvertsRoundsSaid : Prop := chachaInvertsRoundsRow.holds Tryd.pinned (OpenSpec.ofChange chachaInvertsRoundsSpec)

/-- ITS FALSE NEIGHBOUR: 'it returns false'. Refute it at one input. -/
def chachaInvertsRoundsWrong : ChangeSpec := { name := "chachaInvertsRounds", fn := fun _ => fun
  | [d1, d2] => { results := [.lit (.bool false)], args := [d1, d2] }
  | _ => none }
def ChachaInvertsRoundsWrongFalsely : Prop := chachaInvertsRoundsRow.holds Tryd.pinned (OpenSpec.ofChange chachaInvertsRoundsWrong)

/-- 'fenlandlaw03.ChachaDerives': WHATEVER THE INPUT: true; the input reads as it did. -/
def chachaDerivesSpec : ChangeSpec := { name := "chachaDerives", fn := fun _ => fun
  | [d1, d2, d3] => { results := [.lit (.bool true)], args := [d1, d2, d3] }
  | _ => none }
def chachaDerivesRow : OpenClaim := { program := "ytbpphdmkfjdhnaadoor", sum := "213d4bd629e48877afd4482a71ddde1d646ecba1acd4365e59eaabc6dbe6074f", func := "fenland/fenlandlaw03.ChachaDerives", spec := "chachaDerives", named := ["fenland/chacha.rows", "fenland/blake.iv", "fenland/blake.order"], apart := false, laid := [("fenland/blake.iv", laid_fenland_blake_iv), ("fenland/blake.order", laid_fenland_blake_order), ("fenland/chacha.rows", laid_fenland_chacha_rows)] }
def ChachaDerivesSaid : Prop := chachaDerivesRow.holds Tryd.pinned (OpenSpec.ofChange chachaDerivesSpec)

/-- ITS FALSE NEIGHBOUR: 'it returns false'. Refute it at one input. -/
def chachaDerivesWrong : ChangeSpec := { name := "chachaDerives", fn := fun _ => fun
  | [d1, d2, d3] => { results := [.lit (.bool false)], args := [d1, d2, d3] }
  | _ => none }
def ChachaDerivesWrongFalsely : Prop := chachaDerivesRow.holds Tryd.pinned (OpenSpec.ofChange chachaDerivesWrong)

/- THE SECOND FORM. 'bulk': how many values and letters a reading holds, each counted each time it is reached (what is shared counts as often as it is met; a slice's spare places count too). A statement '..UptoSaid' is the law's where the arguments, and the package variables that the reading takes, are together of bulk at most 1048576: NARROWER than '..Said'. Prove '..Said' where nothing that the law and all that it calls make is longer than what came in: it says more and counts as full. Else prove '..UptoSaid'. A law counts once. -/
mutual
def uptoBulk {H : Type} : DataW H → Nat
  | .lit (.string bytes) => bytes.length + 1
  | .lit _ => 1
  | .nil => 1
  | .ptr d => uptoBulk d + 1
  | .slice elems spare => uptoBulkAll elems + uptoBulkAll spare + 1
  | .agg parts => uptoBulkAll parts + 1
  | .iface _ d => uptoBulk d + 1
  | .map entries => uptoBulkEntries entries + 1
  | .held _ => 1
def uptoBulkAll {H : Type} : List (DataW H) → Nat
  | [] => 0
  | d :: r => uptoBulk d + uptoBulkAll r
def uptoBulkEntries {H : Type} : List (Lit × DataW H) → Nat
  | [] => 0
  | x :: r => uptoBulkEntry x + uptoBulkEntries r
def uptoBulkEntry {H : Type} : Lit × DataW H → Nat
  | (.string bytes, d) => bytes.length + uptoBulk d + 1
  | (_, d) => uptoBulk d + 1
 end
def uptoSmall : (H : Type) → List (DataW H) → Bool := fun _ ds => decide (uptoBulkAll ds ≤ 1048576)
def OpenSpec.upto (s : _root_.Go.ChangeSpec) : _root_.Go.OpenSpec := { _root_.Go.OpenSpec.ofChange s with cond := some uptoSmall }

/-- 'fenlandlaw03.ChachaMatchesReference', WHERE WHAT IT READS IS OF BULK AT MOST 1048576: true; the input reads as it did. -/
def chachaMatchesReferenceUptoRow : OpenClaim := { program := "ytbpphdmkfjdhnaadoor", sum := "213d4bd629e48877afd4482a71ddde1d646ecba1acd4365e59eaabc6dbe6074f", func := "fenland/fenlandlaw03.ChachaMatchesReference", spec := "chachaMatchesReference", named := ["fenland/chacha.rows", "fenland/blake.iv", "fenland/blake.order"], apart := false, laid := [("fenland/blake.iv", laid_fenland_blake_iv), ("fenland/blake.order", laid_fenland_blake_order), ("fenland/chacha.rows", laid_fenland_chacha_rows)], narrowed := true }
def ChachaMatchesReferenceUptoSaid : Prop := chachaMatchesReferenceUptoRow.holds Tryd.pinned (OpenSpec.upto chachaMatchesReferenceSpec)

/-- 'fenlandlaw03.ChachaIsInvolution', WHERE WHAT IT READS IS OF BULK AT MOST 1048576: true; the input reads as it did. -/
def chachaIsInvolutionUptoRow : OpenClaim := { program := "ytbpphdmkfjdhnaadoor", sum := "213d4bd629e48877afd4482a71ddde1d646ecba1acd4365e59eaabc6dbe6074f", func := "fenland/fenlandlaw03.ChachaIsInvolution", spec := "chachaIsInvolution", named := ["fenland/chacha.rows"], apart := false, laid := [("fenland/chacha.rows", laid_fenland_chacha_rows)], narrowed := true }
def ChachaIsInvolutionUptoSaid : Prop := chachaIsInvolutionUptoRow.holds Tryd.pinned (OpenSpec.upto chachaIsInvolutionSpec)

/-- 'fenlandlaw03.ChachaPrefixes', WHERE WHAT IT READS IS OF BULK AT MOST 1048576: true; the input reads as it did. -/
def chachaPrefixesUptoRow : OpenClaim := { program := "ytbpphdmkfjdhnaadoor", sum := "213d4bd629e48877afd4482a71ddde1d646ecba1acd4365e59eaabc6dbe6074f", func := "fenland/fenlandlaw03.ChachaPrefixes", spec := "chachaPrefixes", named := ["fenland/chacha.rows"], apart := false, laid := [("fenland/chacha.rows", laid_fenland_chacha_rows)], narrowed := true }
def ChachaPrefixesUptoSaid : Prop := chachaPrefixesUptoRow.holds Tryd.pinned (OpenSpec.upto chachaPrefixesSpec)

/-- 'fenlandlaw03.ChachaBlocks', WHERE WHAT IT READS IS OF BULK AT MOST 1048576: true; the input reads as it did. -/
def chachaBlocksUptoRow : OpenClaim := { program := "ytbpphdmkfjdhnaadoor", sum := "213d4bd629e48877afd4482a71ddde1d646ecba1acd4365e59eaabc6dbe6074f", func := "fenland/fenlandlaw03.ChachaBlocks", spec := "chachaBlocks", named := ["fenland/chacha.rows"], apart := false, laid := [("fenland/chacha.rows", laid_fenland_chacha_rows)], narrowed := true }
def ChachaBlocksUptoSaid : Prop := chachaBlocksUptoRow.holds Tryd.pinned (OpenSpec.upto chachaBlocksSpec)

/-- 'fenlandlaw03.ChachaIsLinear', WHERE WHAT IT READS IS OF BULK AT MOST 1048576: true; the input reads as it did. -/
def chachaIsLinearUptoRow : OpenClaim := { program := "ytbpphdmkfjdhnaadoor", sum := "213d4bd629e48877afd4482a71ddde1d646ecba1acd4365e59eaabc6dbe6074f", func := "fenland/fenlandlaw03.ChachaIsLinear", spec := "chachaIsLinear", named := ["fenland/chacha.rows"], apart := false, laid := [("fenland/chacha.rows", laid_fenland_chacha_rows)], narrowed := true }
def ChachaIsLinearUptoSaid : Prop := chachaIsLinearUptoRow.holds Tryd.pinned (OpenSpec.upto chachaIsLinearSpec)

/-- 'fenlandlaw03.ChachaInvertsRounds', WHERE WHAT IT READS IS OF BULK AT MOST 1048576: true; the input reads as it did. -/
def chachaInvertsRoundsUptoRow : OpenClaim := { program := "ytbpphdmkfjdhnaadoor", sum := "213d4bd629e48877afd4482a71ddde1d646ecba1acd4365e59eaabc6dbe6074f", func := "fenland/fenlandlaw03.ChachaInvertsRounds", spec := "chachaInvertsRounds", named := ["fenland/chacha.rows"], apart := false, laid := [("fenland/chacha.rows", laid_fenland_chacha_rows)], narrowed := true }
def ChachaInvertsRoundsUptoSaid : Prop := chachaInvertsRoundsUptoRow.holds Tryd.pinned (OpenSpec.upto chachaInvertsRoundsSpec)

/-- 'fenlandlaw03.ChachaDerives', WHERE WHAT IT READS IS OF BULK AT MOST 1048576: true; the input reads as it did. -/
def chachaDerivesUptoRow : OpenClaim := { program := "ytbpphdmkfjdhnaadoor", sum := "213d4bd629e48877afd4482a71ddde1d646ecba1acd4365e59eaabc6dbe6074f", func := "fenland/fenlandlaw03.ChachaDerives", spec := "chachaDerives", named := ["fenland/chacha.rows", "fenland/blake.iv", "fenland/blake.order"], apart := false, laid := [("fenland/blake.iv", laid_fenland_blake_iv), ("fenland/blake.order", laid_fenland_blake_order), ("fenland/chacha.rows", laid_fenland_chacha_rows)], narrowed := true }
def ChachaDerivesUptoSaid : Prop := chachaDerivesUptoRow.holds Tryd.pinned (OpenSpec.upto chachaDerivesSpec)

end Rows
end Go.Proofs.YtbpphdmkfjdhnaaDoor

/-
  No cell of these rows narrows 'for every input' (looked for: loops, veiled, ifaces, maps, wideKeys, modest, calm, conditions, laid).
  DERIVED. THE GIVEN ROWS OF THIS SEAT. 7 by the template 'for every input the law returns true; each argument reads behind the call as it read before'; 0 by the template 'total and deterministic' (their statements: YtfeemipnalgjnaaGreatTotals.lean).
  GIVEN WITH THE SEED: the statements are not yours to turn. If you find one false, say at which input.
  Laid BY PROGRAM, IN A SANDBOX (cutbox-rows.mjs): the forced cells as the released guide's own fill.sh prints them over the translation 9fd44b04a7cf41fe… (all of the seat's roots in one cut). By AI agents, Wed Nov 11 2026. No macro, syntax, notation, axiom, sorry.
-/
import Derived.Test.YtfeemipnalgjnaaGreatChecked
import GoSem.Claim
import GoSem.ClaimJoined
import GoSem.ClaimMapViews
import Derived.JoinedTies
import Derived.KernelRfl
namespace Go.Proofs.YtfeemipnalgjnaaGreat
/- THE CELL 'sum', in the pinned program and in every row, IS THE sha256 OF THE DUMP (.gsa) THAT YtfeemipnalgjnaaGreatProg.lean LOADS. Nothing in Lean hashes anything: it is a label: what it is worth is what the hold of that sum in a sandbox is worth. -/
noncomputable def Tryz.pinned : Pinned := { name := "ytfeemipnalgjnaagreat", sum := "9fd44b04a7cf41fe72042c4b6d2a0dd19c2e5b0ab1cdfa57dcea1f2f9c7b7c57", checked := Tryz.checked }
namespace Rows
def none {H : Type} : Left H := { results := [], args := [] }

/-- 'fenlandlaw07.LensMatchesReference': WHATEVER THE INPUT: true; the input reads as it did. -/
def lensMatchesReferenceSpec : ChangeSpec := { name := "lensMatchesReference", fn := fun _ => fun
  | [d1, d2] => { results := [.lit (.bool true)], args := [d1, d2] }
  | _ => none }
def lensMatchesReferenceRow : OpenClaim := { program := "ytfeemipnalgjnaagreat", sum := "9fd44b04a7cf41fe72042c4b6d2a0dd19c2e5b0ab1cdfa57dcea1f2f9c7b7c57", func := "fenland/fenlandlaw07.LensMatchesReference", spec := "lensMatchesReference", inPlace := ["internal/bytealg.IndexByteString", "internal/bytealg.IndexString"], unfollowed := true, recurses := true, named := ["internal/bytealg.MaxLen"], apart := false }
def LensMatchesReferenceSaid : Prop := lensMatchesReferenceRow.holds Tryz.pinned (OpenSpec.ofChange lensMatchesReferenceSpec)

/-- ITS FALSE NEIGHBOUR: 'it returns false'. Refute it at one input. -/
def lensMatchesReferenceWrong : ChangeSpec := { name := "lensMatchesReference", fn := fun _ => fun
  | [d1, d2] => { results := [.lit (.bool false)], args := [d1, d2] }
  | _ => none }
def LensMatchesReferenceWrongFalsely : Prop := lensMatchesReferenceRow.holds Tryz.pinned (OpenSpec.ofChange lensMatchesReferenceWrong)

/-- 'fenlandlaw07.LensTranslateMatchesReference': WHATEVER THE INPUT: true; the input reads as it did. -/
def lensTranslateMatchesReferenceSpec : ChangeSpec := { name := "lensTranslateMatchesReference", fn := fun _ => fun
  | [d1, d2, d3] => { results := [.lit (.bool true)], args := [d1, d2, d3] }
  | _ => none }
def lensTranslateMatchesReferenceRow : OpenClaim := { program := "ytfeemipnalgjnaagreat", sum := "9fd44b04a7cf41fe72042c4b6d2a0dd19c2e5b0ab1cdfa57dcea1f2f9c7b7c57", func := "fenland/fenlandlaw07.LensTranslateMatchesReference", spec := "lensTranslateMatchesReference", inPlace := ["internal/bytealg.IndexByteString", "internal/bytealg.IndexString"], unfollowed := true, recurses := true, named := ["internal/bytealg.MaxLen"], apart := false }
def LensTranslateMatchesReferenceSaid : Prop := lensTranslateMatchesReferenceRow.holds Tryz.pinned (OpenSpec.ofChange lensTranslateMatchesReferenceSpec)

/-- ITS FALSE NEIGHBOUR: 'it returns false'. Refute it at one input. -/
def lensTranslateMatchesReferenceWrong : ChangeSpec := { name := "lensTranslateMatchesReference", fn := fun _ => fun
  | [d1, d2, d3] => { results := [.lit (.bool false)], args := [d1, d2, d3] }
  | _ => none }
def LensTranslateMatchesReferenceWrongFalsely : Prop := lensTranslateMatchesReferenceRow.holds Tryz.pinned (OpenSpec.ofChange lensTranslateMatchesReferenceWrong)

/-- 'fenlandlaw07.LensFits': WHATEVER THE INPUT: true; the input reads as it did. -/
def lensFitsSpec : ChangeSpec := { name := "lensFits", fn := fun _ => fun
  | [d] => { results := [.lit (.bool true)], args := [d] }
  | _ => none }
def lensFitsRow : OpenClaim := { program := "ytfeemipnalgjnaagreat", sum := "9fd44b04a7cf41fe72042c4b6d2a0dd19c2e5b0ab1cdfa57dcea1f2f9c7b7c57", func := "fenland/fenlandlaw07.LensFits", spec := "lensFits", inPlace := ["internal/bytealg.IndexByteString", "internal/bytealg.IndexString"], unfollowed := true, recurses := true, named := ["internal/bytealg.MaxLen"], apart := false }
def LensFitsSaid : Prop := lensFitsRow.holds Tryz.pinned (OpenSpec.ofChange lensFitsSpec)

/-- ITS FALSE NEIGHBOUR: 'it returns false'. Refute it at one input. -/
def lensFitsWrong : ChangeSpec := { name := "lensFits", fn := fun _ => fun
  | [d] => { results := [.lit (.bool false)], args := [d] }
  | _ => none }
def LensFitsWrongFalsely : Prop := lensFitsRow.holds Tryz.pinned (OpenSpec.ofChange lensFitsWrong)

/-- 'fenlandlaw07.LensKeeps': WHATEVER THE INPUT: true; the input reads as it did. -/
def lensKeepsSpec : ChangeSpec := { name := "lensKeeps", fn := fun _ => fun
  | [d1, d2] => { results := [.lit (.bool true)], args := [d1, d2] }
  | _ => none }
def lensKeepsRow : OpenClaim := { program := "ytfeemipnalgjnaagreat", sum := "9fd44b04a7cf41fe72042c4b6d2a0dd19c2e5b0ab1cdfa57dcea1f2f9c7b7c57", func := "fenland/fenlandlaw07.LensKeeps", spec := "lensKeeps", inPlace := ["internal/bytealg.IndexByteString", "internal/bytealg.IndexString"], unfollowed := true, recurses := true, named := ["internal/bytealg.MaxLen"], apart := false }
def LensKeepsSaid : Prop := lensKeepsRow.holds Tryz.pinned (OpenSpec.ofChange lensKeepsSpec)

/-- ITS FALSE NEIGHBOUR: 'it returns false'. Refute it at one input. -/
def lensKeepsWrong : ChangeSpec := { name := "lensKeeps", fn := fun _ => fun
  | [d1, d2] => { results := [.lit (.bool false)], args := [d1, d2] }
  | _ => none }
def LensKeepsWrongFalsely : Prop := lensKeepsRow.holds Tryz.pinned (OpenSpec.ofChange lensKeepsWrong)

/-- 'fenlandlaw07.LensStable': WHATEVER THE INPUT: true; the input reads as it did. -/
def lensStableSpec : ChangeSpec := { name := "lensStable", fn := fun _ => fun
  | [d] => { results := [.lit (.bool true)], args := [d] }
  | _ => none }
def lensStableRow : OpenClaim := { program := "ytfeemipnalgjnaagreat", sum := "9fd44b04a7cf41fe72042c4b6d2a0dd19c2e5b0ab1cdfa57dcea1f2f9c7b7c57", func := "fenland/fenlandlaw07.LensStable", spec := "lensStable", inPlace := ["internal/bytealg.IndexByteString", "internal/bytealg.IndexString"], unfollowed := true, recurses := true, named := ["internal/bytealg.MaxLen"], apart := false }
def LensStableSaid : Prop := lensStableRow.holds Tryz.pinned (OpenSpec.ofChange lensStableSpec)

/-- ITS FALSE NEIGHBOUR: 'it returns false'. Refute it at one input. -/
def lensStableWrong : ChangeSpec := { name := "lensStable", fn := fun _ => fun
  | [d] => { results := [.lit (.bool false)], args := [d] }
  | _ => none }
def LensStableWrongFalsely : Prop := lensStableRow.holds Tryz.pinned (OpenSpec.ofChange lensStableWrong)

/-- 'fenlandlaw07.LensComposes': WHATEVER THE INPUT: true; the input reads as it did. -/
def lensComposesSpec : ChangeSpec := { name := "lensComposes", fn := fun _ => fun
  | [d1, d2] => { results := [.lit (.bool true)], args := [d1, d2] }
  | _ => none }
def lensComposesRow : OpenClaim := { program := "ytfeemipnalgjnaagreat", sum := "9fd44b04a7cf41fe72042c4b6d2a0dd19c2e5b0ab1cdfa57dcea1f2f9c7b7c57", func := "fenland/fenlandlaw07.LensComposes", spec := "lensComposes", inPlace := ["internal/bytealg.IndexByteString", "internal/bytealg.IndexString"], unfollowed := true, recurses := true, named := ["internal/bytealg.MaxLen"], apart := false }
def LensComposesSaid : Prop := lensComposesRow.holds Tryz.pinned (OpenSpec.ofChange lensComposesSpec)

/-- ITS FALSE NEIGHBOUR: 'it returns false'. Refute it at one input. -/
def lensComposesWrong : ChangeSpec := { name := "lensComposes", fn := fun _ => fun
  | [d1, d2] => { results := [.lit (.bool false)], args := [d1, d2] }
  | _ => none }
def LensComposesWrongFalsely : Prop := lensComposesRow.holds Tryz.pinned (OpenSpec.ofChange lensComposesWrong)

/-- 'fenlandlaw07.LensOwn': WHATEVER THE INPUT: true; the input reads as it did. -/
def lensOwnSpec : ChangeSpec := { name := "lensOwn", fn := fun _ => fun
  | [d] => { results := [.lit (.bool true)], args := [d] }
  | _ => none }
def lensOwnRow : OpenClaim := { program := "ytfeemipnalgjnaagreat", sum := "9fd44b04a7cf41fe72042c4b6d2a0dd19c2e5b0ab1cdfa57dcea1f2f9c7b7c57", func := "fenland/fenlandlaw07.LensOwn", spec := "lensOwn", inPlace := ["internal/bytealg.IndexByteString", "internal/bytealg.IndexString"], unfollowed := true, recurses := true, named := ["internal/bytealg.MaxLen"], apart := false }
def LensOwnSaid : Prop := lensOwnRow.holds Tryz.pinned (OpenSpec.ofChange lensOwnSpec)

/-- ITS FALSE NEIGHBOUR: 'it returns false'. Refute it at one input. -/
def lensOwnWrong : ChangeSpec := { name := "lensOwn", fn := fun _ => fun
  | [d] => { results := [.lit (.bool false)], args := [d] }
  | _ => none }
def LensOwnWrongFalsely : Prop := lensOwnRow.holds Tryz.pinned (OpenSpec.ofChange lensOwnWrong)

/- THE SECOND FORM. 'bulk': how many values and letters a reading holds, each counted each time it is reached (what is shared counts as often as it is met; a slice's spare places count too). A statement '..UptoSaid' is the law's where the arguments, and the package variables that the reading takes, are together of bulk at most 1048576: NARROWER than '..Said'. Prove '..Said' where nothing that the law and all that it calls make is longer than what came in: it says more and counts as full. Else prove '..UptoSaid'. A law counts once. -/
mutual
def uptoBulk {H : Type} : DataW H → Nat
  | .lit (.string bytes) => bytes.length + 1
  | .lit _ => 1
  | .nil => 1
  | .ptr d => uptoBulk d + 1
  | .slice elems spare => uptoBulkAll elems + uptoBulkAll spare + 1
  | .agg parts => uptoBulkAll parts + 1
  | .iface _ d => uptoBulk d + 1
  | .map entries => uptoBulkEntries entries + 1
  | .held _ => 1
def uptoBulkAll {H : Type} : List (DataW H) → Nat
  | [] => 0
  | d :: r => uptoBulk d + uptoBulkAll r
def uptoBulkEntries {H : Type} : List (Lit × DataW H) → Nat
  | [] => 0
  | x :: r => uptoBulkEntry x + uptoBulkEntries r
def uptoBulkEntry {H : Type} : Lit × DataW H → Nat
  | (.string bytes, d) => bytes.length + uptoBulk d + 1
  | (_, d) => uptoBulk d + 1
 end
def uptoSmall : (H : Type) → List (DataW H) → Bool := fun _ ds => decide (uptoBulkAll ds ≤ 1048576)
def OpenSpec.upto (s : _root_.Go.ChangeSpec) : _root_.Go.OpenSpec := { _root_.Go.OpenSpec.ofChange s with cond := some uptoSmall }

/-- 'fenlandlaw07.LensMatchesReference', WHERE WHAT IT READS IS OF BULK AT MOST 1048576: true; the input reads as it did. -/
def lensMatchesReferenceUptoRow : OpenClaim := { program := "ytfeemipnalgjnaagreat", sum := "9fd44b04a7cf41fe72042c4b6d2a0dd19c2e5b0ab1cdfa57dcea1f2f9c7b7c57", func := "fenland/fenlandlaw07.LensMatchesReference", spec := "lensMatchesReference", inPlace := ["internal/bytealg.IndexByteString", "internal/bytealg.IndexString"], unfollowed := true, recurses := true, named := ["internal/bytealg.MaxLen"], apart := false, narrowed := true }
def LensMatchesReferenceUptoSaid : Prop := lensMatchesReferenceUptoRow.holds Tryz.pinned (OpenSpec.upto lensMatchesReferenceSpec)

/-- 'fenlandlaw07.LensTranslateMatchesReference', WHERE WHAT IT READS IS OF BULK AT MOST 1048576: true; the input reads as it did. -/
def lensTranslateMatchesReferenceUptoRow : OpenClaim := { program := "ytfeemipnalgjnaagreat", sum := "9fd44b04a7cf41fe72042c4b6d2a0dd19c2e5b0ab1cdfa57dcea1f2f9c7b7c57", func := "fenland/fenlandlaw07.LensTranslateMatchesReference", spec := "lensTranslateMatchesReference", inPlace := ["internal/bytealg.IndexByteString", "internal/bytealg.IndexString"], unfollowed := true, recurses := true, named := ["internal/bytealg.MaxLen"], apart := false, narrowed := true }
def LensTranslateMatchesReferenceUptoSaid : Prop := lensTranslateMatchesReferenceUptoRow.holds Tryz.pinned (OpenSpec.upto lensTranslateMatchesReferenceSpec)

/-- 'fenlandlaw07.LensFits', WHERE WHAT IT READS IS OF BULK AT MOST 1048576: true; the input reads as it did. -/
def lensFitsUptoRow : OpenClaim := { program := "ytfeemipnalgjnaagreat", sum := "9fd44b04a7cf41fe72042c4b6d2a0dd19c2e5b0ab1cdfa57dcea1f2f9c7b7c57", func := "fenland/fenlandlaw07.LensFits", spec := "lensFits", inPlace := ["internal/bytealg.IndexByteString", "internal/bytealg.IndexString"], unfollowed := true, recurses := true, named := ["internal/bytealg.MaxLen"], apart := false, narrowed := true }
def LensFitsUptoSaid : Prop := lensFitsUptoRow.holds Tryz.pinned (OpenSpec.upto lensFitsSpec)

/-- 'fenlandlaw07.LensKeeps', WHERE WHAT IT READS IS OF BULK AT MOST 1048576: true; the input reads as it did. -/
def lensKeepsUptoRow : OpenClaim := { program := "ytfeemipnalgjnaagreat", sum := "9fd44b04a7cf41fe72042c4b6d2a0dd19c2e5b0ab1cdfa57dcea1f2f9c7b7c57", func := "fenland/fenlandlaw07.LensKeeps", spec := "lensKeeps", inPlace := ["internal/bytealg.IndexByteString", "internal/bytealg.IndexString"], unfollowed := true, recurses := true, named := ["internal/bytealg.MaxLen"], apart := false, narrowed := true }
def LensKeepsUptoSaid : Prop := lensKeepsUptoRow.holds Tryz.pinned (OpenSpec.upto lensKeepsSpec)

/-- 'fenlandlaw07.LensStable', WHERE WHAT IT READS IS OF BULK AT MOST 1048576: true; the input reads as it did. -/
def lensStableUptoRow : OpenClaim := { program := "ytfeemipnalgjnaagreat", sum := "9fd44b04a7cf41fe72042c4b6d2a0dd19c2e5b0ab1cdfa57dcea1f2f9c7b7c57", func := "fenland/fenlandlaw07.LensStable", spec := "lensStable", inPlace := ["internal/bytealg.IndexByteString", "internal/bytealg.IndexString"], unfollowed := true, recurses := true, named := ["internal/bytealg.MaxLen"], apart := false, narrowed := true }
def LensStableUptoSaid : Prop := lensStableUptoRow.holds Tryz.pinned (OpenSpec.upto lensStableSpec)

/-- 'fenlandlaw07.LensComposes', WHERE WHAT IT READS IS OF BULK AT MOST 1048576: true; the input reads as it did. -/
def lensComposesUptoRow : OpenClaim := { program := "ytfeemipnalgjnaagreat", sum := "9fd44b04a7cf41fe72042c4b6d2a0dd19c2e5b0ab1cdfa57dcea1f2f9c7b7c57", func := "fenland/fenlandlaw07.LensComposes", spec := "lensComposes", inPlace := ["internal/bytealg.IndexByteString", "internal/bytealg.IndexString"], unfollowed := true, recurses := true, named := ["internal/bytealg.MaxLen"], apart := false, narrowed := true }
def LensComposesUptoSaid : Prop := lensComposesUptoRow.holds Tryz.pinned (OpenSpec.upto lensComposesSpec)

/-- 'fenlandlaw07.LensOwn', WHERE WHAT IT READS IS OF BULK AT MOST 1048576: true; the input reads as it did. -/
def lensOwnUptoRow : OpenClaim := { program := "ytfeemipnalgjnaagreat", sum := "9fd44b04a7cf41fe72042c4b6d2a0dd19c2e5b0ab1cdfa57dcea1f2f9c7b7c57", func := "fenland/fenlandlaw07.LensOwn", spec := "lensOwn", inPlace := ["internal/bytealg.IndexByteString", "internal/bytealg.IndexString"], unfollowed := true, recurses := true, named := ["internal/bytealg.MaxLen"], apart := false, narrowed := true }
def LensOwnUptoSaid : Prop := lensOwnUptoRow.holds Tryz.pinned (OpenSpec.upto lensOwnSpec)

end Rows
end Go.Proofs.YtfeemipnalgjnaaGreat

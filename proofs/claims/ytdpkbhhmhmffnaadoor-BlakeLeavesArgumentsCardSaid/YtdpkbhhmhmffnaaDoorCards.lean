/-
  DERIVED. GIVEN WITH THE SEED: THE CARDS: each row of YtdpkbhhmhmffnaaDoorRows.lean that lists a variable, with what it lists TIED to the program's text (the seventh form; the later family's looks); each row that meets fmt, with fmt's text TOLD by the authors' own Lean function (tested against real Go, not proved from fmt's source: count such statements apart). THE CARD IS WHAT COUNTS. Prove the row's statement (the work); the ties are given (YtdpkbhhmhmffnaaDoorTie.lean); close each card by the builder's one call (the guide's Derived/Test/ToyasCard.lean, 'card_holds'). Laid BY PROGRAM, IN A SANDBOX (cutbox-door.mjs). By AI agents, Wed Nov 11 2026. No macro, syntax, notation, axiom, sorry.
-/
import Derived.Test.YtdpkbhhmhmffnaaDoorRows
import GoSem.ClaimSeven
namespace Go.Proofs.YtdpkbhhmhmffnaaDoor
namespace Rows

/-- THE TIED CARD OF 'fenlandlaw02.BlakeMatchesReference'. -/
def blakeMatchesReferenceCard : Claim7 := { stood := { row := blakeMatchesReferenceRow, standIns := [], harness := (true, "c3a88be7367531d088886d129b08ca5e0d16c43a9ee2f1636955da618467989b"), looks := false }, kinds := [], alts := [], laidByText := true, laidKinds := [.data, .data], laidTests := true, laidLooks := .later }
def BlakeMatchesReferenceCardSaid : Prop := Claim7.holds Tryd.pinned (.plain (OpenSpec.ofChange blakeMatchesReferenceSpec)) blakeMatchesReferenceCard

/-- THE TIED CARD OF 'fenlandlaw02.BlakeKeys'. -/
def blakeKeysCard : Claim7 := { stood := { row := blakeKeysRow, standIns := [], harness := (true, "c3a88be7367531d088886d129b08ca5e0d16c43a9ee2f1636955da618467989b"), looks := false }, kinds := [], alts := [], laidByText := true, laidKinds := [.data, .data], laidTests := true, laidLooks := .later }
def BlakeKeysCardSaid : Prop := Claim7.holds Tryd.pinned (.plain (OpenSpec.ofChange blakeKeysSpec)) blakeKeysCard

/-- THE TIED CARD OF 'fenlandlaw02.BlakeTrees'. -/
def blakeTreesCard : Claim7 := { stood := { row := blakeTreesRow, standIns := [], harness := (true, "c3a88be7367531d088886d129b08ca5e0d16c43a9ee2f1636955da618467989b"), looks := false }, kinds := [], alts := [], laidByText := true, laidKinds := [.data, .data], laidTests := true, laidLooks := .later }
def BlakeTreesCardSaid : Prop := Claim7.holds Tryd.pinned (.plain (OpenSpec.ofChange blakeTreesSpec)) blakeTreesCard

/-- THE TIED CARD OF 'fenlandlaw02.BlakeSeparates'. -/
def blakeSeparatesCard : Claim7 := { stood := { row := blakeSeparatesRow, standIns := [], harness := (true, "c3a88be7367531d088886d129b08ca5e0d16c43a9ee2f1636955da618467989b"), looks := false }, kinds := [], alts := [], laidByText := true, laidKinds := [.data, .data], laidTests := true, laidLooks := .later }
def BlakeSeparatesCardSaid : Prop := Claim7.holds Tryd.pinned (.plain (OpenSpec.ofChange blakeSeparatesSpec)) blakeSeparatesCard

/-- THE TIED CARD OF 'fenlandlaw02.BlakeLeavesArguments'. -/
def blakeLeavesArgumentsCard : Claim7 := { stood := { row := blakeLeavesArgumentsRow, standIns := [], harness := (true, "c3a88be7367531d088886d129b08ca5e0d16c43a9ee2f1636955da618467989b"), looks := false }, kinds := [], alts := [], laidByText := true, laidKinds := [.data, .data], laidTests := true, laidLooks := .later }
def BlakeLeavesArgumentsCardSaid : Prop := Claim7.holds Tryd.pinned (.plain (OpenSpec.ofChange blakeLeavesArgumentsSpec)) blakeLeavesArgumentsCard

/-- THE SECOND FORM's CARD OF 'fenlandlaw02.BlakeMatchesReference'. -/
def blakeMatchesReferenceUptoCard : Claim7 := { stood := { row := blakeMatchesReferenceUptoRow, standIns := [], harness := (true, "c3a88be7367531d088886d129b08ca5e0d16c43a9ee2f1636955da618467989b"), looks := false }, kinds := [], alts := [], laidByText := true, laidKinds := [.data, .data], laidTests := true, laidLooks := .later }
def BlakeMatchesReferenceUptoCardSaid : Prop := Claim7.holds Tryd.pinned (.plain (OpenSpec.upto blakeMatchesReferenceSpec)) blakeMatchesReferenceUptoCard

/-- THE SECOND FORM's CARD OF 'fenlandlaw02.BlakeKeys'. -/
def blakeKeysUptoCard : Claim7 := { stood := { row := blakeKeysUptoRow, standIns := [], harness := (true, "c3a88be7367531d088886d129b08ca5e0d16c43a9ee2f1636955da618467989b"), looks := false }, kinds := [], alts := [], laidByText := true, laidKinds := [.data, .data], laidTests := true, laidLooks := .later }
def BlakeKeysUptoCardSaid : Prop := Claim7.holds Tryd.pinned (.plain (OpenSpec.upto blakeKeysSpec)) blakeKeysUptoCard

/-- THE SECOND FORM's CARD OF 'fenlandlaw02.BlakeTrees'. -/
def blakeTreesUptoCard : Claim7 := { stood := { row := blakeTreesUptoRow, standIns := [], harness := (true, "c3a88be7367531d088886d129b08ca5e0d16c43a9ee2f1636955da618467989b"), looks := false }, kinds := [], alts := [], laidByText := true, laidKinds := [.data, .data], laidTests := true, laidLooks := .later }
def BlakeTreesUptoCardSaid : Prop := Claim7.holds Tryd.pinned (.plain (OpenSpec.upto blakeTreesSpec)) blakeTreesUptoCard

/-- THE SECOND FORM's CARD OF 'fenlandlaw02.BlakeSeparates'. -/
def blakeSeparatesUptoCard : Claim7 := { stood := { row := blakeSeparatesUptoRow, standIns := [], harness := (true, "c3a88be7367531d088886d129b08ca5e0d16c43a9ee2f1636955da618467989b"), looks := false }, kinds := [], alts := [], laidByText := true, laidKinds := [.data, .data], laidTests := true, laidLooks := .later }
def BlakeSeparatesUptoCardSaid : Prop := Claim7.holds Tryd.pinned (.plain (OpenSpec.upto blakeSeparatesSpec)) blakeSeparatesUptoCard

/-- THE SECOND FORM's CARD OF 'fenlandlaw02.BlakeLeavesArguments'. -/
def blakeLeavesArgumentsUptoCard : Claim7 := { stood := { row := blakeLeavesArgumentsUptoRow, standIns := [], harness := (true, "c3a88be7367531d088886d129b08ca5e0d16c43a9ee2f1636955da618467989b"), looks := false }, kinds := [], alts := [], laidByText := true, laidKinds := [.data, .data], laidTests := true, laidLooks := .later }
def BlakeLeavesArgumentsUptoCardSaid : Prop := Claim7.holds Tryd.pinned (.plain (OpenSpec.upto blakeLeavesArgumentsSpec)) blakeLeavesArgumentsUptoCard
end Rows
end Go.Proofs.YtdpkbhhmhmffnaaDoor

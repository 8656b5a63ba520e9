/-
  DERIVED. GIVEN WITH THE SEED: THE CARDS: each row of YtmdokldbggingaaDoorRows.lean that lists a variable, with what it lists TIED to the program's text (the seventh form; the later family's looks); each row that meets fmt, with fmt's text TOLD by the authors' own Lean function (tested against real Go, not proved from fmt's source: count such statements apart). THE CARD IS WHAT COUNTS. Prove the row's statement (the work); the ties are given (YtmdokldbggingaaDoorTie.lean); close each card by the builder's one call (the guide's Derived/Test/ToyasCard.lean, 'card_holds'). Laid BY PROGRAM, IN A SANDBOX (cutbox-door.mjs). By AI agents, Wed Nov 11 2026. No macro, syntax, notation, axiom, sorry.
-/
import Derived.Test.YtmdokldbggingaaDoorRows
import GoSem.ClaimSeven
namespace Go.Proofs.YtmdokldbggingaaDoor
namespace Rows

/-- THE TIED CARD OF 'fenlandlaw11.BloomMatchesReference'. -/
def bloomMatchesReferenceCard : Claim7 := { stood := { row := bloomMatchesReferenceRow, standIns := [], harness := (true, "8cbaea02be992cdecaefbb83c6fce232e0c63342e1b43f4312d0b43fb928ce0d"), looks := false }, kinds := [], alts := [], laidByText := true, laidKinds := [.data, .data], laidTests := true, laidLooks := .later }
def BloomMatchesReferenceCardSaid : Prop := Claim7.holds Tryd.pinned (.plain (OpenSpec.ofChange bloomMatchesReferenceSpec)) bloomMatchesReferenceCard

/-- THE TIED CARD OF 'fenlandlaw11.BloomNoFalseNegatives'. -/
def bloomNoFalseNegativesCard : Claim7 := { stood := { row := bloomNoFalseNegativesRow, standIns := [], harness := (true, "8cbaea02be992cdecaefbb83c6fce232e0c63342e1b43f4312d0b43fb928ce0d"), looks := false }, kinds := [], alts := [], laidByText := true, laidKinds := [.data, .data], laidTests := true, laidLooks := .later }
def BloomNoFalseNegativesCardSaid : Prop := Claim7.holds Tryd.pinned (.plain (OpenSpec.ofChange bloomNoFalseNegativesSpec)) bloomNoFalseNegativesCard

/-- THE TIED CARD OF 'fenlandlaw11.BloomSets'. -/
def bloomSetsCard : Claim7 := { stood := { row := bloomSetsRow, standIns := [], harness := (true, "8cbaea02be992cdecaefbb83c6fce232e0c63342e1b43f4312d0b43fb928ce0d"), looks := false }, kinds := [], alts := [], laidByText := true, laidKinds := [.data, .data], laidTests := true, laidLooks := .later }
def BloomSetsCardSaid : Prop := Claim7.holds Tryd.pinned (.plain (OpenSpec.ofChange bloomSetsSpec)) bloomSetsCard

/-- THE TIED CARD OF 'fenlandlaw11.BloomFolds'. -/
def bloomFoldsCard : Claim7 := { stood := { row := bloomFoldsRow, standIns := [], harness := (true, "8cbaea02be992cdecaefbb83c6fce232e0c63342e1b43f4312d0b43fb928ce0d"), looks := false }, kinds := [], alts := [], laidByText := true, laidKinds := [.data, .data], laidTests := true, laidLooks := .later }
def BloomFoldsCardSaid : Prop := Claim7.holds Tryd.pinned (.plain (OpenSpec.ofChange bloomFoldsSpec)) bloomFoldsCard

/-- THE TIED CARD OF 'fenlandlaw11.BloomGrows'. -/
def bloomGrowsCard : Claim7 := { stood := { row := bloomGrowsRow, standIns := [], harness := (true, "8cbaea02be992cdecaefbb83c6fce232e0c63342e1b43f4312d0b43fb928ce0d"), looks := false }, kinds := [], alts := [], laidByText := true, laidKinds := [.data, .data], laidTests := true, laidLooks := .later }
def BloomGrowsCardSaid : Prop := Claim7.holds Tryd.pinned (.plain (OpenSpec.ofChange bloomGrowsSpec)) bloomGrowsCard

/-- THE SECOND FORM's CARD OF 'fenlandlaw11.BloomMatchesReference'. -/
def bloomMatchesReferenceUptoCard : Claim7 := { stood := { row := bloomMatchesReferenceUptoRow, standIns := [], harness := (true, "8cbaea02be992cdecaefbb83c6fce232e0c63342e1b43f4312d0b43fb928ce0d"), looks := false }, kinds := [], alts := [], laidByText := true, laidKinds := [.data, .data], laidTests := true, laidLooks := .later }
def BloomMatchesReferenceUptoCardSaid : Prop := Claim7.holds Tryd.pinned (.plain (OpenSpec.upto bloomMatchesReferenceSpec)) bloomMatchesReferenceUptoCard

/-- THE SECOND FORM's CARD OF 'fenlandlaw11.BloomNoFalseNegatives'. -/
def bloomNoFalseNegativesUptoCard : Claim7 := { stood := { row := bloomNoFalseNegativesUptoRow, standIns := [], harness := (true, "8cbaea02be992cdecaefbb83c6fce232e0c63342e1b43f4312d0b43fb928ce0d"), looks := false }, kinds := [], alts := [], laidByText := true, laidKinds := [.data, .data], laidTests := true, laidLooks := .later }
def BloomNoFalseNegativesUptoCardSaid : Prop := Claim7.holds Tryd.pinned (.plain (OpenSpec.upto bloomNoFalseNegativesSpec)) bloomNoFalseNegativesUptoCard

/-- THE SECOND FORM's CARD OF 'fenlandlaw11.BloomSets'. -/
def bloomSetsUptoCard : Claim7 := { stood := { row := bloomSetsUptoRow, standIns := [], harness := (true, "8cbaea02be992cdecaefbb83c6fce232e0c63342e1b43f4312d0b43fb928ce0d"), looks := false }, kinds := [], alts := [], laidByText := true, laidKinds := [.data, .data], laidTests := true, laidLooks := .later }
def BloomSetsUptoCardSaid : Prop := Claim7.holds Tryd.pinned (.plain (OpenSpec.upto bloomSetsSpec)) bloomSetsUptoCard

/-- THE SECOND FORM's CARD OF 'fenlandlaw11.BloomFolds'. -/
def bloomFoldsUptoCard : Claim7 := { stood := { row := bloomFoldsUptoRow, standIns := [], harness := (true, "8cbaea02be992cdecaefbb83c6fce232e0c63342e1b43f4312d0b43fb928ce0d"), looks := false }, kinds := [], alts := [], laidByText := true, laidKinds := [.data, .data], laidTests := true, laidLooks := .later }
def BloomFoldsUptoCardSaid : Prop := Claim7.holds Tryd.pinned (.plain (OpenSpec.upto bloomFoldsSpec)) bloomFoldsUptoCard

/-- THE SECOND FORM's CARD OF 'fenlandlaw11.BloomGrows'. -/
def bloomGrowsUptoCard : Claim7 := { stood := { row := bloomGrowsUptoRow, standIns := [], harness := (true, "8cbaea02be992cdecaefbb83c6fce232e0c63342e1b43f4312d0b43fb928ce0d"), looks := false }, kinds := [], alts := [], laidByText := true, laidKinds := [.data, .data], laidTests := true, laidLooks := .later }
def BloomGrowsUptoCardSaid : Prop := Claim7.holds Tryd.pinned (.plain (OpenSpec.upto bloomGrowsSpec)) bloomGrowsUptoCard
end Rows
end Go.Proofs.YtmdokldbggingaaDoor

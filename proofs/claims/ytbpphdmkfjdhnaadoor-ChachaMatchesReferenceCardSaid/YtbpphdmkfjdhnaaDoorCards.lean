/-
  DERIVED. GIVEN WITH THE SEED: THE CARDS: each row of YtbpphdmkfjdhnaaDoorRows.lean that lists a variable, with what it lists TIED to the program's text (the seventh form; the later family's looks); each row that meets fmt, with fmt's text TOLD by the authors' own Lean function (tested against real Go, not proved from fmt's source: count such statements apart). THE CARD IS WHAT COUNTS. Prove the row's statement (the work); the ties are given (YtbpphdmkfjdhnaaDoorTie.lean); close each card by the builder's one call (the guide's Derived/Test/ToyasCard.lean, 'card_holds'). Laid BY PROGRAM, IN A SANDBOX (cutbox-door.mjs). By AI agents, Wed Nov 11 2026. No macro, syntax, notation, axiom, sorry.
-/
import Derived.Test.YtbpphdmkfjdhnaaDoorRows
import GoSem.ClaimSeven
namespace Go.Proofs.YtbpphdmkfjdhnaaDoor
namespace Rows

/-- THE TIED CARD OF 'fenlandlaw03.ChachaMatchesReference'. -/
def chachaMatchesReferenceCard : Claim7 := { stood := { row := chachaMatchesReferenceRow, standIns := [], harness := (true, "54c27a10863057c5d6cced6cc7c46a0b970c5a01f5d284cd60854c0587e54f15"), looks := false }, kinds := [], alts := [], laidByText := true, laidKinds := [.data, .data, .data], laidTests := true, laidLooks := .later }
def ChachaMatchesReferenceCardSaid : Prop := Claim7.holds Tryd.pinned (.plain (OpenSpec.ofChange chachaMatchesReferenceSpec)) chachaMatchesReferenceCard

/-- THE TIED CARD OF 'fenlandlaw03.ChachaIsInvolution'. -/
def chachaIsInvolutionCard : Claim7 := { stood := { row := chachaIsInvolutionRow, standIns := [], harness := (true, "54c27a10863057c5d6cced6cc7c46a0b970c5a01f5d284cd60854c0587e54f15"), looks := false }, kinds := [], alts := [], laidByText := true, laidKinds := [.data], laidTests := true, laidLooks := .later }
def ChachaIsInvolutionCardSaid : Prop := Claim7.holds Tryd.pinned (.plain (OpenSpec.ofChange chachaIsInvolutionSpec)) chachaIsInvolutionCard

/-- THE TIED CARD OF 'fenlandlaw03.ChachaPrefixes'. -/
def chachaPrefixesCard : Claim7 := { stood := { row := chachaPrefixesRow, standIns := [], harness := (true, "54c27a10863057c5d6cced6cc7c46a0b970c5a01f5d284cd60854c0587e54f15"), looks := false }, kinds := [], alts := [], laidByText := true, laidKinds := [.data], laidTests := true, laidLooks := .later }
def ChachaPrefixesCardSaid : Prop := Claim7.holds Tryd.pinned (.plain (OpenSpec.ofChange chachaPrefixesSpec)) chachaPrefixesCard

/-- THE TIED CARD OF 'fenlandlaw03.ChachaBlocks'. -/
def chachaBlocksCard : Claim7 := { stood := { row := chachaBlocksRow, standIns := [], harness := (true, "54c27a10863057c5d6cced6cc7c46a0b970c5a01f5d284cd60854c0587e54f15"), looks := false }, kinds := [], alts := [], laidByText := true, laidKinds := [.data], laidTests := true, laidLooks := .later }
def ChachaBlocksCardSaid : Prop := Claim7.holds Tryd.pinned (.plain (OpenSpec.ofChange chachaBlocksSpec)) chachaBlocksCard

/-- THE TIED CARD OF 'fenlandlaw03.ChachaIsLinear'. -/
def chachaIsLinearCard : Claim7 := { stood := { row := chachaIsLinearRow, standIns := [], harness := (true, "54c27a10863057c5d6cced6cc7c46a0b970c5a01f5d284cd60854c0587e54f15"), looks := false }, kinds := [], alts := [], laidByText := true, laidKinds := [.data], laidTests := true, laidLooks := .later }
def ChachaIsLinearCardSaid : Prop := Claim7.holds Tryd.pinned (.plain (OpenSpec.ofChange chachaIsLinearSpec)) chachaIsLinearCard

/-- THE TIED CARD OF 'fenlandlaw03.ChachaInvertsRounds'. -/
def chachaInvertsRoundsCard : Claim7 := { stood := { row := chachaInvertsRoundsRow, standIns := [], harness := (true, "54c27a10863057c5d6cced6cc7c46a0b970c5a01f5d284cd60854c0587e54f15"), looks := false }, kinds := [], alts := [], laidByText := true, laidKinds := [.data], laidTests := true, laidLooks := .later }
def ChachaInvertsRoundsCardSaid : Prop := Claim7.holds Tryd.pinned (.plain (OpenSpec.ofChange chachaInvertsRoundsSpec)) chachaInvertsRoundsCard

/-- THE TIED CARD OF 'fenlandlaw03.ChachaDerives'. -/
def chachaDerivesCard : Claim7 := { stood := { row := chachaDerivesRow, standIns := [], harness := (true, "54c27a10863057c5d6cced6cc7c46a0b970c5a01f5d284cd60854c0587e54f15"), looks := false }, kinds := [], alts := [], laidByText := true, laidKinds := [.data, .data, .data], laidTests := true, laidLooks := .later }
def ChachaDerivesCardSaid : Prop := Claim7.holds Tryd.pinned (.plain (OpenSpec.ofChange chachaDerivesSpec)) chachaDerivesCard

/-- THE SECOND FORM's CARD OF 'fenlandlaw03.ChachaMatchesReference'. -/
def chachaMatchesReferenceUptoCard : Claim7 := { stood := { row := chachaMatchesReferenceUptoRow, standIns := [], harness := (true, "54c27a10863057c5d6cced6cc7c46a0b970c5a01f5d284cd60854c0587e54f15"), looks := false }, kinds := [], alts := [], laidByText := true, laidKinds := [.data, .data, .data], laidTests := true, laidLooks := .later }
def ChachaMatchesReferenceUptoCardSaid : Prop := Claim7.holds Tryd.pinned (.plain (OpenSpec.upto chachaMatchesReferenceSpec)) chachaMatchesReferenceUptoCard

/-- THE SECOND FORM's CARD OF 'fenlandlaw03.ChachaIsInvolution'. -/
def chachaIsInvolutionUptoCard : Claim7 := { stood := { row := chachaIsInvolutionUptoRow, standIns := [], harness := (true, "54c27a10863057c5d6cced6cc7c46a0b970c5a01f5d284cd60854c0587e54f15"), looks := false }, kinds := [], alts := [], laidByText := true, laidKinds := [.data], laidTests := true, laidLooks := .later }
def ChachaIsInvolutionUptoCardSaid : Prop := Claim7.holds Tryd.pinned (.plain (OpenSpec.upto chachaIsInvolutionSpec)) chachaIsInvolutionUptoCard

/-- THE SECOND FORM's CARD OF 'fenlandlaw03.ChachaPrefixes'. -/
def chachaPrefixesUptoCard : Claim7 := { stood := { row := chachaPrefixesUptoRow, standIns := [], harness := (true, "54c27a10863057c5d6cced6cc7c46a0b970c5a01f5d284cd60854c0587e54f15"), looks := false }, kinds := [], alts := [], laidByText := true, laidKinds := [.data], laidTests := true, laidLooks := .later }
def ChachaPrefixesUptoCardSaid : Prop := Claim7.holds Tryd.pinned (.plain (OpenSpec.upto chachaPrefixesSpec)) chachaPrefixesUptoCard

/-- THE SECOND FORM's CARD OF 'fenlandlaw03.ChachaBlocks'. -/
def chachaBlocksUptoCard : Claim7 := { stood := { row := chachaBlocksUptoRow, standIns := [], harness := (true, "54c27a10863057c5d6cced6cc7c46a0b970c5a01f5d284cd60854c0587e54f15"), looks := false }, kinds := [], alts := [], laidByText := true, laidKinds := [.data], laidTests := true, laidLooks := .later }
def ChachaBlocksUptoCardSaid : Prop := Claim7.holds Tryd.pinned (.plain (OpenSpec.upto chachaBlocksSpec)) chachaBlocksUptoCard

/-- THE SECOND FORM's CARD OF 'fenlandlaw03.ChachaIsLinear'. -/
def chachaIsLinearUptoCard : Claim7 := { stood := { row := chachaIsLinearUptoRow, standIns := [], harness := (true, "54c27a10863057c5d6cced6cc7c46a0b970c5a01f5d284cd60854c0587e54f15"), looks := false }, kinds := [], alts := [], laidByText := true, laidKinds := [.data], laidTests := true, laidLooks := .later }
def ChachaIsLinearUptoCardSaid : Prop := Claim7.holds Tryd.pinned (.plain (OpenSpec.upto chachaIsLinearSpec)) chachaIsLinearUptoCard

/-- THE SECOND FORM's CARD OF 'fenlandlaw03.ChachaInvertsRounds'. -/
def chachaInvertsRoundsUptoCard : Claim7 := { stood := { row := chachaInvertsRoundsUptoRow, standIns := [], harness := (true, "54c27a10863057c5d6cced6cc7c46a0b970c5a01f5d284cd60854c0587e54f15"), looks := false }, kinds := [], alts := [], laidByText := true, laidKinds := [.data], laidTests := true, laidLooks := .later }
def ChachaInvertsRoundsUptoCardSaid : Prop := Claim7.holds Tryd.pinned (.plain (OpenSpec.upto chachaInvertsRoundsSpec)) chachaInvertsRoundsUptoCard

/-- THE SECOND FORM's CARD OF 'fenlandlaw03.ChachaDerives'. -/
def chachaDerivesUptoCard : Claim7 := { stood := { row := chachaDerivesUptoRow, standIns := [], harness := (true, "54c27a10863057c5d6cced6cc7c46a0b970c5a01f5d284cd60854c0587e54f15"), looks := false }, kinds := [], alts := [], laidByText := true, laidKinds := [.data, .data, .data], laidTests := true, laidLooks := .later }
def ChachaDerivesUptoCardSaid : Prop := Claim7.holds Tryd.pinned (.plain (OpenSpec.upto chachaDerivesSpec)) chachaDerivesUptoCard
end Rows
end Go.Proofs.YtbpphdmkfjdhnaaDoor

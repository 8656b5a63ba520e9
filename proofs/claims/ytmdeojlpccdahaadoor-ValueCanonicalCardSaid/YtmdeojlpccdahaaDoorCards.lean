/-
  DERIVED. GIVEN WITH THE SEED: THE CARDS: each row of YtmdeojlpccdahaaDoorRows.lean that lists a variable, with what it lists TIED to the program's text (the seventh form; the later family's looks); each row that meets fmt, with fmt's text TOLD by the authors' own Lean function (tested against real Go, not proved from fmt's source: count such statements apart). THE CARD IS WHAT COUNTS. Prove the row's statement (the work); the ties are given (YtmdeojlpccdahaaDoorTie.lean); close each card by the builder's one call (the guide's Derived/Test/ToyasCard.lean, 'card_holds'). Laid BY PROGRAM, IN A SANDBOX (cutbox-door.mjs). By AI agents, Wed Nov 11 2026. No macro, syntax, notation, axiom, sorry.
-/
import Derived.Test.YtmdeojlpccdahaaDoorRows
import GoSem.ClaimSeven
namespace Go.Proofs.YtmdeojlpccdahaaDoor
namespace Rows

/-- THE TIED CARD OF 'fenlandlaw05.ValueOrder'. -/
def valueOrderCard : Claim7 := { stood := { row := valueOrderRow, standIns := [], harness := (true, "a8ee7a53714dd24d9b2f9a4b7a62f1770295605e88608353fc7fce77257ccada"), looks := true }, kinds := [], alts := [], laidByText := true, laidKinds := [.data, .data, .data, .sentinel, .sentinel, .data], laidTests := true, laidLooks := .later }
def ValueOrderCardSaid : Prop := Claim7.holds Tryd.pinned (.plain (OpenSpec.ofChange valueOrderSpec)) valueOrderCard

/-- THE TIED CARD OF 'fenlandlaw05.ValueRoundTrip'. -/
def valueRoundTripCard : Claim7 := { stood := { row := valueRoundTripRow, standIns := [], harness := (true, "a8ee7a53714dd24d9b2f9a4b7a62f1770295605e88608353fc7fce77257ccada"), looks := true }, kinds := [], alts := [], laidByText := true, laidKinds := [.data, .data, .data, .sentinel, .sentinel, .data], laidTests := true, laidLooks := .later }
def ValueRoundTripCardSaid : Prop := Claim7.holds Tryd.pinned (.plain (OpenSpec.ofChange valueRoundTripSpec)) valueRoundTripCard

/-- THE TIED CARD OF 'fenlandlaw05.ValueCanonical'. -/
def valueCanonicalCard : Claim7 := { stood := { row := valueCanonicalRow, standIns := [], harness := (true, "a8ee7a53714dd24d9b2f9a4b7a62f1770295605e88608353fc7fce77257ccada"), looks := true }, kinds := [], alts := [], laidByText := true, laidKinds := [.data, .data, .data, .sentinel, .sentinel, .data], laidTests := true, laidLooks := .later }
def ValueCanonicalCardSaid : Prop := Claim7.holds Tryd.pinned (.plain (OpenSpec.ofChange valueCanonicalSpec)) valueCanonicalCard

/-- THE TIED CARD OF 'fenlandlaw05.ValueDistinct'. -/
def valueDistinctCard : Claim7 := { stood := { row := valueDistinctRow, standIns := [], harness := (true, "a8ee7a53714dd24d9b2f9a4b7a62f1770295605e88608353fc7fce77257ccada"), looks := true }, kinds := [], alts := [], laidByText := true, laidKinds := [.data, .data, .data, .sentinel, .sentinel, .data], laidTests := true, laidLooks := .later }
def ValueDistinctCardSaid : Prop := Claim7.holds Tryd.pinned (.plain (OpenSpec.ofChange valueDistinctSpec)) valueDistinctCard

/-- THE TIED CARD OF 'fenlandlaw05.ValueDays'. -/
def valueDaysCard : Claim7 := { stood := { row := valueDaysRow, standIns := [], harness := (true, "a8ee7a53714dd24d9b2f9a4b7a62f1770295605e88608353fc7fce77257ccada"), looks := true }, kinds := [], alts := [], laidByText := true, laidKinds := [.data, .data, .data, .sentinel, .sentinel, .data], laidTests := true, laidLooks := .later }
def ValueDaysCardSaid : Prop := Claim7.holds Tryd.pinned (.plain (OpenSpec.ofChange valueDaysSpec)) valueDaysCard

/-- THE SECOND FORM's CARD OF 'fenlandlaw05.ValueOrder'. -/
def valueOrderUptoCard : Claim7 := { stood := { row := valueOrderUptoRow, standIns := [], harness := (true, "a8ee7a53714dd24d9b2f9a4b7a62f1770295605e88608353fc7fce77257ccada"), looks := true }, kinds := [], alts := [], laidByText := true, laidKinds := [.data, .data, .data, .sentinel, .sentinel, .data], laidTests := true, laidLooks := .later }
def ValueOrderUptoCardSaid : Prop := Claim7.holds Tryd.pinned (.plain (OpenSpec.upto valueOrderSpec)) valueOrderUptoCard

/-- THE SECOND FORM's CARD OF 'fenlandlaw05.ValueRoundTrip'. -/
def valueRoundTripUptoCard : Claim7 := { stood := { row := valueRoundTripUptoRow, standIns := [], harness := (true, "a8ee7a53714dd24d9b2f9a4b7a62f1770295605e88608353fc7fce77257ccada"), looks := true }, kinds := [], alts := [], laidByText := true, laidKinds := [.data, .data, .data, .sentinel, .sentinel, .data], laidTests := true, laidLooks := .later }
def ValueRoundTripUptoCardSaid : Prop := Claim7.holds Tryd.pinned (.plain (OpenSpec.upto valueRoundTripSpec)) valueRoundTripUptoCard

/-- THE SECOND FORM's CARD OF 'fenlandlaw05.ValueCanonical'. -/
def valueCanonicalUptoCard : Claim7 := { stood := { row := valueCanonicalUptoRow, standIns := [], harness := (true, "a8ee7a53714dd24d9b2f9a4b7a62f1770295605e88608353fc7fce77257ccada"), looks := true }, kinds := [], alts := [], laidByText := true, laidKinds := [.data, .data, .data, .sentinel, .sentinel, .data], laidTests := true, laidLooks := .later }
def ValueCanonicalUptoCardSaid : Prop := Claim7.holds Tryd.pinned (.plain (OpenSpec.upto valueCanonicalSpec)) valueCanonicalUptoCard

/-- THE SECOND FORM's CARD OF 'fenlandlaw05.ValueDistinct'. -/
def valueDistinctUptoCard : Claim7 := { stood := { row := valueDistinctUptoRow, standIns := [], harness := (true, "a8ee7a53714dd24d9b2f9a4b7a62f1770295605e88608353fc7fce77257ccada"), looks := true }, kinds := [], alts := [], laidByText := true, laidKinds := [.data, .data, .data, .sentinel, .sentinel, .data], laidTests := true, laidLooks := .later }
def ValueDistinctUptoCardSaid : Prop := Claim7.holds Tryd.pinned (.plain (OpenSpec.upto valueDistinctSpec)) valueDistinctUptoCard

/-- THE SECOND FORM's CARD OF 'fenlandlaw05.ValueDays'. -/
def valueDaysUptoCard : Claim7 := { stood := { row := valueDaysUptoRow, standIns := [], harness := (true, "a8ee7a53714dd24d9b2f9a4b7a62f1770295605e88608353fc7fce77257ccada"), looks := true }, kinds := [], alts := [], laidByText := true, laidKinds := [.data, .data, .data, .sentinel, .sentinel, .data], laidTests := true, laidLooks := .later }
def ValueDaysUptoCardSaid : Prop := Claim7.holds Tryd.pinned (.plain (OpenSpec.upto valueDaysSpec)) valueDaysUptoCard
end Rows
end Go.Proofs.YtmdeojlpccdahaaDoor

/-
  DERIVED. GIVEN WITH THE SEED: THE CARDS: each row of YtadkmidipjlcjaaDoorRows.lean that lists a variable, with what it lists TIED to the program's text (the seventh form; the later family's looks); each row that meets fmt, with fmt's text TOLD by the authors' own Lean function (tested against real Go, not proved from fmt's source: count such statements apart). THE CARD IS WHAT COUNTS. Prove the row's statement (the work); the ties are given (YtadkmidipjlcjaaDoorTie.lean); close each card by the builder's one call (the guide's Derived/Test/ToyasCard.lean, 'card_holds'). Laid BY PROGRAM, IN A SANDBOX (cutbox-door.mjs). By AI agents, Wed Nov 11 2026. No macro, syntax, notation, axiom, sorry.
-/
import Derived.Test.YtadkmidipjlcjaaDoorRows
import GoSem.ClaimSeven
namespace Go.Proofs.YtadkmidipjlcjaaDoor
namespace Rows

/-- THE TIED CARD OF 'dustpanlaw18.GraphPlays'. -/
def graphPlaysCard : Claim7 := { stood := { row := graphPlaysRow, standIns := [], harness := (true, "c7237b0ab7ead8924a1c500118c0f83384f1f8ca8e9905071ff5a8de249797a7"), looks := false }, kinds := [], alts := [], laidByText := true, laidKinds := [.data, .data], laidTests := true, laidLooks := .later }
def GraphPlaysCardSaid : Prop := Claim7.holds Tryd.pinned (.plain (OpenSpec.ofChange graphPlaysSpec)) graphPlaysCard

/-- THE TIED CARD OF 'dustpanlaw18.GraphCopies'. -/
def graphCopiesCard : Claim7 := { stood := { row := graphCopiesRow, standIns := [], harness := (true, "c7237b0ab7ead8924a1c500118c0f83384f1f8ca8e9905071ff5a8de249797a7"), looks := false }, kinds := [], alts := [], laidByText := true, laidKinds := [.data, .data], laidTests := true, laidLooks := .later }
def GraphCopiesCardSaid : Prop := Claim7.holds Tryd.pinned (.plain (OpenSpec.ofChange graphCopiesSpec)) graphCopiesCard

/-- THE TIED CARD OF 'dustpanlaw18.GraphNone'. -/
def graphNoneCard : Claim7 := { stood := { row := graphNoneRow, standIns := [], harness := (true, "c7237b0ab7ead8924a1c500118c0f83384f1f8ca8e9905071ff5a8de249797a7"), looks := false }, kinds := [], alts := [], laidByText := true, laidKinds := [.data, .data], laidTests := true, laidLooks := .later }
def GraphNoneCardSaid : Prop := Claim7.holds Tryd.pinned (.plain (OpenSpec.ofChange graphNoneSpec)) graphNoneCard

/-- THE TIED CARD OF 'dustpanlaw18.GraphOwn'. -/
def graphOwnCard : Claim7 := { stood := { row := graphOwnRow, standIns := [], harness := (true, "c7237b0ab7ead8924a1c500118c0f83384f1f8ca8e9905071ff5a8de249797a7"), looks := false }, kinds := [], alts := [], laidByText := true, laidKinds := [.data, .data], laidTests := true, laidLooks := .later }
def GraphOwnCardSaid : Prop := Claim7.holds Tryd.pinned (.plain (OpenSpec.ofChange graphOwnSpec)) graphOwnCard

/-- THE TIED CARD OF 'dustpanlaw18.GraphReaches'. -/
def graphReachesCard : Claim7 := { stood := { row := graphReachesRow, standIns := [], harness := (true, "c7237b0ab7ead8924a1c500118c0f83384f1f8ca8e9905071ff5a8de249797a7"), looks := false }, kinds := [], alts := [], laidByText := true, laidKinds := [.data, .data], laidTests := true, laidLooks := .later }
def GraphReachesCardSaid : Prop := Claim7.holds Tryd.pinned (.plain (OpenSpec.ofChange graphReachesSpec)) graphReachesCard

/-- THE TIED CARD OF 'dustpanlaw18.GraphErrors'. -/
def graphErrorsCard : Claim7 := { stood := { row := graphErrorsRow, standIns := [], harness := (true, "c7237b0ab7ead8924a1c500118c0f83384f1f8ca8e9905071ff5a8de249797a7"), looks := false }, kinds := [], alts := [], laidByText := true, laidKinds := [.data, .data], laidTests := true, laidLooks := .later }
def GraphErrorsCardSaid : Prop := Claim7.holds Tryd.pinned (.plain (OpenSpec.ofChange graphErrorsSpec)) graphErrorsCard

/-- THE SECOND FORM's CARD OF 'dustpanlaw18.GraphPlays'. -/
def graphPlaysUptoCard : Claim7 := { stood := { row := graphPlaysUptoRow, standIns := [], harness := (true, "c7237b0ab7ead8924a1c500118c0f83384f1f8ca8e9905071ff5a8de249797a7"), looks := false }, kinds := [], alts := [], laidByText := true, laidKinds := [.data, .data], laidTests := true, laidLooks := .later }
def GraphPlaysUptoCardSaid : Prop := Claim7.holds Tryd.pinned (.plain (OpenSpec.upto graphPlaysSpec)) graphPlaysUptoCard

/-- THE SECOND FORM's CARD OF 'dustpanlaw18.GraphCopies'. -/
def graphCopiesUptoCard : Claim7 := { stood := { row := graphCopiesUptoRow, standIns := [], harness := (true, "c7237b0ab7ead8924a1c500118c0f83384f1f8ca8e9905071ff5a8de249797a7"), looks := false }, kinds := [], alts := [], laidByText := true, laidKinds := [.data, .data], laidTests := true, laidLooks := .later }
def GraphCopiesUptoCardSaid : Prop := Claim7.holds Tryd.pinned (.plain (OpenSpec.upto graphCopiesSpec)) graphCopiesUptoCard

/-- THE SECOND FORM's CARD OF 'dustpanlaw18.GraphNone'. -/
def graphNoneUptoCard : Claim7 := { stood := { row := graphNoneUptoRow, standIns := [], harness := (true, "c7237b0ab7ead8924a1c500118c0f83384f1f8ca8e9905071ff5a8de249797a7"), looks := false }, kinds := [], alts := [], laidByText := true, laidKinds := [.data, .data], laidTests := true, laidLooks := .later }
def GraphNoneUptoCardSaid : Prop := Claim7.holds Tryd.pinned (.plain (OpenSpec.upto graphNoneSpec)) graphNoneUptoCard

/-- THE SECOND FORM's CARD OF 'dustpanlaw18.GraphOwn'. -/
def graphOwnUptoCard : Claim7 := { stood := { row := graphOwnUptoRow, standIns := [], harness := (true, "c7237b0ab7ead8924a1c500118c0f83384f1f8ca8e9905071ff5a8de249797a7"), looks := false }, kinds := [], alts := [], laidByText := true, laidKinds := [.data, .data], laidTests := true, laidLooks := .later }
def GraphOwnUptoCardSaid : Prop := Claim7.holds Tryd.pinned (.plain (OpenSpec.upto graphOwnSpec)) graphOwnUptoCard

/-- THE SECOND FORM's CARD OF 'dustpanlaw18.GraphReaches'. -/
def graphReachesUptoCard : Claim7 := { stood := { row := graphReachesUptoRow, standIns := [], harness := (true, "c7237b0ab7ead8924a1c500118c0f83384f1f8ca8e9905071ff5a8de249797a7"), looks := false }, kinds := [], alts := [], laidByText := true, laidKinds := [.data, .data], laidTests := true, laidLooks := .later }
def GraphReachesUptoCardSaid : Prop := Claim7.holds Tryd.pinned (.plain (OpenSpec.upto graphReachesSpec)) graphReachesUptoCard

/-- THE SECOND FORM's CARD OF 'dustpanlaw18.GraphErrors'. -/
def graphErrorsUptoCard : Claim7 := { stood := { row := graphErrorsUptoRow, standIns := [], harness := (true, "c7237b0ab7ead8924a1c500118c0f83384f1f8ca8e9905071ff5a8de249797a7"), looks := false }, kinds := [], alts := [], laidByText := true, laidKinds := [.data, .data], laidTests := true, laidLooks := .later }
def GraphErrorsUptoCardSaid : Prop := Claim7.holds Tryd.pinned (.plain (OpenSpec.upto graphErrorsSpec)) graphErrorsUptoCard
end Rows
end Go.Proofs.YtadkmidipjlcjaaDoor

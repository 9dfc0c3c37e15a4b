/-
  DERIVED. GIVEN WITH THE SEED: THE CARDS: each row of YtahhenbphnejiaaDoorRows.lean that lists a variable, with what it lists TIED to the program's text (the seventh form; the later family's looks); each row that meets fmt, with fmt's text TOLD by the authors' own Lean function (tested against real Go, not proved from fmt's source: count such statements apart). THE CARD IS WHAT COUNTS. Prove the row's statement (the work); the ties are given (YtahhenbphnejiaaDoorTie.lean); close each card by the builder's one call (the guide's Derived/Test/ToyasCard.lean, 'card_holds'). Laid BY PROGRAM, IN A SANDBOX (cutbox-door.mjs). By AI agents, Wed Nov 11 2026. No macro, syntax, notation, axiom, sorry.
-/
import Derived.Test.YtahhenbphnejiaaDoorRows
import GoSem.ClaimSeven
namespace Go.Proofs.YtahhenbphnejiaaDoor
namespace Rows

/-- THE TIED CARD OF 'dustpanlaw01.BitsPlay'. -/
def bitsPlayCard : Claim7 := { stood := { row := bitsPlayRow, standIns := [], harness := (true, "197fe1dcb6b1102eee4bb40f1bc9b5caafd48a73d3ed9b96ae4e70f2d7281958"), looks := false }, kinds := [], alts := [], laidByText := true, laidKinds := [.data], laidTests := true, laidLooks := .later }
def BitsPlayCardSaid : Prop := Claim7.holds Tryd.pinned (.plain (OpenSpec.ofChange bitsPlaySpec)) bitsPlayCard

/-- THE TIED CARD OF 'dustpanlaw01.BitsCopies'. -/
def bitsCopiesCard : Claim7 := { stood := { row := bitsCopiesRow, standIns := [], harness := (true, "197fe1dcb6b1102eee4bb40f1bc9b5caafd48a73d3ed9b96ae4e70f2d7281958"), looks := false }, kinds := [], alts := [], laidByText := true, laidKinds := [.data], laidTests := true, laidLooks := .later }
def BitsCopiesCardSaid : Prop := Claim7.holds Tryd.pinned (.plain (OpenSpec.ofChange bitsCopiesSpec)) bitsCopiesCard

/-- THE TIED CARD OF 'dustpanlaw01.BitsNone'. -/
def bitsNoneCard : Claim7 := { stood := { row := bitsNoneRow, standIns := [], harness := (true, "197fe1dcb6b1102eee4bb40f1bc9b5caafd48a73d3ed9b96ae4e70f2d7281958"), looks := false }, kinds := [], alts := [], laidByText := true, laidKinds := [.data], laidTests := true, laidLooks := .later }
def BitsNoneCardSaid : Prop := Claim7.holds Tryd.pinned (.plain (OpenSpec.ofChange bitsNoneSpec)) bitsNoneCard

/-- THE TIED CARD OF 'dustpanlaw01.BitsRises'. -/
def bitsRisesCard : Claim7 := { stood := { row := bitsRisesRow, standIns := [], harness := (true, "197fe1dcb6b1102eee4bb40f1bc9b5caafd48a73d3ed9b96ae4e70f2d7281958"), looks := false }, kinds := [], alts := [], laidByText := true, laidKinds := [.data], laidTests := true, laidLooks := .later }
def BitsRisesCardSaid : Prop := Claim7.holds Tryd.pinned (.plain (OpenSpec.ofChange bitsRisesSpec)) bitsRisesCard

/-- THE TIED CARD OF 'dustpanlaw01.BitsSames'. -/
def bitsSamesCard : Claim7 := { stood := { row := bitsSamesRow, standIns := [], harness := (true, "197fe1dcb6b1102eee4bb40f1bc9b5caafd48a73d3ed9b96ae4e70f2d7281958"), looks := false }, kinds := [], alts := [], laidByText := true, laidKinds := [.data], laidTests := true, laidLooks := .later }
def BitsSamesCardSaid : Prop := Claim7.holds Tryd.pinned (.plain (OpenSpec.ofChange bitsSamesSpec)) bitsSamesCard

/-- THE TIED CARD OF 'dustpanlaw02.ConfigRight'. -/
def configRightCard : Claim7 := { stood := { row := configRightRow, standIns := [], harness := (true, "197fe1dcb6b1102eee4bb40f1bc9b5caafd48a73d3ed9b96ae4e70f2d7281958"), looks := false }, kinds := [], alts := [], laidByText := true, laidKinds := [.data], laidTests := true, laidLooks := .later }
def ConfigRightCardSaid : Prop := Claim7.holds Tryd.pinned (.plain (OpenSpec.ofChange configRightSpec)) configRightCard

/-- THE TIED CARD OF 'dustpanlaw02.ConfigBounds'. -/
def configBoundsCard : Claim7 := { stood := { row := configBoundsRow, standIns := [], harness := (true, "197fe1dcb6b1102eee4bb40f1bc9b5caafd48a73d3ed9b96ae4e70f2d7281958"), looks := false }, kinds := [], alts := [], laidByText := true, laidKinds := [.data], laidTests := true, laidLooks := .later }
def ConfigBoundsCardSaid : Prop := Claim7.holds Tryd.pinned (.plain (OpenSpec.ofChange configBoundsSpec)) configBoundsCard

/-- THE TIED CARD OF 'dustpanlaw02.ConfigGrows'. -/
def configGrowsCard : Claim7 := { stood := { row := configGrowsRow, standIns := [], harness := (true, "197fe1dcb6b1102eee4bb40f1bc9b5caafd48a73d3ed9b96ae4e70f2d7281958"), looks := false }, kinds := [], alts := [], laidByText := true, laidKinds := [.data], laidTests := true, laidLooks := .later }
def ConfigGrowsCardSaid : Prop := Claim7.holds Tryd.pinned (.plain (OpenSpec.ofChange configGrowsSpec)) configGrowsCard

/-- THE SECOND FORM's CARD OF 'dustpanlaw01.BitsPlay'. -/
def bitsPlayUptoCard : Claim7 := { stood := { row := bitsPlayUptoRow, standIns := [], harness := (true, "197fe1dcb6b1102eee4bb40f1bc9b5caafd48a73d3ed9b96ae4e70f2d7281958"), looks := false }, kinds := [], alts := [], laidByText := true, laidKinds := [.data], laidTests := true, laidLooks := .later }
def BitsPlayUptoCardSaid : Prop := Claim7.holds Tryd.pinned (.plain (OpenSpec.upto bitsPlaySpec)) bitsPlayUptoCard

/-- THE SECOND FORM's CARD OF 'dustpanlaw01.BitsCopies'. -/
def bitsCopiesUptoCard : Claim7 := { stood := { row := bitsCopiesUptoRow, standIns := [], harness := (true, "197fe1dcb6b1102eee4bb40f1bc9b5caafd48a73d3ed9b96ae4e70f2d7281958"), looks := false }, kinds := [], alts := [], laidByText := true, laidKinds := [.data], laidTests := true, laidLooks := .later }
def BitsCopiesUptoCardSaid : Prop := Claim7.holds Tryd.pinned (.plain (OpenSpec.upto bitsCopiesSpec)) bitsCopiesUptoCard

/-- THE SECOND FORM's CARD OF 'dustpanlaw01.BitsNone'. -/
def bitsNoneUptoCard : Claim7 := { stood := { row := bitsNoneUptoRow, standIns := [], harness := (true, "197fe1dcb6b1102eee4bb40f1bc9b5caafd48a73d3ed9b96ae4e70f2d7281958"), looks := false }, kinds := [], alts := [], laidByText := true, laidKinds := [.data], laidTests := true, laidLooks := .later }
def BitsNoneUptoCardSaid : Prop := Claim7.holds Tryd.pinned (.plain (OpenSpec.upto bitsNoneSpec)) bitsNoneUptoCard

/-- THE SECOND FORM's CARD OF 'dustpanlaw01.BitsRises'. -/
def bitsRisesUptoCard : Claim7 := { stood := { row := bitsRisesUptoRow, standIns := [], harness := (true, "197fe1dcb6b1102eee4bb40f1bc9b5caafd48a73d3ed9b96ae4e70f2d7281958"), looks := false }, kinds := [], alts := [], laidByText := true, laidKinds := [.data], laidTests := true, laidLooks := .later }
def BitsRisesUptoCardSaid : Prop := Claim7.holds Tryd.pinned (.plain (OpenSpec.upto bitsRisesSpec)) bitsRisesUptoCard

/-- THE SECOND FORM's CARD OF 'dustpanlaw01.BitsSames'. -/
def bitsSamesUptoCard : Claim7 := { stood := { row := bitsSamesUptoRow, standIns := [], harness := (true, "197fe1dcb6b1102eee4bb40f1bc9b5caafd48a73d3ed9b96ae4e70f2d7281958"), looks := false }, kinds := [], alts := [], laidByText := true, laidKinds := [.data], laidTests := true, laidLooks := .later }
def BitsSamesUptoCardSaid : Prop := Claim7.holds Tryd.pinned (.plain (OpenSpec.upto bitsSamesSpec)) bitsSamesUptoCard

/-- THE SECOND FORM's CARD OF 'dustpanlaw02.ConfigRight'. -/
def configRightUptoCard : Claim7 := { stood := { row := configRightUptoRow, standIns := [], harness := (true, "197fe1dcb6b1102eee4bb40f1bc9b5caafd48a73d3ed9b96ae4e70f2d7281958"), looks := false }, kinds := [], alts := [], laidByText := true, laidKinds := [.data], laidTests := true, laidLooks := .later }
def ConfigRightUptoCardSaid : Prop := Claim7.holds Tryd.pinned (.plain (OpenSpec.upto configRightSpec)) configRightUptoCard

/-- THE SECOND FORM's CARD OF 'dustpanlaw02.ConfigBounds'. -/
def configBoundsUptoCard : Claim7 := { stood := { row := configBoundsUptoRow, standIns := [], harness := (true, "197fe1dcb6b1102eee4bb40f1bc9b5caafd48a73d3ed9b96ae4e70f2d7281958"), looks := false }, kinds := [], alts := [], laidByText := true, laidKinds := [.data], laidTests := true, laidLooks := .later }
def ConfigBoundsUptoCardSaid : Prop := Claim7.holds Tryd.pinned (.plain (OpenSpec.upto configBoundsSpec)) configBoundsUptoCard

/-- THE SECOND FORM's CARD OF 'dustpanlaw02.ConfigGrows'. -/
def configGrowsUptoCard : Claim7 := { stood := { row := configGrowsUptoRow, standIns := [], harness := (true, "197fe1dcb6b1102eee4bb40f1bc9b5caafd48a73d3ed9b96ae4e70f2d7281958"), looks := false }, kinds := [], alts := [], laidByText := true, laidKinds := [.data], laidTests := true, laidLooks := .later }
def ConfigGrowsUptoCardSaid : Prop := Claim7.holds Tryd.pinned (.plain (OpenSpec.upto configGrowsSpec)) configGrowsUptoCard
end Rows
end Go.Proofs.YtahhenbphnejiaaDoor

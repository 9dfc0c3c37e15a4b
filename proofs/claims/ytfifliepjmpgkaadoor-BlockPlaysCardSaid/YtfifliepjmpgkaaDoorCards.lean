/-
  DERIVED. GIVEN WITH THE SEED: THE CARDS: each row of YtfifliepjmpgkaaDoorRows.lean that lists a variable, with what it lists TIED to the program's text (the seventh form; the later family's looks); each row that meets fmt, with fmt's text TOLD by the authors' own Lean function (tested against real Go, not proved from fmt's source: count such statements apart). THE CARD IS WHAT COUNTS. Prove the row's statement (the work); the ties are given (YtfifliepjmpgkaaDoorTie.lean); close each card by the builder's one call (the guide's Derived/Test/ToyasCard.lean, 'card_holds'). Laid BY PROGRAM, IN A SANDBOX (cutbox-door.mjs). By AI agents, Wed Nov 11 2026. No macro, syntax, notation, axiom, sorry.
-/
import Derived.Test.YtfifliepjmpgkaaDoorRows
import GoSem.ClaimSeven
namespace Go.Proofs.YtfifliepjmpgkaaDoor
namespace Rows

/-- THE TIED CARD OF 'dustpanlaw07.BlockPlays'. -/
def blockPlaysCard : Claim7 := { stood := { row := blockPlaysRow, standIns := [], harness := (true, "af54d50ec2e4abc7a0ff54d7764919cfd6d3421af484ff5bc0bb0113f738ffad"), looks := false }, kinds := [], alts := [], laidByText := true, laidKinds := [.data, .data], laidTests := true, laidLooks := .later }
def BlockPlaysCardSaid : Prop := Claim7.holds Tryd.pinned (.plain (OpenSpec.ofChange blockPlaysSpec)) blockPlaysCard

/-- THE TIED CARD OF 'dustpanlaw07.BlockCopies'. -/
def blockCopiesCard : Claim7 := { stood := { row := blockCopiesRow, standIns := [], harness := (true, "af54d50ec2e4abc7a0ff54d7764919cfd6d3421af484ff5bc0bb0113f738ffad"), looks := false }, kinds := [], alts := [], laidByText := true, laidKinds := [.data, .data], laidTests := true, laidLooks := .later }
def BlockCopiesCardSaid : Prop := Claim7.holds Tryd.pinned (.plain (OpenSpec.ofChange blockCopiesSpec)) blockCopiesCard

/-- THE TIED CARD OF 'dustpanlaw07.BlockNone'. -/
def blockNoneCard : Claim7 := { stood := { row := blockNoneRow, standIns := [], harness := (true, "af54d50ec2e4abc7a0ff54d7764919cfd6d3421af484ff5bc0bb0113f738ffad"), looks := false }, kinds := [], alts := [], laidByText := true, laidKinds := [.data, .data], laidTests := true, laidLooks := .later }
def BlockNoneCardSaid : Prop := Claim7.holds Tryd.pinned (.plain (OpenSpec.ofChange blockNoneSpec)) blockNoneCard

/-- THE TIED CARD OF 'dustpanlaw07.BlockSlots'. -/
def blockSlotsCard : Claim7 := { stood := { row := blockSlotsRow, standIns := [], harness := (true, "af54d50ec2e4abc7a0ff54d7764919cfd6d3421af484ff5bc0bb0113f738ffad"), looks := false }, kinds := [], alts := [], laidByText := true, laidKinds := [.data, .data], laidTests := true, laidLooks := .later }
def BlockSlotsCardSaid : Prop := Claim7.holds Tryd.pinned (.plain (OpenSpec.ofChange blockSlotsSpec)) blockSlotsCard

/-- THE TIED CARD OF 'dustpanlaw08.ListsPlay'. -/
def listsPlayCard : Claim7 := { stood := { row := listsPlayRow, standIns := [], harness := (true, "af54d50ec2e4abc7a0ff54d7764919cfd6d3421af484ff5bc0bb0113f738ffad"), looks := false }, kinds := [], alts := [], laidByText := true, laidKinds := [.data, .data], laidTests := true, laidLooks := .later }
def ListsPlayCardSaid : Prop := Claim7.holds Tryd.pinned (.plain (OpenSpec.ofChange listsPlaySpec)) listsPlayCard

/-- THE TIED CARD OF 'dustpanlaw08.ListsNone'. -/
def listsNoneCard : Claim7 := { stood := { row := listsNoneRow, standIns := [], harness := (true, "af54d50ec2e4abc7a0ff54d7764919cfd6d3421af484ff5bc0bb0113f738ffad"), looks := false }, kinds := [], alts := [], laidByText := true, laidKinds := [.data, .data], laidTests := true, laidLooks := .later }
def ListsNoneCardSaid : Prop := Claim7.holds Tryd.pinned (.plain (OpenSpec.ofChange listsNoneSpec)) listsNoneCard

/-- THE TIED CARD OF 'dustpanlaw08.ListsLast'. -/
def listsLastCard : Claim7 := { stood := { row := listsLastRow, standIns := [], harness := (true, "af54d50ec2e4abc7a0ff54d7764919cfd6d3421af484ff5bc0bb0113f738ffad"), looks := false }, kinds := [], alts := [], laidByText := true, laidKinds := [.data, .data], laidTests := true, laidLooks := .later }
def ListsLastCardSaid : Prop := Claim7.holds Tryd.pinned (.plain (OpenSpec.ofChange listsLastSpec)) listsLastCard

/-- THE SECOND FORM's CARD OF 'dustpanlaw07.BlockPlays'. -/
def blockPlaysUptoCard : Claim7 := { stood := { row := blockPlaysUptoRow, standIns := [], harness := (true, "af54d50ec2e4abc7a0ff54d7764919cfd6d3421af484ff5bc0bb0113f738ffad"), looks := false }, kinds := [], alts := [], laidByText := true, laidKinds := [.data, .data], laidTests := true, laidLooks := .later }
def BlockPlaysUptoCardSaid : Prop := Claim7.holds Tryd.pinned (.plain (OpenSpec.upto blockPlaysSpec)) blockPlaysUptoCard

/-- THE SECOND FORM's CARD OF 'dustpanlaw07.BlockCopies'. -/
def blockCopiesUptoCard : Claim7 := { stood := { row := blockCopiesUptoRow, standIns := [], harness := (true, "af54d50ec2e4abc7a0ff54d7764919cfd6d3421af484ff5bc0bb0113f738ffad"), looks := false }, kinds := [], alts := [], laidByText := true, laidKinds := [.data, .data], laidTests := true, laidLooks := .later }
def BlockCopiesUptoCardSaid : Prop := Claim7.holds Tryd.pinned (.plain (OpenSpec.upto blockCopiesSpec)) blockCopiesUptoCard

/-- THE SECOND FORM's CARD OF 'dustpanlaw07.BlockNone'. -/
def blockNoneUptoCard : Claim7 := { stood := { row := blockNoneUptoRow, standIns := [], harness := (true, "af54d50ec2e4abc7a0ff54d7764919cfd6d3421af484ff5bc0bb0113f738ffad"), looks := false }, kinds := [], alts := [], laidByText := true, laidKinds := [.data, .data], laidTests := true, laidLooks := .later }
def BlockNoneUptoCardSaid : Prop := Claim7.holds Tryd.pinned (.plain (OpenSpec.upto blockNoneSpec)) blockNoneUptoCard

/-- THE SECOND FORM's CARD OF 'dustpanlaw07.BlockSlots'. -/
def blockSlotsUptoCard : Claim7 := { stood := { row := blockSlotsUptoRow, standIns := [], harness := (true, "af54d50ec2e4abc7a0ff54d7764919cfd6d3421af484ff5bc0bb0113f738ffad"), looks := false }, kinds := [], alts := [], laidByText := true, laidKinds := [.data, .data], laidTests := true, laidLooks := .later }
def BlockSlotsUptoCardSaid : Prop := Claim7.holds Tryd.pinned (.plain (OpenSpec.upto blockSlotsSpec)) blockSlotsUptoCard

/-- THE SECOND FORM's CARD OF 'dustpanlaw08.ListsPlay'. -/
def listsPlayUptoCard : Claim7 := { stood := { row := listsPlayUptoRow, standIns := [], harness := (true, "af54d50ec2e4abc7a0ff54d7764919cfd6d3421af484ff5bc0bb0113f738ffad"), looks := false }, kinds := [], alts := [], laidByText := true, laidKinds := [.data, .data], laidTests := true, laidLooks := .later }
def ListsPlayUptoCardSaid : Prop := Claim7.holds Tryd.pinned (.plain (OpenSpec.upto listsPlaySpec)) listsPlayUptoCard

/-- THE SECOND FORM's CARD OF 'dustpanlaw08.ListsNone'. -/
def listsNoneUptoCard : Claim7 := { stood := { row := listsNoneUptoRow, standIns := [], harness := (true, "af54d50ec2e4abc7a0ff54d7764919cfd6d3421af484ff5bc0bb0113f738ffad"), looks := false }, kinds := [], alts := [], laidByText := true, laidKinds := [.data, .data], laidTests := true, laidLooks := .later }
def ListsNoneUptoCardSaid : Prop := Claim7.holds Tryd.pinned (.plain (OpenSpec.upto listsNoneSpec)) listsNoneUptoCard

/-- THE SECOND FORM's CARD OF 'dustpanlaw08.ListsLast'. -/
def listsLastUptoCard : Claim7 := { stood := { row := listsLastUptoRow, standIns := [], harness := (true, "af54d50ec2e4abc7a0ff54d7764919cfd6d3421af484ff5bc0bb0113f738ffad"), looks := false }, kinds := [], alts := [], laidByText := true, laidKinds := [.data, .data], laidTests := true, laidLooks := .later }
def ListsLastUptoCardSaid : Prop := Claim7.holds Tryd.pinned (.plain (OpenSpec.upto listsLastSpec)) listsLastUptoCard
end Rows
end Go.Proofs.YtfifliepjmpgkaaDoor

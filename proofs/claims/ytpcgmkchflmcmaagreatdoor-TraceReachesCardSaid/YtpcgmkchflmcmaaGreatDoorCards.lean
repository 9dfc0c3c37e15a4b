/-
  DERIVED. GIVEN WITH THE SEED: THE CARDS: each row of YtpcgmkchflmcmaaGreatDoorRows.lean that lists a variable, with what it lists TIED to the program's text (the seventh form; the later family's looks); each row that meets fmt, with fmt's text TOLD by the authors' own Lean function (tested against real Go, not proved from fmt's source: count such statements apart). THE CARD IS WHAT COUNTS. Prove the row's statement (the work); the ties are given (YtpcgmkchflmcmaaGreatDoorTie.lean); close each card by the builder's one call (the guide's Derived/Test/ToyasCard.lean, 'card_holds'). Laid BY PROGRAM, IN A SANDBOX (cutbox-door.mjs). By AI agents, Wed Nov 11 2026. No macro, syntax, notation, axiom, sorry.
-/
import Derived.Test.YtpcgmkchflmcmaaGreatDoorRows
import GoSem.ClaimSeven
namespace Go.Proofs.YtpcgmkchflmcmaaGreatDoor
namespace Rows

/-- THE TIED CARD OF 'dustpanlaw16.TraceReaches'. -/
def traceReachesCard : Claim7 := { stood := { row := traceReachesRow, standIns := [], harness := (true, "5f735884fcd8c07487a0abc9e61fb83beffe1b36c2647afabe9a7da1bae9af84"), looks := false }, kinds := [], alts := [], laidByText := true, laidKinds := [.data, .data, .data], laidTests := true, laidLooks := .later }
def TraceReachesCardSaid : Prop := Claim7.holds Tryz.pinned (.plain (OpenSpec.ofChange traceReachesSpec)) traceReachesCard

/-- THE TIED CARD OF 'dustpanlaw16.TraceMarks'. -/
def traceMarksCard : Claim7 := { stood := { row := traceMarksRow, standIns := [], harness := (true, "5f735884fcd8c07487a0abc9e61fb83beffe1b36c2647afabe9a7da1bae9af84"), looks := false }, kinds := [], alts := [], laidByText := true, laidKinds := [.data, .data, .data], laidTests := true, laidLooks := .later }
def TraceMarksCardSaid : Prop := Claim7.holds Tryz.pinned (.plain (OpenSpec.ofChange traceMarksSpec)) traceMarksCard

/-- THE TIED CARD OF 'dustpanlaw16.TraceNone'. -/
def traceNoneCard : Claim7 := { stood := { row := traceNoneRow, standIns := [], harness := (true, "5f735884fcd8c07487a0abc9e61fb83beffe1b36c2647afabe9a7da1bae9af84"), looks := false }, kinds := [], alts := [], laidByText := true, laidKinds := [.data, .data, .data], laidTests := true, laidLooks := .later }
def TraceNoneCardSaid : Prop := Claim7.holds Tryz.pinned (.plain (OpenSpec.ofChange traceNoneSpec)) traceNoneCard

/-- THE TIED CARD OF 'dustpanlaw16.TraceGrows'. -/
def traceGrowsCard : Claim7 := { stood := { row := traceGrowsRow, standIns := [], harness := (true, "5f735884fcd8c07487a0abc9e61fb83beffe1b36c2647afabe9a7da1bae9af84"), looks := false }, kinds := [], alts := [], laidByText := true, laidKinds := [.data, .data, .data], laidTests := true, laidLooks := .later }
def TraceGrowsCardSaid : Prop := Claim7.holds Tryz.pinned (.plain (OpenSpec.ofChange traceGrowsSpec)) traceGrowsCard

/-- THE TIED CARD OF 'dustpanlaw16.TraceRooms'. -/
def traceRoomsCard : Claim7 := { stood := { row := traceRoomsRow, standIns := [], harness := (true, "5f735884fcd8c07487a0abc9e61fb83beffe1b36c2647afabe9a7da1bae9af84"), looks := false }, kinds := [], alts := [], laidByText := true, laidKinds := [.data, .data, .data], laidTests := true, laidLooks := .later }
def TraceRoomsCardSaid : Prop := Claim7.holds Tryz.pinned (.plain (OpenSpec.ofChange traceRoomsSpec)) traceRoomsCard

/-- THE SECOND FORM's CARD OF 'dustpanlaw16.TraceReaches'. -/
def traceReachesUptoCard : Claim7 := { stood := { row := traceReachesUptoRow, standIns := [], harness := (true, "5f735884fcd8c07487a0abc9e61fb83beffe1b36c2647afabe9a7da1bae9af84"), looks := false }, kinds := [], alts := [], laidByText := true, laidKinds := [.data, .data, .data], laidTests := true, laidLooks := .later }
def TraceReachesUptoCardSaid : Prop := Claim7.holds Tryz.pinned (.plain (OpenSpec.upto traceReachesSpec)) traceReachesUptoCard

/-- THE SECOND FORM's CARD OF 'dustpanlaw16.TraceMarks'. -/
def traceMarksUptoCard : Claim7 := { stood := { row := traceMarksUptoRow, standIns := [], harness := (true, "5f735884fcd8c07487a0abc9e61fb83beffe1b36c2647afabe9a7da1bae9af84"), looks := false }, kinds := [], alts := [], laidByText := true, laidKinds := [.data, .data, .data], laidTests := true, laidLooks := .later }
def TraceMarksUptoCardSaid : Prop := Claim7.holds Tryz.pinned (.plain (OpenSpec.upto traceMarksSpec)) traceMarksUptoCard

/-- THE SECOND FORM's CARD OF 'dustpanlaw16.TraceNone'. -/
def traceNoneUptoCard : Claim7 := { stood := { row := traceNoneUptoRow, standIns := [], harness := (true, "5f735884fcd8c07487a0abc9e61fb83beffe1b36c2647afabe9a7da1bae9af84"), looks := false }, kinds := [], alts := [], laidByText := true, laidKinds := [.data, .data, .data], laidTests := true, laidLooks := .later }
def TraceNoneUptoCardSaid : Prop := Claim7.holds Tryz.pinned (.plain (OpenSpec.upto traceNoneSpec)) traceNoneUptoCard

/-- THE SECOND FORM's CARD OF 'dustpanlaw16.TraceGrows'. -/
def traceGrowsUptoCard : Claim7 := { stood := { row := traceGrowsUptoRow, standIns := [], harness := (true, "5f735884fcd8c07487a0abc9e61fb83beffe1b36c2647afabe9a7da1bae9af84"), looks := false }, kinds := [], alts := [], laidByText := true, laidKinds := [.data, .data, .data], laidTests := true, laidLooks := .later }
def TraceGrowsUptoCardSaid : Prop := Claim7.holds Tryz.pinned (.plain (OpenSpec.upto traceGrowsSpec)) traceGrowsUptoCard

/-- THE SECOND FORM's CARD OF 'dustpanlaw16.TraceRooms'. -/
def traceRoomsUptoCard : Claim7 := { stood := { row := traceRoomsUptoRow, standIns := [], harness := (true, "5f735884fcd8c07487a0abc9e61fb83beffe1b36c2647afabe9a7da1bae9af84"), looks := false }, kinds := [], alts := [], laidByText := true, laidKinds := [.data, .data, .data], laidTests := true, laidLooks := .later }
def TraceRoomsUptoCardSaid : Prop := Claim7.holds Tryz.pinned (.plain (OpenSpec.upto traceRoomsSpec)) traceRoomsUptoCard
end Rows
end Go.Proofs.YtpcgmkchflmcmaaGreatDoor

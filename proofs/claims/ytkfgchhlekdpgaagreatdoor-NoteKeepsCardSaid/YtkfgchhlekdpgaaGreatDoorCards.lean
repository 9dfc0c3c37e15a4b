/-
  DERIVED. GIVEN WITH THE SEED: THE CARDS: each row of YtkfgchhlekdpgaaGreatDoorRows.lean that lists a variable, with what it lists TIED to the program's text (the seventh form; the later family's looks); each row that meets fmt, with fmt's text TOLD by the authors' own Lean function (tested against real Go, not proved from fmt's source: count such statements apart). THE CARD IS WHAT COUNTS. Prove the row's statement (the work); the ties are given (YtkfgchhlekdpgaaGreatDoorTie.lean); close each card by the builder's one call (the guide's Derived/Test/ToyasCard.lean, 'card_holds'). Laid BY PROGRAM, IN A SANDBOX (cutbox-door.mjs). By AI agents, Wed Nov 11 2026. No macro, syntax, notation, axiom, sorry.
-/
import Derived.Test.YtkfgchhlekdpgaaGreatDoorRows
import GoSem.ClaimSeven
namespace Go.Proofs.YtkfgchhlekdpgaaGreatDoor
namespace Rows

/-- THE TIED CARD OF 'dustpanlaw19.NoteNotes'. -/
def noteNotesCard : Claim7 := { stood := { row := noteNotesRow, standIns := [], harness := (true, "d7154a21b68e5184ad13d74d195197837c782f2c37a80a21070802949d52849e"), looks := false }, kinds := [], alts := [], laidByText := true, laidKinds := [.data, .data], laidTests := true, laidLooks := .later }
def NoteNotesCardSaid : Prop := Claim7.holds Tryz.pinned (.plain (OpenSpec.ofChange noteNotesSpec)) noteNotesCard

/-- THE TIED CARD OF 'dustpanlaw19.NotePours'. -/
def notePoursCard : Claim7 := { stood := { row := notePoursRow, standIns := [], harness := (true, "d7154a21b68e5184ad13d74d195197837c782f2c37a80a21070802949d52849e"), looks := false }, kinds := [], alts := [], laidByText := true, laidKinds := [.data, .data], laidTests := true, laidLooks := .later }
def NotePoursCardSaid : Prop := Claim7.holds Tryz.pinned (.plain (OpenSpec.ofChange notePoursSpec)) notePoursCard

/-- THE TIED CARD OF 'dustpanlaw19.NoteRuns'. -/
def noteRunsCard : Claim7 := { stood := { row := noteRunsRow, standIns := [], harness := (true, "d7154a21b68e5184ad13d74d195197837c782f2c37a80a21070802949d52849e"), looks := false }, kinds := [], alts := [], laidByText := true, laidKinds := [.data, .data], laidTests := true, laidLooks := .later }
def NoteRunsCardSaid : Prop := Claim7.holds Tryz.pinned (.plain (OpenSpec.ofChange noteRunsSpec)) noteRunsCard

/-- THE TIED CARD OF 'dustpanlaw19.NoteKeeps'. -/
def noteKeepsCard : Claim7 := { stood := { row := noteKeepsRow, standIns := [], harness := (true, "d7154a21b68e5184ad13d74d195197837c782f2c37a80a21070802949d52849e"), looks := false }, kinds := [], alts := [], laidByText := true, laidKinds := [.data, .data], laidTests := true, laidLooks := .later }
def NoteKeepsCardSaid : Prop := Claim7.holds Tryz.pinned (.plain (OpenSpec.ofChange noteKeepsSpec)) noteKeepsCard

/-- THE TIED CARD OF 'dustpanlaw20.MutatorAlone'. -/
def mutatorAloneCard : Claim7 := { stood := { row := mutatorAloneRow, standIns := [], harness := (true, "d7154a21b68e5184ad13d74d195197837c782f2c37a80a21070802949d52849e"), looks := false }, kinds := [], alts := [], laidByText := true, laidKinds := [.data, .data, .data], laidTests := true, laidLooks := .later }
def MutatorAloneCardSaid : Prop := Claim7.holds Tryz.pinned (.plain (OpenSpec.ofChange mutatorAloneSpec)) mutatorAloneCard

/-- THE TIED CARD OF 'dustpanlaw20.MutatorNone'. -/
def mutatorNoneCard : Claim7 := { stood := { row := mutatorNoneRow, standIns := [], harness := (true, "d7154a21b68e5184ad13d74d195197837c782f2c37a80a21070802949d52849e"), looks := false }, kinds := [], alts := [], laidByText := true, laidKinds := [.data, .data, .data], laidTests := true, laidLooks := .later }
def MutatorNoneCardSaid : Prop := Claim7.holds Tryz.pinned (.plain (OpenSpec.ofChange mutatorNoneSpec)) mutatorNoneCard

/-- THE TIED CARD OF 'dustpanlaw20.MutatorStill'. -/
def mutatorStillCard : Claim7 := { stood := { row := mutatorStillRow, standIns := [], harness := (true, "d7154a21b68e5184ad13d74d195197837c782f2c37a80a21070802949d52849e"), looks := false }, kinds := [], alts := [], laidByText := true, laidKinds := [.data, .data, .data], laidTests := true, laidLooks := .later }
def MutatorStillCardSaid : Prop := Claim7.holds Tryz.pinned (.plain (OpenSpec.ofChange mutatorStillSpec)) mutatorStillCard

/-- THE TIED CARD OF 'dustpanlaw20.MutatorLogs'. -/
def mutatorLogsCard : Claim7 := { stood := { row := mutatorLogsRow, standIns := [], harness := (true, "d7154a21b68e5184ad13d74d195197837c782f2c37a80a21070802949d52849e"), looks := false }, kinds := [], alts := [], laidByText := true, laidKinds := [.data, .data, .data], laidTests := true, laidLooks := .later }
def MutatorLogsCardSaid : Prop := Claim7.holds Tryz.pinned (.plain (OpenSpec.ofChange mutatorLogsSpec)) mutatorLogsCard

/-- THE SECOND FORM's CARD OF 'dustpanlaw19.NoteNotes'. -/
def noteNotesUptoCard : Claim7 := { stood := { row := noteNotesUptoRow, standIns := [], harness := (true, "d7154a21b68e5184ad13d74d195197837c782f2c37a80a21070802949d52849e"), looks := false }, kinds := [], alts := [], laidByText := true, laidKinds := [.data, .data], laidTests := true, laidLooks := .later }
def NoteNotesUptoCardSaid : Prop := Claim7.holds Tryz.pinned (.plain (OpenSpec.upto noteNotesSpec)) noteNotesUptoCard

/-- THE SECOND FORM's CARD OF 'dustpanlaw19.NotePours'. -/
def notePoursUptoCard : Claim7 := { stood := { row := notePoursUptoRow, standIns := [], harness := (true, "d7154a21b68e5184ad13d74d195197837c782f2c37a80a21070802949d52849e"), looks := false }, kinds := [], alts := [], laidByText := true, laidKinds := [.data, .data], laidTests := true, laidLooks := .later }
def NotePoursUptoCardSaid : Prop := Claim7.holds Tryz.pinned (.plain (OpenSpec.upto notePoursSpec)) notePoursUptoCard

/-- THE SECOND FORM's CARD OF 'dustpanlaw19.NoteRuns'. -/
def noteRunsUptoCard : Claim7 := { stood := { row := noteRunsUptoRow, standIns := [], harness := (true, "d7154a21b68e5184ad13d74d195197837c782f2c37a80a21070802949d52849e"), looks := false }, kinds := [], alts := [], laidByText := true, laidKinds := [.data, .data], laidTests := true, laidLooks := .later }
def NoteRunsUptoCardSaid : Prop := Claim7.holds Tryz.pinned (.plain (OpenSpec.upto noteRunsSpec)) noteRunsUptoCard

/-- THE SECOND FORM's CARD OF 'dustpanlaw19.NoteKeeps'. -/
def noteKeepsUptoCard : Claim7 := { stood := { row := noteKeepsUptoRow, standIns := [], harness := (true, "d7154a21b68e5184ad13d74d195197837c782f2c37a80a21070802949d52849e"), looks := false }, kinds := [], alts := [], laidByText := true, laidKinds := [.data, .data], laidTests := true, laidLooks := .later }
def NoteKeepsUptoCardSaid : Prop := Claim7.holds Tryz.pinned (.plain (OpenSpec.upto noteKeepsSpec)) noteKeepsUptoCard

/-- THE SECOND FORM's CARD OF 'dustpanlaw20.MutatorAlone'. -/
def mutatorAloneUptoCard : Claim7 := { stood := { row := mutatorAloneUptoRow, standIns := [], harness := (true, "d7154a21b68e5184ad13d74d195197837c782f2c37a80a21070802949d52849e"), looks := false }, kinds := [], alts := [], laidByText := true, laidKinds := [.data, .data, .data], laidTests := true, laidLooks := .later }
def MutatorAloneUptoCardSaid : Prop := Claim7.holds Tryz.pinned (.plain (OpenSpec.upto mutatorAloneSpec)) mutatorAloneUptoCard

/-- THE SECOND FORM's CARD OF 'dustpanlaw20.MutatorNone'. -/
def mutatorNoneUptoCard : Claim7 := { stood := { row := mutatorNoneUptoRow, standIns := [], harness := (true, "d7154a21b68e5184ad13d74d195197837c782f2c37a80a21070802949d52849e"), looks := false }, kinds := [], alts := [], laidByText := true, laidKinds := [.data, .data, .data], laidTests := true, laidLooks := .later }
def MutatorNoneUptoCardSaid : Prop := Claim7.holds Tryz.pinned (.plain (OpenSpec.upto mutatorNoneSpec)) mutatorNoneUptoCard

/-- THE SECOND FORM's CARD OF 'dustpanlaw20.MutatorStill'. -/
def mutatorStillUptoCard : Claim7 := { stood := { row := mutatorStillUptoRow, standIns := [], harness := (true, "d7154a21b68e5184ad13d74d195197837c782f2c37a80a21070802949d52849e"), looks := false }, kinds := [], alts := [], laidByText := true, laidKinds := [.data, .data, .data], laidTests := true, laidLooks := .later }
def MutatorStillUptoCardSaid : Prop := Claim7.holds Tryz.pinned (.plain (OpenSpec.upto mutatorStillSpec)) mutatorStillUptoCard

/-- THE SECOND FORM's CARD OF 'dustpanlaw20.MutatorLogs'. -/
def mutatorLogsUptoCard : Claim7 := { stood := { row := mutatorLogsUptoRow, standIns := [], harness := (true, "d7154a21b68e5184ad13d74d195197837c782f2c37a80a21070802949d52849e"), looks := false }, kinds := [], alts := [], laidByText := true, laidKinds := [.data, .data, .data], laidTests := true, laidLooks := .later }
def MutatorLogsUptoCardSaid : Prop := Claim7.holds Tryz.pinned (.plain (OpenSpec.upto mutatorLogsSpec)) mutatorLogsUptoCard
end Rows
end Go.Proofs.YtkfgchhlekdpgaaGreatDoor

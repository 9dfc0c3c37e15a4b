/-
  DERIVED. GIVEN WITH THE SEED: THE CARDS: each row of YtbejddpfnglkbaaGreatDoorRows.lean that lists a variable, with what it lists TIED to the program's text (the seventh form; the later family's looks); each row that meets fmt, with fmt's text TOLD by the authors' own Lean function (tested against real Go, not proved from fmt's source: count such statements apart). THE CARD IS WHAT COUNTS. Prove the row's statement (the work); the ties are given (YtbejddpfnglkbaaGreatDoorTie.lean); close each card by the builder's one call (the guide's Derived/Test/ToyasCard.lean, 'card_holds'). Laid BY PROGRAM, IN A SANDBOX (cutbox-door.mjs). By AI agents, Wed Nov 11 2026. No macro, syntax, notation, axiom, sorry.
-/
import Derived.Test.YtbejddpfnglkbaaGreatDoorRows
import GoSem.ClaimSeven
namespace Go.Proofs.YtbejddpfnglkbaaGreatDoor
namespace Rows

/-- THE TIED CARD OF 'dustpanlaw15.SweepBlocks'. -/
def sweepBlocksCard : Claim7 := { stood := { row := sweepBlocksRow, standIns := [], harness := (true, "6aa6003e7ccfbc0fb62d09971ef82bbc3d4a813b43b03516702e8b93307bb406"), looks := false }, kinds := [], alts := [], laidByText := true, laidKinds := [.data, .data], laidTests := true, laidLooks := .later }
def SweepBlocksCardSaid : Prop := Claim7.holds Tryz.pinned (.plain (OpenSpec.ofChange sweepBlocksSpec)) sweepBlocksCard

/-- THE TIED CARD OF 'dustpanlaw15.SweepSteps'. -/
def sweepStepsCard : Claim7 := { stood := { row := sweepStepsRow, standIns := [], harness := (true, "6aa6003e7ccfbc0fb62d09971ef82bbc3d4a813b43b03516702e8b93307bb406"), looks := false }, kinds := [], alts := [], laidByText := true, laidKinds := [.data, .data], laidTests := true, laidLooks := .later }
def SweepStepsCardSaid : Prop := Claim7.holds Tryz.pinned (.plain (OpenSpec.ofChange sweepStepsSpec)) sweepStepsCard

/-- THE TIED CARD OF 'dustpanlaw15.SweepAll'. -/
def sweepAllCard : Claim7 := { stood := { row := sweepAllRow, standIns := [], harness := (true, "6aa6003e7ccfbc0fb62d09971ef82bbc3d4a813b43b03516702e8b93307bb406"), looks := false }, kinds := [], alts := [], laidByText := true, laidKinds := [.data, .data], laidTests := true, laidLooks := .later }
def SweepAllCardSaid : Prop := Claim7.holds Tryz.pinned (.plain (OpenSpec.ofChange sweepAllSpec)) sweepAllCard

/-- THE TIED CARD OF 'dustpanlaw15.SweepNone'. -/
def sweepNoneCard : Claim7 := { stood := { row := sweepNoneRow, standIns := [], harness := (true, "6aa6003e7ccfbc0fb62d09971ef82bbc3d4a813b43b03516702e8b93307bb406"), looks := false }, kinds := [], alts := [], laidByText := true, laidKinds := [.data, .data], laidTests := true, laidLooks := .later }
def SweepNoneCardSaid : Prop := Claim7.holds Tryz.pinned (.plain (OpenSpec.ofChange sweepNoneSpec)) sweepNoneCard

/-- THE TIED CARD OF 'dustpanlaw15.SweepTwice'. -/
def sweepTwiceCard : Claim7 := { stood := { row := sweepTwiceRow, standIns := [], harness := (true, "6aa6003e7ccfbc0fb62d09971ef82bbc3d4a813b43b03516702e8b93307bb406"), looks := false }, kinds := [], alts := [], laidByText := true, laidKinds := [.data, .data], laidTests := true, laidLooks := .later }
def SweepTwiceCardSaid : Prop := Claim7.holds Tryz.pinned (.plain (OpenSpec.ofChange sweepTwiceSpec)) sweepTwiceCard

/-- THE SECOND FORM's CARD OF 'dustpanlaw15.SweepBlocks'. -/
def sweepBlocksUptoCard : Claim7 := { stood := { row := sweepBlocksUptoRow, standIns := [], harness := (true, "6aa6003e7ccfbc0fb62d09971ef82bbc3d4a813b43b03516702e8b93307bb406"), looks := false }, kinds := [], alts := [], laidByText := true, laidKinds := [.data, .data], laidTests := true, laidLooks := .later }
def SweepBlocksUptoCardSaid : Prop := Claim7.holds Tryz.pinned (.plain (OpenSpec.upto sweepBlocksSpec)) sweepBlocksUptoCard

/-- THE SECOND FORM's CARD OF 'dustpanlaw15.SweepSteps'. -/
def sweepStepsUptoCard : Claim7 := { stood := { row := sweepStepsUptoRow, standIns := [], harness := (true, "6aa6003e7ccfbc0fb62d09971ef82bbc3d4a813b43b03516702e8b93307bb406"), looks := false }, kinds := [], alts := [], laidByText := true, laidKinds := [.data, .data], laidTests := true, laidLooks := .later }
def SweepStepsUptoCardSaid : Prop := Claim7.holds Tryz.pinned (.plain (OpenSpec.upto sweepStepsSpec)) sweepStepsUptoCard

/-- THE SECOND FORM's CARD OF 'dustpanlaw15.SweepAll'. -/
def sweepAllUptoCard : Claim7 := { stood := { row := sweepAllUptoRow, standIns := [], harness := (true, "6aa6003e7ccfbc0fb62d09971ef82bbc3d4a813b43b03516702e8b93307bb406"), looks := false }, kinds := [], alts := [], laidByText := true, laidKinds := [.data, .data], laidTests := true, laidLooks := .later }
def SweepAllUptoCardSaid : Prop := Claim7.holds Tryz.pinned (.plain (OpenSpec.upto sweepAllSpec)) sweepAllUptoCard

/-- THE SECOND FORM's CARD OF 'dustpanlaw15.SweepNone'. -/
def sweepNoneUptoCard : Claim7 := { stood := { row := sweepNoneUptoRow, standIns := [], harness := (true, "6aa6003e7ccfbc0fb62d09971ef82bbc3d4a813b43b03516702e8b93307bb406"), looks := false }, kinds := [], alts := [], laidByText := true, laidKinds := [.data, .data], laidTests := true, laidLooks := .later }
def SweepNoneUptoCardSaid : Prop := Claim7.holds Tryz.pinned (.plain (OpenSpec.upto sweepNoneSpec)) sweepNoneUptoCard

/-- THE SECOND FORM's CARD OF 'dustpanlaw15.SweepTwice'. -/
def sweepTwiceUptoCard : Claim7 := { stood := { row := sweepTwiceUptoRow, standIns := [], harness := (true, "6aa6003e7ccfbc0fb62d09971ef82bbc3d4a813b43b03516702e8b93307bb406"), looks := false }, kinds := [], alts := [], laidByText := true, laidKinds := [.data, .data], laidTests := true, laidLooks := .later }
def SweepTwiceUptoCardSaid : Prop := Claim7.holds Tryz.pinned (.plain (OpenSpec.upto sweepTwiceSpec)) sweepTwiceUptoCard
end Rows
end Go.Proofs.YtbejddpfnglkbaaGreatDoor

/-
  DERIVED. GIVEN WITH THE SEED: THE CARDS: each row of YthpgnlcmpoldfaaGreatDoorRows.lean that lists a variable, with what it lists TIED to the program's text (the seventh form; the later family's looks); each row that meets fmt, with fmt's text TOLD by the authors' own Lean function (tested against real Go, not proved from fmt's source: count such statements apart). THE CARD IS WHAT COUNTS. Prove the row's statement (the work); the ties are given (YthpgnlcmpoldfaaGreatDoorTie.lean); close each card by the builder's one call (the guide's Derived/Test/ToyasCard.lean, 'card_holds'). Laid BY PROGRAM, IN A SANDBOX (cutbox-door.mjs). By AI agents, Wed Nov 11 2026. No macro, syntax, notation, axiom, sorry.
-/
import Derived.Test.YthpgnlcmpoldfaaGreatDoorRows
import GoSem.ClaimSeven
namespace Go.Proofs.YthpgnlcmpoldfaaGreatDoor
namespace Rows

/-- THE TIED CARD OF 'dustpanlaw20.MutatorNone'. -/
def mutatorNoneCard : Claim7 := { stood := { row := mutatorNoneRow, standIns := [], harness := (true, "8bcdbe004f7c2752a6d4fb1b4b05c9c0a713dd6300910ee1729d946c5dadd9d4"), looks := false }, kinds := [], alts := [], laidByText := true, laidKinds := [.data, .data, .data], laidTests := true, laidLooks := .later }
def MutatorNoneCardSaid : Prop := Claim7.holds Tryz.pinned (.plain (OpenSpec.ofChange mutatorNoneSpec)) mutatorNoneCard

/-- THE TIED CARD OF 'dustpanlaw20.MutatorStill'. -/
def mutatorStillCard : Claim7 := { stood := { row := mutatorStillRow, standIns := [], harness := (true, "8bcdbe004f7c2752a6d4fb1b4b05c9c0a713dd6300910ee1729d946c5dadd9d4"), looks := false }, kinds := [], alts := [], laidByText := true, laidKinds := [.data, .data, .data], laidTests := true, laidLooks := .later }
def MutatorStillCardSaid : Prop := Claim7.holds Tryz.pinned (.plain (OpenSpec.ofChange mutatorStillSpec)) mutatorStillCard

/-- THE TIED CARD OF 'dustpanlaw21.CollectorRests'. -/
def collectorRestsCard : Claim7 := { stood := { row := collectorRestsRow, standIns := [], harness := (true, "8bcdbe004f7c2752a6d4fb1b4b05c9c0a713dd6300910ee1729d946c5dadd9d4"), looks := false }, kinds := [], alts := [], laidByText := true, laidKinds := [.data, .data, .data], laidTests := true, laidLooks := .later }
def CollectorRestsCardSaid : Prop := Claim7.holds Tryz.pinned (.plain (OpenSpec.ofChange collectorRestsSpec)) collectorRestsCard

/-- THE TIED CARD OF 'dustpanlaw22.WorldNone'. -/
def worldNoneCard : Claim7 := { stood := { row := worldNoneRow, standIns := [], harness := (true, "8bcdbe004f7c2752a6d4fb1b4b05c9c0a713dd6300910ee1729d946c5dadd9d4"), looks := false }, kinds := [], alts := [], laidByText := true, laidKinds := [.data], laidTests := true, laidLooks := .later }
def WorldNoneCardSaid : Prop := Claim7.holds Tryz.pinned (.plain (OpenSpec.ofChange worldNoneSpec)) worldNoneCard

/-- THE SECOND FORM's CARD OF 'dustpanlaw20.MutatorNone'. -/
def mutatorNoneUptoCard : Claim7 := { stood := { row := mutatorNoneUptoRow, standIns := [], harness := (true, "8bcdbe004f7c2752a6d4fb1b4b05c9c0a713dd6300910ee1729d946c5dadd9d4"), looks := false }, kinds := [], alts := [], laidByText := true, laidKinds := [.data, .data, .data], laidTests := true, laidLooks := .later }
def MutatorNoneUptoCardSaid : Prop := Claim7.holds Tryz.pinned (.plain (OpenSpec.upto mutatorNoneSpec)) mutatorNoneUptoCard

/-- THE SECOND FORM's CARD OF 'dustpanlaw20.MutatorStill'. -/
def mutatorStillUptoCard : Claim7 := { stood := { row := mutatorStillUptoRow, standIns := [], harness := (true, "8bcdbe004f7c2752a6d4fb1b4b05c9c0a713dd6300910ee1729d946c5dadd9d4"), looks := false }, kinds := [], alts := [], laidByText := true, laidKinds := [.data, .data, .data], laidTests := true, laidLooks := .later }
def MutatorStillUptoCardSaid : Prop := Claim7.holds Tryz.pinned (.plain (OpenSpec.upto mutatorStillSpec)) mutatorStillUptoCard

/-- THE SECOND FORM's CARD OF 'dustpanlaw21.CollectorRests'. -/
def collectorRestsUptoCard : Claim7 := { stood := { row := collectorRestsUptoRow, standIns := [], harness := (true, "8bcdbe004f7c2752a6d4fb1b4b05c9c0a713dd6300910ee1729d946c5dadd9d4"), looks := false }, kinds := [], alts := [], laidByText := true, laidKinds := [.data, .data, .data], laidTests := true, laidLooks := .later }
def CollectorRestsUptoCardSaid : Prop := Claim7.holds Tryz.pinned (.plain (OpenSpec.upto collectorRestsSpec)) collectorRestsUptoCard

/-- THE SECOND FORM's CARD OF 'dustpanlaw22.WorldNone'. -/
def worldNoneUptoCard : Claim7 := { stood := { row := worldNoneUptoRow, standIns := [], harness := (true, "8bcdbe004f7c2752a6d4fb1b4b05c9c0a713dd6300910ee1729d946c5dadd9d4"), looks := false }, kinds := [], alts := [], laidByText := true, laidKinds := [.data], laidTests := true, laidLooks := .later }
def WorldNoneUptoCardSaid : Prop := Claim7.holds Tryz.pinned (.plain (OpenSpec.upto worldNoneSpec)) worldNoneUptoCard
end Rows
end Go.Proofs.YthpgnlcmpoldfaaGreatDoor

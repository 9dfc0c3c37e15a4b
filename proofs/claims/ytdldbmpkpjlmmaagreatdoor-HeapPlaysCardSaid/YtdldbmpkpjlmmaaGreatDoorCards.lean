/-
  DERIVED. GIVEN WITH THE SEED: THE CARDS: each row of YtdldbmpkpjlmmaaGreatDoorRows.lean that lists a variable, with what it lists TIED to the program's text (the seventh form; the later family's looks); each row that meets fmt, with fmt's text TOLD by the authors' own Lean function (tested against real Go, not proved from fmt's source: count such statements apart). THE CARD IS WHAT COUNTS. Prove the row's statement (the work); the ties are given (YtdldbmpkpjlmmaaGreatDoorTie.lean); close each card by the builder's one call (the guide's Derived/Test/ToyasCard.lean, 'card_holds'). Laid BY PROGRAM, IN A SANDBOX (cutbox-door.mjs). By AI agents, Wed Nov 11 2026. No macro, syntax, notation, axiom, sorry.
-/
import Derived.Test.YtdldbmpkpjlmmaaGreatDoorRows
import GoSem.ClaimSeven
namespace Go.Proofs.YtdldbmpkpjlmmaaGreatDoor
namespace Rows

/-- THE TIED CARD OF 'dustpanlaw11.HeapPlays'. -/
def heapPlaysCard : Claim7 := { stood := { row := heapPlaysRow, standIns := [], harness := (true, "2a25668618f2f17714641f317479dedb47bc1be06bae7bf666ebd8dc72a83d0a"), looks := false }, kinds := [], alts := [], laidByText := true, laidKinds := [.data, .data], laidTests := true, laidLooks := .later }
def HeapPlaysCardSaid : Prop := Claim7.holds Tryz.pinned (.plain (OpenSpec.ofChange heapPlaysSpec)) heapPlaysCard

/-- THE TIED CARD OF 'dustpanlaw11.HeapLooks'. -/
def heapLooksCard : Claim7 := { stood := { row := heapLooksRow, standIns := [], harness := (true, "2a25668618f2f17714641f317479dedb47bc1be06bae7bf666ebd8dc72a83d0a"), looks := false }, kinds := [], alts := [], laidByText := true, laidKinds := [.data, .data], laidTests := true, laidLooks := .later }
def HeapLooksCardSaid : Prop := Claim7.holds Tryz.pinned (.plain (OpenSpec.ofChange heapLooksSpec)) heapLooksCard

/-- THE TIED CARD OF 'dustpanlaw11.HeapParts'. -/
def heapPartsCard : Claim7 := { stood := { row := heapPartsRow, standIns := [], harness := (true, "2a25668618f2f17714641f317479dedb47bc1be06bae7bf666ebd8dc72a83d0a"), looks := false }, kinds := [], alts := [], laidByText := true, laidKinds := [.data, .data], laidTests := true, laidLooks := .later }
def HeapPartsCardSaid : Prop := Claim7.holds Tryz.pinned (.plain (OpenSpec.ofChange heapPartsSpec)) heapPartsCard

/-- THE TIED CARD OF 'dustpanlaw11.HeapNone'. -/
def heapNoneCard : Claim7 := { stood := { row := heapNoneRow, standIns := [], harness := (true, "2a25668618f2f17714641f317479dedb47bc1be06bae7bf666ebd8dc72a83d0a"), looks := false }, kinds := [], alts := [], laidByText := true, laidKinds := [.data, .data], laidTests := true, laidLooks := .later }
def HeapNoneCardSaid : Prop := Claim7.holds Tryz.pinned (.plain (OpenSpec.ofChange heapNoneSpec)) heapNoneCard

/-- THE TIED CARD OF 'dustpanlaw11.HeapMakes'. -/
def heapMakesCard : Claim7 := { stood := { row := heapMakesRow, standIns := [], harness := (true, "2a25668618f2f17714641f317479dedb47bc1be06bae7bf666ebd8dc72a83d0a"), looks := false }, kinds := [], alts := [], laidByText := true, laidKinds := [.data, .data], laidTests := true, laidLooks := .later }
def HeapMakesCardSaid : Prop := Claim7.holds Tryz.pinned (.plain (OpenSpec.ofChange heapMakesSpec)) heapMakesCard

/-- THE SECOND FORM's CARD OF 'dustpanlaw11.HeapPlays'. -/
def heapPlaysUptoCard : Claim7 := { stood := { row := heapPlaysUptoRow, standIns := [], harness := (true, "2a25668618f2f17714641f317479dedb47bc1be06bae7bf666ebd8dc72a83d0a"), looks := false }, kinds := [], alts := [], laidByText := true, laidKinds := [.data, .data], laidTests := true, laidLooks := .later }
def HeapPlaysUptoCardSaid : Prop := Claim7.holds Tryz.pinned (.plain (OpenSpec.upto heapPlaysSpec)) heapPlaysUptoCard

/-- THE SECOND FORM's CARD OF 'dustpanlaw11.HeapLooks'. -/
def heapLooksUptoCard : Claim7 := { stood := { row := heapLooksUptoRow, standIns := [], harness := (true, "2a25668618f2f17714641f317479dedb47bc1be06bae7bf666ebd8dc72a83d0a"), looks := false }, kinds := [], alts := [], laidByText := true, laidKinds := [.data, .data], laidTests := true, laidLooks := .later }
def HeapLooksUptoCardSaid : Prop := Claim7.holds Tryz.pinned (.plain (OpenSpec.upto heapLooksSpec)) heapLooksUptoCard

/-- THE SECOND FORM's CARD OF 'dustpanlaw11.HeapParts'. -/
def heapPartsUptoCard : Claim7 := { stood := { row := heapPartsUptoRow, standIns := [], harness := (true, "2a25668618f2f17714641f317479dedb47bc1be06bae7bf666ebd8dc72a83d0a"), looks := false }, kinds := [], alts := [], laidByText := true, laidKinds := [.data, .data], laidTests := true, laidLooks := .later }
def HeapPartsUptoCardSaid : Prop := Claim7.holds Tryz.pinned (.plain (OpenSpec.upto heapPartsSpec)) heapPartsUptoCard

/-- THE SECOND FORM's CARD OF 'dustpanlaw11.HeapNone'. -/
def heapNoneUptoCard : Claim7 := { stood := { row := heapNoneUptoRow, standIns := [], harness := (true, "2a25668618f2f17714641f317479dedb47bc1be06bae7bf666ebd8dc72a83d0a"), looks := false }, kinds := [], alts := [], laidByText := true, laidKinds := [.data, .data], laidTests := true, laidLooks := .later }
def HeapNoneUptoCardSaid : Prop := Claim7.holds Tryz.pinned (.plain (OpenSpec.upto heapNoneSpec)) heapNoneUptoCard

/-- THE SECOND FORM's CARD OF 'dustpanlaw11.HeapMakes'. -/
def heapMakesUptoCard : Claim7 := { stood := { row := heapMakesUptoRow, standIns := [], harness := (true, "2a25668618f2f17714641f317479dedb47bc1be06bae7bf666ebd8dc72a83d0a"), looks := false }, kinds := [], alts := [], laidByText := true, laidKinds := [.data, .data], laidTests := true, laidLooks := .later }
def HeapMakesUptoCardSaid : Prop := Claim7.holds Tryz.pinned (.plain (OpenSpec.upto heapMakesSpec)) heapMakesUptoCard
end Rows
end Go.Proofs.YtdldbmpkpjlmmaaGreatDoor

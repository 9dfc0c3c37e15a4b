/-
  DERIVED. GIVEN WITH THE SEED: THE CARDS: each row of YtooojajagkbhiaaDoorRows.lean that lists a variable, with what it lists TIED to the program's text (the seventh form; the later family's looks); each row that meets fmt, with fmt's text TOLD by the authors' own Lean function (tested against real Go, not proved from fmt's source: count such statements apart). THE CARD IS WHAT COUNTS. Prove the row's statement (the work); the ties are given (YtooojajagkbhiaaDoorTie.lean); close each card by the builder's one call (the guide's Derived/Test/ToyasCard.lean, 'card_holds'). Laid BY PROGRAM, IN A SANDBOX (cutbox-door.mjs). By AI agents, Wed Nov 11 2026. No macro, syntax, notation, axiom, sorry.
-/
import Derived.Test.YtooojajagkbhiaaDoorRows
import GoSem.ClaimSeven
namespace Go.Proofs.YtooojajagkbhiaaDoor
namespace Rows

/-- THE TIED CARD OF 'dustpanlaw08.ListsPlay'. -/
def listsPlayCard : Claim7 := { stood := { row := listsPlayRow, standIns := [], harness := (true, "f28f33c02c0e2696cc7d0011f3530e1d54898f7f552c5f04e11364cf2c0735bd"), looks := false }, kinds := [], alts := [], laidByText := true, laidKinds := [.data, .data], laidTests := true, laidLooks := .later }
def ListsPlayCardSaid : Prop := Claim7.holds Tryd.pinned (.plain (OpenSpec.ofChange listsPlaySpec)) listsPlayCard

/-- THE TIED CARD OF 'dustpanlaw08.ListsNone'. -/
def listsNoneCard : Claim7 := { stood := { row := listsNoneRow, standIns := [], harness := (true, "f28f33c02c0e2696cc7d0011f3530e1d54898f7f552c5f04e11364cf2c0735bd"), looks := false }, kinds := [], alts := [], laidByText := true, laidKinds := [.data, .data], laidTests := true, laidLooks := .later }
def ListsNoneCardSaid : Prop := Claim7.holds Tryd.pinned (.plain (OpenSpec.ofChange listsNoneSpec)) listsNoneCard

/-- THE TIED CARD OF 'dustpanlaw08.ListsLast'. -/
def listsLastCard : Claim7 := { stood := { row := listsLastRow, standIns := [], harness := (true, "f28f33c02c0e2696cc7d0011f3530e1d54898f7f552c5f04e11364cf2c0735bd"), looks := false }, kinds := [], alts := [], laidByText := true, laidKinds := [.data, .data], laidTests := true, laidLooks := .later }
def ListsLastCardSaid : Prop := Claim7.holds Tryd.pinned (.plain (OpenSpec.ofChange listsLastSpec)) listsLastCard

/-- THE SECOND FORM's CARD OF 'dustpanlaw08.ListsPlay'. -/
def listsPlayUptoCard : Claim7 := { stood := { row := listsPlayUptoRow, standIns := [], harness := (true, "f28f33c02c0e2696cc7d0011f3530e1d54898f7f552c5f04e11364cf2c0735bd"), looks := false }, kinds := [], alts := [], laidByText := true, laidKinds := [.data, .data], laidTests := true, laidLooks := .later }
def ListsPlayUptoCardSaid : Prop := Claim7.holds Tryd.pinned (.plain (OpenSpec.upto listsPlaySpec)) listsPlayUptoCard

/-- THE SECOND FORM's CARD OF 'dustpanlaw08.ListsNone'. -/
def listsNoneUptoCard : Claim7 := { stood := { row := listsNoneUptoRow, standIns := [], harness := (true, "f28f33c02c0e2696cc7d0011f3530e1d54898f7f552c5f04e11364cf2c0735bd"), looks := false }, kinds := [], alts := [], laidByText := true, laidKinds := [.data, .data], laidTests := true, laidLooks := .later }
def ListsNoneUptoCardSaid : Prop := Claim7.holds Tryd.pinned (.plain (OpenSpec.upto listsNoneSpec)) listsNoneUptoCard

/-- THE SECOND FORM's CARD OF 'dustpanlaw08.ListsLast'. -/
def listsLastUptoCard : Claim7 := { stood := { row := listsLastUptoRow, standIns := [], harness := (true, "f28f33c02c0e2696cc7d0011f3530e1d54898f7f552c5f04e11364cf2c0735bd"), looks := false }, kinds := [], alts := [], laidByText := true, laidKinds := [.data, .data], laidTests := true, laidLooks := .later }
def ListsLastUptoCardSaid : Prop := Claim7.holds Tryd.pinned (.plain (OpenSpec.upto listsLastSpec)) listsLastUptoCard
end Rows
end Go.Proofs.YtooojajagkbhiaaDoor

/-
  NARROWER THAN 'FOR EVERY INPUT', by the rows' own cells (each row's printed sentence says how): NoteNotes: laid · NotePours: laid · NoteRuns: laid · NoteKeeps: laid · MutatorAlone: laid · MutatorNone: laid · MutatorStill: laid · MutatorLogs: laid.
  DERIVED. THE GIVEN ROWS OF THIS SEAT. 8 by the template 'for every input the law returns true; each argument reads behind the call as it read before'; 0 by the template 'total and deterministic' (their statements: YtkfgchhlekdpgaaGreatDoorTotals.lean).
  GIVEN WITH THE SEED: the statements are not yours to turn. If you find one false, say at which input.
  Laid BY PROGRAM, IN A SANDBOX (cutbox-rows.mjs): the forced cells as the released guide's own fill.sh prints them over the translation 7c1b4973799c033c… (all of the seat's roots in one cut). By AI agents, Wed Nov 11 2026. No macro, syntax, notation, axiom, sorry.
-/
import Derived.Test.YtkfgchhlekdpgaaGreatDoorChecked
import GoSem.Claim
import GoSem.ClaimJoined
import GoSem.ClaimMapViews
import Derived.JoinedTies
import Derived.KernelRfl
namespace Go.Proofs.YtkfgchhlekdpgaaGreatDoor
/- THE CELL 'sum', in the pinned program and in every row, IS THE sha256 OF THE DUMP (.gsa) THAT YtkfgchhlekdpgaaGreatDoorProg.lean LOADS. Nothing in Lean hashes anything: it is a label: what it is worth is what the hold of that sum in a sandbox is worth. -/
noncomputable def Tryz.pinned : Pinned := { name := "ytkfgchhlekdpgaagreatdoor", sum := "7c1b4973799c033cf21513eba037c602f500e11c845c778b1a7c2013d0a71fa8", checked := Tryz.checked }
namespace Rows
def none {H : Type} : Left H := { results := [], args := [] }

/- WHAT THE LISTED PACKAGE-LEVEL VARIABLES READ AS WHEN THE CALL BEGINS. Each datum BY PROGRAM (the guide's laid-datum.mjs) off the statement by which the dump's own 'gosem.cut.vars' lays the variable. In a bare row this is a premise. The card (YtkfgchhlekdpgaaGreatDoorCards.lean) ties it to the program's text. -/
def laid_dustpan_config_limits {H : Type} : DataW H := .agg [.agg [.lit (.int .i64 1), .lit (.int .i64 4096)], .agg [.lit (.int .i64 16), .lit (.int .i64 256)], .agg [.lit (.int .i64 1), .lit (.int .i64 8)], .agg [.lit (.int .i64 1), .lit (.int .i64 64)], .agg [.lit (.int .i64 0), .lit (.int .i64 64)], .agg [.lit (.int .i64 1), .lit (.int .i64 256)], .agg [.lit (.int .i64 1), .lit (.int .i64 4096)]]
def laid_dustpan_class_sizes {H : Type} : DataW H := .agg [.lit (.int .i64 2), .lit (.int .i64 4), .lit (.int .i64 8), .lit (.int .i64 16)]
def laid_dustpan_op_forms {H : Type} : DataW H := .agg [.agg [.lit (.string []), .agg [.lit (.int .i64 0), .lit (.int .i64 0), .lit (.int .i64 0)]], .agg [.lit (.string [97, 108, 108, 111, 99]), .agg [.lit (.int .i64 1), .lit (.int .i64 3), .lit (.int .i64 0)]], .agg [.lit (.string [108, 111, 97, 100]), .agg [.lit (.int .i64 1), .lit (.int .i64 1), .lit (.int .i64 4)]], .agg [.lit (.string [115, 116, 111, 114, 101]), .agg [.lit (.int .i64 1), .lit (.int .i64 4), .lit (.int .i64 1)]], .agg [.lit (.string [103, 101, 116]), .agg [.lit (.int .i64 1), .lit (.int .i64 2), .lit (.int .i64 0)]], .agg [.lit (.string [115, 101, 116]), .agg [.lit (.int .i64 2), .lit (.int .i64 1), .lit (.int .i64 0)]], .agg [.lit (.string [100, 114, 111, 112]), .agg [.lit (.int .i64 1), .lit (.int .i64 0), .lit (.int .i64 0)]], .agg [.lit (.string [109, 111, 118, 101]), .agg [.lit (.int .i64 1), .lit (.int .i64 1), .lit (.int .i64 0)]], .agg [.lit (.string [115, 97, 102, 101]), .agg [.lit (.int .i64 0), .lit (.int .i64 0), .lit (.int .i64 0)]]]

/-- 'dustpanlaw19.NoteNotes': WHATEVER THE INPUT: true; the input reads as it did. -/
def noteNotesSpec : ChangeSpec := { name := "noteNotes", fn := fun _ => fun
  | [d1, d2, d3] => { results := [.lit (.bool true)], args := [d1, d2, d3] }
  | _ => none }
def noteNotesRow : OpenClaim := { program := "ytkfgchhlekdpgaagreatdoor", sum := "7c1b4973799c033cf21513eba037c602f500e11c845c778b1a7c2013d0a71fa8", func := "dustpan/dustpanlaw19.NoteNotes", spec := "noteNotes", unfollowed := true, recurses := true, named := ["dustpan/config.limits", "dustpan/class.sizes"], apart := false, laid := [("dustpan/config.limits", laid_dustpan_config_limits), ("dustpan/class.sizes", laid_dustpan_class_sizes)] }
def NoteNotesSaid : Prop := noteNotesRow.holds Tryz.pinned (OpenSpec.ofChange noteNotesSpec)

/-- ITS FALSE NEIGHBOUR: 'it returns false'. Refute it at one input. -/
def noteNotesWrong : ChangeSpec := { name := "noteNotes", fn := fun _ => fun
  | [d1, d2, d3] => { results := [.lit (.bool false)], args := [d1, d2, d3] }
  | _ => none }
def NoteNotesWrongFalsely : Prop := noteNotesRow.holds Tryz.pinned (OpenSpec.ofChange noteNotesWrong)

/-- 'dustpanlaw19.NotePours': WHATEVER THE INPUT: true; the input reads as it did. -/
def notePoursSpec : ChangeSpec := { name := "notePours", fn := fun _ => fun
  | [d1, d2] => { results := [.lit (.bool true)], args := [d1, d2] }
  | _ => none }
def notePoursRow : OpenClaim := { program := "ytkfgchhlekdpgaagreatdoor", sum := "7c1b4973799c033cf21513eba037c602f500e11c845c778b1a7c2013d0a71fa8", func := "dustpan/dustpanlaw19.NotePours", spec := "notePours", unfollowed := true, recurses := true, named := ["dustpan/config.limits", "dustpan/class.sizes"], apart := false, laid := [("dustpan/config.limits", laid_dustpan_config_limits), ("dustpan/class.sizes", laid_dustpan_class_sizes)] }
def NotePoursSaid : Prop := notePoursRow.holds Tryz.pinned (OpenSpec.ofChange notePoursSpec)

/-- ITS FALSE NEIGHBOUR: 'it returns false'. Refute it at one input. -/
def notePoursWrong : ChangeSpec := { name := "notePours", fn := fun _ => fun
  | [d1, d2] => { results := [.lit (.bool false)], args := [d1, d2] }
  | _ => none }
def NotePoursWrongFalsely : Prop := notePoursRow.holds Tryz.pinned (OpenSpec.ofChange notePoursWrong)

/-- 'dustpanlaw19.NoteRuns': WHATEVER THE INPUT: true; the input reads as it did. -/
def noteRunsSpec : ChangeSpec := { name := "noteRuns", fn := fun _ => fun
  | [d1, d2] => { results := [.lit (.bool true)], args := [d1, d2] }
  | _ => none }
def noteRunsRow : OpenClaim := { program := "ytkfgchhlekdpgaagreatdoor", sum := "7c1b4973799c033cf21513eba037c602f500e11c845c778b1a7c2013d0a71fa8", func := "dustpan/dustpanlaw19.NoteRuns", spec := "noteRuns", unfollowed := true, recurses := true, named := ["dustpan/config.limits", "dustpan/class.sizes"], apart := false, laid := [("dustpan/config.limits", laid_dustpan_config_limits), ("dustpan/class.sizes", laid_dustpan_class_sizes)] }
def NoteRunsSaid : Prop := noteRunsRow.holds Tryz.pinned (OpenSpec.ofChange noteRunsSpec)

/-- ITS FALSE NEIGHBOUR: 'it returns false'. Refute it at one input. -/
def noteRunsWrong : ChangeSpec := { name := "noteRuns", fn := fun _ => fun
  | [d1, d2] => { results := [.lit (.bool false)], args := [d1, d2] }
  | _ => none }
def NoteRunsWrongFalsely : Prop := noteRunsRow.holds Tryz.pinned (OpenSpec.ofChange noteRunsWrong)

/-- 'dustpanlaw19.NoteKeeps': WHATEVER THE INPUT: true; the input reads as it did. -/
def noteKeepsSpec : ChangeSpec := { name := "noteKeeps", fn := fun _ => fun
  | [d1, d2] => { results := [.lit (.bool true)], args := [d1, d2] }
  | _ => none }
def noteKeepsRow : OpenClaim := { program := "ytkfgchhlekdpgaagreatdoor", sum := "7c1b4973799c033cf21513eba037c602f500e11c845c778b1a7c2013d0a71fa8", func := "dustpan/dustpanlaw19.NoteKeeps", spec := "noteKeeps", unfollowed := true, recurses := true, named := ["dustpan/config.limits", "dustpan/class.sizes"], apart := false, laid := [("dustpan/config.limits", laid_dustpan_config_limits), ("dustpan/class.sizes", laid_dustpan_class_sizes)] }
def NoteKeepsSaid : Prop := noteKeepsRow.holds Tryz.pinned (OpenSpec.ofChange noteKeepsSpec)

/-- ITS FALSE NEIGHBOUR: 'it returns false'. Refute it at one input. -/
def noteKeepsWrong : ChangeSpec := { name := "noteKeeps", fn := fun _ => fun
  | [d1, d2] => { results := [.lit (.bool false)], args := [d1, d2] }
  | _ => none }
def NoteKeepsWrongFalsely : Prop := noteKeepsRow.holds Tryz.pinned (OpenSpec.ofChange noteKeepsWrong)

/-- 'dustpanlaw20.MutatorAlone': WHATEVER THE INPUT: true; the input reads as it did. -/
def mutatorAloneSpec : ChangeSpec := { name := "mutatorAlone", fn := fun _ => fun
  | [d1, d2] => { results := [.lit (.bool true)], args := [d1, d2] }
  | _ => none }
def mutatorAloneRow : OpenClaim := { program := "ytkfgchhlekdpgaagreatdoor", sum := "7c1b4973799c033cf21513eba037c602f500e11c845c778b1a7c2013d0a71fa8", func := "dustpan/dustpanlaw20.MutatorAlone", spec := "mutatorAlone", unfollowed := true, recurses := true, named := ["dustpan/config.limits", "dustpan/op.forms", "dustpan/class.sizes"], apart := false, laid := [("dustpan/config.limits", laid_dustpan_config_limits), ("dustpan/class.sizes", laid_dustpan_class_sizes), ("dustpan/op.forms", laid_dustpan_op_forms)] }
def MutatorAloneSaid : Prop := mutatorAloneRow.holds Tryz.pinned (OpenSpec.ofChange mutatorAloneSpec)

/-- ITS FALSE NEIGHBOUR: 'it returns false'. Refute it at one input. -/
def mutatorAloneWrong : ChangeSpec := { name := "mutatorAlone", fn := fun _ => fun
  | [d1, d2] => { results := [.lit (.bool false)], args := [d1, d2] }
  | _ => none }
def MutatorAloneWrongFalsely : Prop := mutatorAloneRow.holds Tryz.pinned (OpenSpec.ofChange mutatorAloneWrong)

/-- 'dustpanlaw20.MutatorNone': WHATEVER THE INPUT: true; the input reads as it did. -/
def mutatorNoneSpec : ChangeSpec := { name := "mutatorNone", fn := fun _ => fun
  | [d1, d2, d3] => { results := [.lit (.bool true)], args := [d1, d2, d3] }
  | _ => none }
def mutatorNoneRow : OpenClaim := { program := "ytkfgchhlekdpgaagreatdoor", sum := "7c1b4973799c033cf21513eba037c602f500e11c845c778b1a7c2013d0a71fa8", func := "dustpan/dustpanlaw20.MutatorNone", spec := "mutatorNone", unfollowed := true, recurses := true, named := ["dustpan/config.limits", "dustpan/op.forms", "dustpan/class.sizes"], apart := false, laid := [("dustpan/config.limits", laid_dustpan_config_limits), ("dustpan/class.sizes", laid_dustpan_class_sizes), ("dustpan/op.forms", laid_dustpan_op_forms)] }
def MutatorNoneSaid : Prop := mutatorNoneRow.holds Tryz.pinned (OpenSpec.ofChange mutatorNoneSpec)

/-- ITS FALSE NEIGHBOUR: 'it returns false'. Refute it at one input. -/
def mutatorNoneWrong : ChangeSpec := { name := "mutatorNone", fn := fun _ => fun
  | [d1, d2, d3] => { results := [.lit (.bool false)], args := [d1, d2, d3] }
  | _ => none }
def MutatorNoneWrongFalsely : Prop := mutatorNoneRow.holds Tryz.pinned (OpenSpec.ofChange mutatorNoneWrong)

/-- 'dustpanlaw20.MutatorStill': WHATEVER THE INPUT: true; the input reads as it did. -/
def mutatorStillSpec : ChangeSpec := { name := "mutatorStill", fn := fun _ => fun
  | [d1, d2, d3] => { results := [.lit (.bool true)], args := [d1, d2, d3] }
  | _ => none }
def mutatorStillRow : OpenClaim := { program := "ytkfgchhlekdpgaagreatdoor", sum := "7c1b4973799c033cf21513eba037c602f500e11c845c778b1a7c2013d0a71fa8", func := "dustpan/dustpanlaw20.MutatorStill", spec := "mutatorStill", unfollowed := true, recurses := true, named := ["dustpan/config.limits", "dustpan/op.forms", "dustpan/class.sizes"], apart := false, laid := [("dustpan/config.limits", laid_dustpan_config_limits), ("dustpan/class.sizes", laid_dustpan_class_sizes), ("dustpan/op.forms", laid_dustpan_op_forms)] }
def MutatorStillSaid : Prop := mutatorStillRow.holds Tryz.pinned (OpenSpec.ofChange mutatorStillSpec)

/-- ITS FALSE NEIGHBOUR: 'it returns false'. Refute it at one input. -/
def mutatorStillWrong : ChangeSpec := { name := "mutatorStill", fn := fun _ => fun
  | [d1, d2, d3] => { results := [.lit (.bool false)], args := [d1, d2, d3] }
  | _ => none }
def MutatorStillWrongFalsely : Prop := mutatorStillRow.holds Tryz.pinned (OpenSpec.ofChange mutatorStillWrong)

/-- 'dustpanlaw20.MutatorLogs': WHATEVER THE INPUT: true; the input reads as it did. -/
def mutatorLogsSpec : ChangeSpec := { name := "mutatorLogs", fn := fun _ => fun
  | [d1, d2] => { results := [.lit (.bool true)], args := [d1, d2] }
  | _ => none }
def mutatorLogsRow : OpenClaim := { program := "ytkfgchhlekdpgaagreatdoor", sum := "7c1b4973799c033cf21513eba037c602f500e11c845c778b1a7c2013d0a71fa8", func := "dustpan/dustpanlaw20.MutatorLogs", spec := "mutatorLogs", unfollowed := true, recurses := true, named := ["dustpan/config.limits", "dustpan/op.forms", "dustpan/class.sizes"], apart := false, laid := [("dustpan/config.limits", laid_dustpan_config_limits), ("dustpan/class.sizes", laid_dustpan_class_sizes), ("dustpan/op.forms", laid_dustpan_op_forms)] }
def MutatorLogsSaid : Prop := mutatorLogsRow.holds Tryz.pinned (OpenSpec.ofChange mutatorLogsSpec)

/-- ITS FALSE NEIGHBOUR: 'it returns false'. Refute it at one input. -/
def mutatorLogsWrong : ChangeSpec := { name := "mutatorLogs", fn := fun _ => fun
  | [d1, d2] => { results := [.lit (.bool false)], args := [d1, d2] }
  | _ => none }
def MutatorLogsWrongFalsely : Prop := mutatorLogsRow.holds Tryz.pinned (OpenSpec.ofChange mutatorLogsWrong)

/- THE SECOND FORM. 'bulk': how many values and letters a reading holds, each counted each time it is reached (what is shared counts as often as it is met; a slice's spare places count too). A statement '..UptoSaid' is the law's where the arguments, and the package variables that the reading takes, are together of bulk at most 1048576: NARROWER than '..Said'. Prove '..Said' where nothing that the law and all that it calls make is longer than what came in: it says more and counts as full. Else prove '..UptoSaid'. A law counts once. -/
mutual
def uptoBulk {H : Type} : DataW H → Nat
  | .lit (.string bytes) => bytes.length + 1
  | .lit _ => 1
  | .nil => 1
  | .ptr d => uptoBulk d + 1
  | .slice elems spare => uptoBulkAll elems + uptoBulkAll spare + 1
  | .agg parts => uptoBulkAll parts + 1
  | .iface _ d => uptoBulk d + 1
  | .map entries => uptoBulkEntries entries + 1
  | .held _ => 1
def uptoBulkAll {H : Type} : List (DataW H) → Nat
  | [] => 0
  | d :: r => uptoBulk d + uptoBulkAll r
def uptoBulkEntries {H : Type} : List (Lit × DataW H) → Nat
  | [] => 0
  | x :: r => uptoBulkEntry x + uptoBulkEntries r
def uptoBulkEntry {H : Type} : Lit × DataW H → Nat
  | (.string bytes, d) => bytes.length + uptoBulk d + 1
  | (_, d) => uptoBulk d + 1
 end
def uptoSmall : (H : Type) → List (DataW H) → Bool := fun _ ds => decide (uptoBulkAll ds ≤ 1048576)
def OpenSpec.upto (s : _root_.Go.ChangeSpec) : _root_.Go.OpenSpec := { _root_.Go.OpenSpec.ofChange s with cond := some uptoSmall }

/-- 'dustpanlaw19.NoteNotes', WHERE WHAT IT READS IS OF BULK AT MOST 1048576: true; the input reads as it did. -/
def noteNotesUptoRow : OpenClaim := { program := "ytkfgchhlekdpgaagreatdoor", sum := "7c1b4973799c033cf21513eba037c602f500e11c845c778b1a7c2013d0a71fa8", func := "dustpan/dustpanlaw19.NoteNotes", spec := "noteNotes", unfollowed := true, recurses := true, named := ["dustpan/config.limits", "dustpan/class.sizes"], apart := false, laid := [("dustpan/config.limits", laid_dustpan_config_limits), ("dustpan/class.sizes", laid_dustpan_class_sizes)], narrowed := true }
def NoteNotesUptoSaid : Prop := noteNotesUptoRow.holds Tryz.pinned (OpenSpec.upto noteNotesSpec)

/-- 'dustpanlaw19.NotePours', WHERE WHAT IT READS IS OF BULK AT MOST 1048576: true; the input reads as it did. -/
def notePoursUptoRow : OpenClaim := { program := "ytkfgchhlekdpgaagreatdoor", sum := "7c1b4973799c033cf21513eba037c602f500e11c845c778b1a7c2013d0a71fa8", func := "dustpan/dustpanlaw19.NotePours", spec := "notePours", unfollowed := true, recurses := true, named := ["dustpan/config.limits", "dustpan/class.sizes"], apart := false, laid := [("dustpan/config.limits", laid_dustpan_config_limits), ("dustpan/class.sizes", laid_dustpan_class_sizes)], narrowed := true }
def NotePoursUptoSaid : Prop := notePoursUptoRow.holds Tryz.pinned (OpenSpec.upto notePoursSpec)

/-- 'dustpanlaw19.NoteRuns', WHERE WHAT IT READS IS OF BULK AT MOST 1048576: true; the input reads as it did. -/
def noteRunsUptoRow : OpenClaim := { program := "ytkfgchhlekdpgaagreatdoor", sum := "7c1b4973799c033cf21513eba037c602f500e11c845c778b1a7c2013d0a71fa8", func := "dustpan/dustpanlaw19.NoteRuns", spec := "noteRuns", unfollowed := true, recurses := true, named := ["dustpan/config.limits", "dustpan/class.sizes"], apart := false, laid := [("dustpan/config.limits", laid_dustpan_config_limits), ("dustpan/class.sizes", laid_dustpan_class_sizes)], narrowed := true }
def NoteRunsUptoSaid : Prop := noteRunsUptoRow.holds Tryz.pinned (OpenSpec.upto noteRunsSpec)

/-- 'dustpanlaw19.NoteKeeps', WHERE WHAT IT READS IS OF BULK AT MOST 1048576: true; the input reads as it did. -/
def noteKeepsUptoRow : OpenClaim := { program := "ytkfgchhlekdpgaagreatdoor", sum := "7c1b4973799c033cf21513eba037c602f500e11c845c778b1a7c2013d0a71fa8", func := "dustpan/dustpanlaw19.NoteKeeps", spec := "noteKeeps", unfollowed := true, recurses := true, named := ["dustpan/config.limits", "dustpan/class.sizes"], apart := false, laid := [("dustpan/config.limits", laid_dustpan_config_limits), ("dustpan/class.sizes", laid_dustpan_class_sizes)], narrowed := true }
def NoteKeepsUptoSaid : Prop := noteKeepsUptoRow.holds Tryz.pinned (OpenSpec.upto noteKeepsSpec)

/-- 'dustpanlaw20.MutatorAlone', WHERE WHAT IT READS IS OF BULK AT MOST 1048576: true; the input reads as it did. -/
def mutatorAloneUptoRow : OpenClaim := { program := "ytkfgchhlekdpgaagreatdoor", sum := "7c1b4973799c033cf21513eba037c602f500e11c845c778b1a7c2013d0a71fa8", func := "dustpan/dustpanlaw20.MutatorAlone", spec := "mutatorAlone", unfollowed := true, recurses := true, named := ["dustpan/config.limits", "dustpan/op.forms", "dustpan/class.sizes"], apart := false, laid := [("dustpan/config.limits", laid_dustpan_config_limits), ("dustpan/class.sizes", laid_dustpan_class_sizes), ("dustpan/op.forms", laid_dustpan_op_forms)], narrowed := true }
def MutatorAloneUptoSaid : Prop := mutatorAloneUptoRow.holds Tryz.pinned (OpenSpec.upto mutatorAloneSpec)

/-- 'dustpanlaw20.MutatorNone', WHERE WHAT IT READS IS OF BULK AT MOST 1048576: true; the input reads as it did. -/
def mutatorNoneUptoRow : OpenClaim := { program := "ytkfgchhlekdpgaagreatdoor", sum := "7c1b4973799c033cf21513eba037c602f500e11c845c778b1a7c2013d0a71fa8", func := "dustpan/dustpanlaw20.MutatorNone", spec := "mutatorNone", unfollowed := true, recurses := true, named := ["dustpan/config.limits", "dustpan/op.forms", "dustpan/class.sizes"], apart := false, laid := [("dustpan/config.limits", laid_dustpan_config_limits), ("dustpan/class.sizes", laid_dustpan_class_sizes), ("dustpan/op.forms", laid_dustpan_op_forms)], narrowed := true }
def MutatorNoneUptoSaid : Prop := mutatorNoneUptoRow.holds Tryz.pinned (OpenSpec.upto mutatorNoneSpec)

/-- 'dustpanlaw20.MutatorStill', WHERE WHAT IT READS IS OF BULK AT MOST 1048576: true; the input reads as it did. -/
def mutatorStillUptoRow : OpenClaim := { program := "ytkfgchhlekdpgaagreatdoor", sum := "7c1b4973799c033cf21513eba037c602f500e11c845c778b1a7c2013d0a71fa8", func := "dustpan/dustpanlaw20.MutatorStill", spec := "mutatorStill", unfollowed := true, recurses := true, named := ["dustpan/config.limits", "dustpan/op.forms", "dustpan/class.sizes"], apart := false, laid := [("dustpan/config.limits", laid_dustpan_config_limits), ("dustpan/class.sizes", laid_dustpan_class_sizes), ("dustpan/op.forms", laid_dustpan_op_forms)], narrowed := true }
def MutatorStillUptoSaid : Prop := mutatorStillUptoRow.holds Tryz.pinned (OpenSpec.upto mutatorStillSpec)

/-- 'dustpanlaw20.MutatorLogs', WHERE WHAT IT READS IS OF BULK AT MOST 1048576: true; the input reads as it did. -/
def mutatorLogsUptoRow : OpenClaim := { program := "ytkfgchhlekdpgaagreatdoor", sum := "7c1b4973799c033cf21513eba037c602f500e11c845c778b1a7c2013d0a71fa8", func := "dustpan/dustpanlaw20.MutatorLogs", spec := "mutatorLogs", unfollowed := true, recurses := true, named := ["dustpan/config.limits", "dustpan/op.forms", "dustpan/class.sizes"], apart := false, laid := [("dustpan/config.limits", laid_dustpan_config_limits), ("dustpan/class.sizes", laid_dustpan_class_sizes), ("dustpan/op.forms", laid_dustpan_op_forms)], narrowed := true }
def MutatorLogsUptoSaid : Prop := mutatorLogsUptoRow.holds Tryz.pinned (OpenSpec.upto mutatorLogsSpec)

end Rows
end Go.Proofs.YtkfgchhlekdpgaaGreatDoor

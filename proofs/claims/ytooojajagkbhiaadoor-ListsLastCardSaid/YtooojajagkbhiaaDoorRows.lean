/-
  NARROWER THAN 'FOR EVERY INPUT', by the rows' own cells (each row's printed sentence says how): ListsPlay: laid · ListsNone: laid · ListsLast: laid.
  DERIVED. THE GIVEN ROWS OF THIS SEAT. 3 by the template 'for every input the law returns true; each argument reads behind the call as it read before'; 0 by the template 'total and deterministic' (their statements: YtooojajagkbhiaaDoorTotals.lean).
  GIVEN WITH THE SEED: the statements are not yours to turn. If you find one false, say at which input.
  Laid BY PROGRAM, IN A SANDBOX (cutbox-rows.mjs): the forced cells as the released guide's own fill.sh prints them over the translation f0b61194b9a52976… (all of the seat's roots in one cut). By AI agents, Wed Nov 11 2026. No macro, syntax, notation, axiom, sorry.
-/
import Derived.Test.YtooojajagkbhiaaDoorChecked
import GoSem.Claim
import GoSem.ClaimJoined
import GoSem.ClaimMapViews
import Derived.JoinedTies
import Derived.KernelRfl
namespace Go.Proofs.YtooojajagkbhiaaDoor
/- THE CELL 'sum', in the pinned program and in every row, IS THE sha256 OF THE DUMP (.gsa) THAT YtooojajagkbhiaaDoorProg.lean LOADS. Nothing in Lean hashes anything: it is a label: what it is worth is what the hold of that sum in a sandbox is worth. -/
noncomputable def Tryd.pinned : Pinned := { name := "ytooojajagkbhiaadoor", sum := "f0b61194b9a529766893648726cd3771218df65014658f8d6fcdcfc2edf593ea", checked := Tryd.checked }
namespace Rows
def none {H : Type} : Left H := { results := [], args := [] }

/- WHAT THE LISTED PACKAGE-LEVEL VARIABLES READ AS WHEN THE CALL BEGINS. Each datum BY PROGRAM (the guide's laid-datum.mjs) off the statement by which the dump's own 'gosem.cut.vars' lays the variable. In a bare row this is a premise. The card (YtooojajagkbhiaaDoorCards.lean) ties it to the program's text. -/
def laid_dustpan_config_limits {H : Type} : DataW H := .agg [.agg [.lit (.int .i64 1), .lit (.int .i64 4096)], .agg [.lit (.int .i64 16), .lit (.int .i64 256)], .agg [.lit (.int .i64 1), .lit (.int .i64 8)], .agg [.lit (.int .i64 1), .lit (.int .i64 64)], .agg [.lit (.int .i64 0), .lit (.int .i64 64)], .agg [.lit (.int .i64 1), .lit (.int .i64 256)], .agg [.lit (.int .i64 1), .lit (.int .i64 4096)]]
def laid_dustpan_class_sizes {H : Type} : DataW H := .agg [.lit (.int .i64 2), .lit (.int .i64 4), .lit (.int .i64 8), .lit (.int .i64 16)]

/-- 'dustpanlaw08.ListsPlay': WHATEVER THE INPUT: true; the input reads as it did. -/
def listsPlaySpec : ChangeSpec := { name := "listsPlay", fn := fun _ => fun
  | [d1, d2, d3] => { results := [.lit (.bool true)], args := [d1, d2, d3] }
  | _ => none }
def listsPlayRow : OpenClaim := { program := "ytooojajagkbhiaadoor", sum := "f0b61194b9a529766893648726cd3771218df65014658f8d6fcdcfc2edf593ea", func := "dustpan/dustpanlaw08.ListsPlay", spec := "listsPlay", unfollowed := true, recurses := true, named := ["dustpan/config.limits", "dustpan/class.sizes"], apart := false, laid := [("dustpan/config.limits", laid_dustpan_config_limits), ("dustpan/class.sizes", laid_dustpan_class_sizes)] }
def ListsPlaySaid : Prop := listsPlayRow.holds Tryd.pinned (OpenSpec.ofChange listsPlaySpec)

/-- ITS FALSE NEIGHBOUR: 'it returns false'. Refute it at one input. -/
def listsPlayWrong : ChangeSpec := { name := "listsPlay", fn := fun _ => fun
  | [d1, d2, d3] => { results := [.lit (.bool false)], args := [d1, d2, d3] }
  | _ => none }
def ListsPlayWrongFalsely : Prop := listsPlayRow.holds Tryd.pinned (OpenSpec.ofChange listsPlayWrong)

/-- 'dustpanlaw08.ListsNone': WHATEVER THE INPUT: true; the input reads as it did. -/
def listsNoneSpec : ChangeSpec := { name := "listsNone", fn := fun _ => fun
  | [d1, d2, d3] => { results := [.lit (.bool true)], args := [d1, d2, d3] }
  | _ => none }
def listsNoneRow : OpenClaim := { program := "ytooojajagkbhiaadoor", sum := "f0b61194b9a529766893648726cd3771218df65014658f8d6fcdcfc2edf593ea", func := "dustpan/dustpanlaw08.ListsNone", spec := "listsNone", unfollowed := true, recurses := true, named := ["dustpan/config.limits", "dustpan/class.sizes"], apart := false, laid := [("dustpan/config.limits", laid_dustpan_config_limits), ("dustpan/class.sizes", laid_dustpan_class_sizes)] }
def ListsNoneSaid : Prop := listsNoneRow.holds Tryd.pinned (OpenSpec.ofChange listsNoneSpec)

/-- ITS FALSE NEIGHBOUR: 'it returns false'. Refute it at one input. -/
def listsNoneWrong : ChangeSpec := { name := "listsNone", fn := fun _ => fun
  | [d1, d2, d3] => { results := [.lit (.bool false)], args := [d1, d2, d3] }
  | _ => none }
def ListsNoneWrongFalsely : Prop := listsNoneRow.holds Tryd.pinned (OpenSpec.ofChange listsNoneWrong)

/-- 'dustpanlaw08.ListsLast': WHATEVER THE INPUT: true; the input reads as it did. -/
def listsLastSpec : ChangeSpec := { name := "listsLast", fn := fun _ => fun
  | [d1, d2, d3] => { results := [.lit (.bool true)], args := [d1, d2, d3] }
  | _ => none }
def listsLastRow : OpenClaim := { program := "ytooojajagkbhiaadoor", sum := "f0b61194b9a529766893648726cd3771218df65014658f8d6fcdcfc2edf593ea", func := "dustpan/dustpanlaw08.ListsLast", spec := "listsLast", unfollowed := true, recurses := true, named := ["dustpan/config.limits", "dustpan/class.sizes"], apart := false, laid := [("dustpan/config.limits", laid_dustpan_config_limits), ("dustpan/class.sizes", laid_dustpan_class_sizes)] }
def ListsLastSaid : Prop := listsLastRow.holds Tryd.pinned (OpenSpec.ofChange listsLastSpec)

/-- ITS FALSE NEIGHBOUR: 'it returns false'. Refute it at one input. -/
def listsLastWrong : ChangeSpec := { name := "listsLast", fn := fun _ => fun
  | [d1, d2, d3] => { results := [.lit (.bool false)], args := [d1, d2, d3] }
  | _ => none }
def ListsLastWrongFalsely : Prop := listsLastRow.holds Tryd.pinned (OpenSpec.ofChange listsLastWrong)

/- THE SECOND FORM. 'bulk': how many values and letters a reading holds, each counted each time it is reached (what is shared counts as often as it is met; a slice's spare places count too). A statement '..UptoSaid' is the law's where the arguments, and the package variables that the reading takes, are together of bulk at most 1048576: NARROWER than '..Said'. Prove '..Said' where nothing that the law and all that it calls make is longer than what came in: it says more and counts as full. Else prove '..UptoSaid'. A law counts once. -/
mutual
def uptoBulk {H : Type} : DataW H → Nat
  | .lit (.string bytes) => bytes.length + 1
  | .lit _ => 1
  | .nil => 1
  | .ptr d => uptoBulk d + 1
  | .slice elems spare => uptoBulkAll elems + uptoBulkAll spare + 1
  | .agg parts => uptoBulkAll parts + 1
  | .iface _ d => uptoBulk d + 1
  | .map entries => uptoBulkEntries entries + 1
  | .held _ => 1
def uptoBulkAll {H : Type} : List (DataW H) → Nat
  | [] => 0
  | d :: r => uptoBulk d + uptoBulkAll r
def uptoBulkEntries {H : Type} : List (Lit × DataW H) → Nat
  | [] => 0
  | x :: r => uptoBulkEntry x + uptoBulkEntries r
def uptoBulkEntry {H : Type} : Lit × DataW H → Nat
  | (.string bytes, d) => bytes.length + uptoBulk d + 1
  | (_, d) => uptoBulk d + 1
 end
def uptoSmall : (H : Type) → List (DataW H) → Bool := fun _ ds => decide (uptoBulkAll ds ≤ 1048576)
def OpenSpec.upto (s : _root_.Go.ChangeSpec) : _root_.Go.OpenSpec := { _root_.Go.OpenSpec.ofChange s with cond := some uptoSmall }

/-- 'dustpanlaw08.ListsPlay', WHERE WHAT IT READS IS OF BULK AT MOST 1048576: true; the input reads as it did. -/
def listsPlayUptoRow : OpenClaim := { program := "ytooojajagkbhiaadoor", sum := "f0b61194b9a529766893648726cd3771218df65014658f8d6fcdcfc2edf593ea", func := "dustpan/dustpanlaw08.ListsPlay", spec := "listsPlay", unfollowed := true, recurses := true, named := ["dustpan/config.limits", "dustpan/class.sizes"], apart := false, laid := [("dustpan/config.limits", laid_dustpan_config_limits), ("dustpan/class.sizes", laid_dustpan_class_sizes)], narrowed := true }
def ListsPlayUptoSaid : Prop := listsPlayUptoRow.holds Tryd.pinned (OpenSpec.upto listsPlaySpec)

/-- 'dustpanlaw08.ListsNone', WHERE WHAT IT READS IS OF BULK AT MOST 1048576: true; the input reads as it did. -/
def listsNoneUptoRow : OpenClaim := { program := "ytooojajagkbhiaadoor", sum := "f0b61194b9a529766893648726cd3771218df65014658f8d6fcdcfc2edf593ea", func := "dustpan/dustpanlaw08.ListsNone", spec := "listsNone", unfollowed := true, recurses := true, named := ["dustpan/config.limits", "dustpan/class.sizes"], apart := false, laid := [("dustpan/config.limits", laid_dustpan_config_limits), ("dustpan/class.sizes", laid_dustpan_class_sizes)], narrowed := true }
def ListsNoneUptoSaid : Prop := listsNoneUptoRow.holds Tryd.pinned (OpenSpec.upto listsNoneSpec)

/-- 'dustpanlaw08.ListsLast', WHERE WHAT IT READS IS OF BULK AT MOST 1048576: true; the input reads as it did. -/
def listsLastUptoRow : OpenClaim := { program := "ytooojajagkbhiaadoor", sum := "f0b61194b9a529766893648726cd3771218df65014658f8d6fcdcfc2edf593ea", func := "dustpan/dustpanlaw08.ListsLast", spec := "listsLast", unfollowed := true, recurses := true, named := ["dustpan/config.limits", "dustpan/class.sizes"], apart := false, laid := [("dustpan/config.limits", laid_dustpan_config_limits), ("dustpan/class.sizes", laid_dustpan_class_sizes)], narrowed := true }
def ListsLastUptoSaid : Prop := listsLastUptoRow.holds Tryd.pinned (OpenSpec.upto listsLastSpec)

end Rows
end Go.Proofs.YtooojajagkbhiaaDoor

/-
  NARROWER THAN 'FOR EVERY INPUT', by the rows' own cells (each row's printed sentence says how): MutatorNone: laid · MutatorStill: laid · CollectorRests: laid · WorldNone: laid.
  DERIVED. THE GIVEN ROWS OF THIS SEAT. 4 by the template 'for every input the law returns true; each argument reads behind the call as it read before'; 0 by the template 'total and deterministic' (their statements: YthpgnlcmpoldfaaGreatDoorTotals.lean).
  GIVEN WITH THE SEED: the statements are not yours to turn. If you find one false, say at which input.
  Laid BY PROGRAM, IN A SANDBOX (cutbox-rows.mjs): the forced cells as the released guide's own fill.sh prints them over the translation 09fdaef29da21f40… (all of the seat's roots in one cut). By AI agents, Wed Nov 11 2026. No macro, syntax, notation, axiom, sorry.
-/
import Derived.Test.YthpgnlcmpoldfaaGreatDoorChecked
import GoSem.Claim
import GoSem.ClaimJoined
import GoSem.ClaimMapViews
import Derived.JoinedTies
import Derived.KernelRfl
namespace Go.Proofs.YthpgnlcmpoldfaaGreatDoor
/- THE CELL 'sum', in the pinned program and in every row, IS THE sha256 OF THE DUMP (.gsa) THAT YthpgnlcmpoldfaaGreatDoorProg.lean LOADS. Nothing in Lean hashes anything: it is a label: what it is worth is what the hold of that sum in a sandbox is worth. -/
noncomputable def Tryz.pinned : Pinned := { name := "ythpgnlcmpoldfaagreatdoor", sum := "09fdaef29da21f4065c721af19f06001675bb5e5e2fb8800b6cc8eff4892cf29", checked := Tryz.checked }
namespace Rows
def none {H : Type} : Left H := { results := [], args := [] }

/- WHAT THE LISTED PACKAGE-LEVEL VARIABLES READ AS WHEN THE CALL BEGINS. Each datum BY PROGRAM (the guide's laid-datum.mjs) off the statement by which the dump's own 'gosem.cut.vars' lays the variable. In a bare row this is a premise. The card (YthpgnlcmpoldfaaGreatDoorCards.lean) ties it to the program's text. -/
def laid_dustpan_config_limits {H : Type} : DataW H := .agg [.agg [.lit (.int .i64 1), .lit (.int .i64 4096)], .agg [.lit (.int .i64 16), .lit (.int .i64 256)], .agg [.lit (.int .i64 1), .lit (.int .i64 8)], .agg [.lit (.int .i64 1), .lit (.int .i64 64)], .agg [.lit (.int .i64 0), .lit (.int .i64 64)], .agg [.lit (.int .i64 1), .lit (.int .i64 256)], .agg [.lit (.int .i64 1), .lit (.int .i64 4096)]]
def laid_dustpan_class_sizes {H : Type} : DataW H := .agg [.lit (.int .i64 2), .lit (.int .i64 4), .lit (.int .i64 8), .lit (.int .i64 16)]
def laid_dustpan_op_forms {H : Type} : DataW H := .agg [.agg [.lit (.string []), .agg [.lit (.int .i64 0), .lit (.int .i64 0), .lit (.int .i64 0)]], .agg [.lit (.string [97, 108, 108, 111, 99]), .agg [.lit (.int .i64 1), .lit (.int .i64 3), .lit (.int .i64 0)]], .agg [.lit (.string [108, 111, 97, 100]), .agg [.lit (.int .i64 1), .lit (.int .i64 1), .lit (.int .i64 4)]], .agg [.lit (.string [115, 116, 111, 114, 101]), .agg [.lit (.int .i64 1), .lit (.int .i64 4), .lit (.int .i64 1)]], .agg [.lit (.string [103, 101, 116]), .agg [.lit (.int .i64 1), .lit (.int .i64 2), .lit (.int .i64 0)]], .agg [.lit (.string [115, 101, 116]), .agg [.lit (.int .i64 2), .lit (.int .i64 1), .lit (.int .i64 0)]], .agg [.lit (.string [100, 114, 111, 112]), .agg [.lit (.int .i64 1), .lit (.int .i64 0), .lit (.int .i64 0)]], .agg [.lit (.string [109, 111, 118, 101]), .agg [.lit (.int .i64 1), .lit (.int .i64 1), .lit (.int .i64 0)]], .agg [.lit (.string [115, 97, 102, 101]), .agg [.lit (.int .i64 0), .lit (.int .i64 0), .lit (.int .i64 0)]]]

/-- 'dustpanlaw20.MutatorNone': WHATEVER THE INPUT: true; the input reads as it did. -/
def mutatorNoneSpec : ChangeSpec := { name := "mutatorNone", fn := fun _ => fun
  | [d1, d2, d3] => { results := [.lit (.bool true)], args := [d1, d2, d3] }
  | _ => none }
def mutatorNoneRow : OpenClaim := { program := "ythpgnlcmpoldfaagreatdoor", sum := "09fdaef29da21f4065c721af19f06001675bb5e5e2fb8800b6cc8eff4892cf29", func := "dustpan/dustpanlaw20.MutatorNone", spec := "mutatorNone", unfollowed := true, recurses := true, named := ["dustpan/config.limits", "dustpan/op.forms", "dustpan/class.sizes"], apart := false, laid := [("dustpan/config.limits", laid_dustpan_config_limits), ("dustpan/class.sizes", laid_dustpan_class_sizes), ("dustpan/op.forms", laid_dustpan_op_forms)] }
def MutatorNoneSaid : Prop := mutatorNoneRow.holds Tryz.pinned (OpenSpec.ofChange mutatorNoneSpec)

/-- ITS FALSE NEIGHBOUR: 'it returns false'. Refute it at one input. -/
def mutatorNoneWrong : ChangeSpec := { name := "mutatorNone", fn := fun _ => fun
  | [d1, d2, d3] => { results := [.lit (.bool false)], args := [d1, d2, d3] }
  | _ => none }
def MutatorNoneWrongFalsely : Prop := mutatorNoneRow.holds Tryz.pinned (OpenSpec.ofChange mutatorNoneWrong)

/-- 'dustpanlaw20.MutatorStill': WHATEVER THE INPUT: true; the input reads as it did. -/
def mutatorStillSpec : ChangeSpec := { name := "mutatorStill", fn := fun _ => fun
  | [d1, d2, d3] => { results := [.lit (.bool true)], args := [d1, d2, d3] }
  | _ => none }
def mutatorStillRow : OpenClaim := { program := "ythpgnlcmpoldfaagreatdoor", sum := "09fdaef29da21f4065c721af19f06001675bb5e5e2fb8800b6cc8eff4892cf29", func := "dustpan/dustpanlaw20.MutatorStill", spec := "mutatorStill", unfollowed := true, recurses := true, named := ["dustpan/config.limits", "dustpan/op.forms", "dustpan/class.sizes"], apart := false, laid := [("dustpan/config.limits", laid_dustpan_config_limits), ("dustpan/class.sizes", laid_dustpan_class_sizes), ("dustpan/op.forms", laid_dustpan_op_forms)] }
def MutatorStillSaid : Prop := mutatorStillRow.holds Tryz.pinned (OpenSpec.ofChange mutatorStillSpec)

/-- ITS FALSE NEIGHBOUR: 'it returns false'. Refute it at one input. -/
def mutatorStillWrong : ChangeSpec := { name := "mutatorStill", fn := fun _ => fun
  | [d1, d2, d3] => { results := [.lit (.bool false)], args := [d1, d2, d3] }
  | _ => none }
def MutatorStillWrongFalsely : Prop := mutatorStillRow.holds Tryz.pinned (OpenSpec.ofChange mutatorStillWrong)

/-- 'dustpanlaw21.CollectorRests': WHATEVER THE INPUT: true; the input reads as it did. -/
def collectorRestsSpec : ChangeSpec := { name := "collectorRests", fn := fun _ => fun
  | [d1, d2] => { results := [.lit (.bool true)], args := [d1, d2] }
  | _ => none }
def collectorRestsRow : OpenClaim := { program := "ythpgnlcmpoldfaagreatdoor", sum := "09fdaef29da21f4065c721af19f06001675bb5e5e2fb8800b6cc8eff4892cf29", func := "dustpan/dustpanlaw21.CollectorRests", spec := "collectorRests", unfollowed := true, recurses := true, named := ["dustpan/config.limits", "dustpan/class.sizes", "dustpan/op.forms"], apart := false, laid := [("dustpan/config.limits", laid_dustpan_config_limits), ("dustpan/class.sizes", laid_dustpan_class_sizes), ("dustpan/op.forms", laid_dustpan_op_forms)] }
def CollectorRestsSaid : Prop := collectorRestsRow.holds Tryz.pinned (OpenSpec.ofChange collectorRestsSpec)

/-- ITS FALSE NEIGHBOUR: 'it returns false'. Refute it at one input. -/
def collectorRestsWrong : ChangeSpec := { name := "collectorRests", fn := fun _ => fun
  | [d1, d2] => { results := [.lit (.bool false)], args := [d1, d2] }
  | _ => none }
def CollectorRestsWrongFalsely : Prop := collectorRestsRow.holds Tryz.pinned (OpenSpec.ofChange collectorRestsWrong)

/-- 'dustpanlaw22.WorldNone': WHATEVER THE INPUT: true; the input reads as it did. -/
def worldNoneSpec : ChangeSpec := { name := "worldNone", fn := fun _ => fun
  | [d1, d2, d3] => { results := [.lit (.bool true)], args := [d1, d2, d3] }
  | _ => none }
def worldNoneRow : OpenClaim := { program := "ythpgnlcmpoldfaagreatdoor", sum := "09fdaef29da21f4065c721af19f06001675bb5e5e2fb8800b6cc8eff4892cf29", func := "dustpan/dustpanlaw22.WorldNone", spec := "worldNone", unfollowed := true, recurses := true, named := ["dustpan/config.limits"], apart := false, laid := [("dustpan/config.limits", laid_dustpan_config_limits)] }
def WorldNoneSaid : Prop := worldNoneRow.holds Tryz.pinned (OpenSpec.ofChange worldNoneSpec)

/-- ITS FALSE NEIGHBOUR: 'it returns false'. Refute it at one input. -/
def worldNoneWrong : ChangeSpec := { name := "worldNone", fn := fun _ => fun
  | [d1, d2, d3] => { results := [.lit (.bool false)], args := [d1, d2, d3] }
  | _ => none }
def WorldNoneWrongFalsely : Prop := worldNoneRow.holds Tryz.pinned (OpenSpec.ofChange worldNoneWrong)

/- THE SECOND FORM. 'bulk': how many values and letters a reading holds, each counted each time it is reached (what is shared counts as often as it is met; a slice's spare places count too). A statement '..UptoSaid' is the law's where the arguments, and the package variables that the reading takes, are together of bulk at most 1048576: NARROWER than '..Said'. Prove '..Said' where nothing that the law and all that it calls make is longer than what came in: it says more and counts as full. Else prove '..UptoSaid'. A law counts once. -/
mutual
def uptoBulk {H : Type} : DataW H → Nat
  | .lit (.string bytes) => bytes.length + 1
  | .lit _ => 1
  | .nil => 1
  | .ptr d => uptoBulk d + 1
  | .slice elems spare => uptoBulkAll elems + uptoBulkAll spare + 1
  | .agg parts => uptoBulkAll parts + 1
  | .iface _ d => uptoBulk d + 1
  | .map entries => uptoBulkEntries entries + 1
  | .held _ => 1
def uptoBulkAll {H : Type} : List (DataW H) → Nat
  | [] => 0
  | d :: r => uptoBulk d + uptoBulkAll r
def uptoBulkEntries {H : Type} : List (Lit × DataW H) → Nat
  | [] => 0
  | x :: r => uptoBulkEntry x + uptoBulkEntries r
def uptoBulkEntry {H : Type} : Lit × DataW H → Nat
  | (.string bytes, d) => bytes.length + uptoBulk d + 1
  | (_, d) => uptoBulk d + 1
 end
def uptoSmall : (H : Type) → List (DataW H) → Bool := fun _ ds => decide (uptoBulkAll ds ≤ 1048576)
def OpenSpec.upto (s : _root_.Go.ChangeSpec) : _root_.Go.OpenSpec := { _root_.Go.OpenSpec.ofChange s with cond := some uptoSmall }

/-- 'dustpanlaw20.MutatorNone', WHERE WHAT IT READS IS OF BULK AT MOST 1048576: true; the input reads as it did. -/
def mutatorNoneUptoRow : OpenClaim := { program := "ythpgnlcmpoldfaagreatdoor", sum := "09fdaef29da21f4065c721af19f06001675bb5e5e2fb8800b6cc8eff4892cf29", func := "dustpan/dustpanlaw20.MutatorNone", spec := "mutatorNone", unfollowed := true, recurses := true, named := ["dustpan/config.limits", "dustpan/op.forms", "dustpan/class.sizes"], apart := false, laid := [("dustpan/config.limits", laid_dustpan_config_limits), ("dustpan/class.sizes", laid_dustpan_class_sizes), ("dustpan/op.forms", laid_dustpan_op_forms)], narrowed := true }
def MutatorNoneUptoSaid : Prop := mutatorNoneUptoRow.holds Tryz.pinned (OpenSpec.upto mutatorNoneSpec)

/-- 'dustpanlaw20.MutatorStill', WHERE WHAT IT READS IS OF BULK AT MOST 1048576: true; the input reads as it did. -/
def mutatorStillUptoRow : OpenClaim := { program := "ythpgnlcmpoldfaagreatdoor", sum := "09fdaef29da21f4065c721af19f06001675bb5e5e2fb8800b6cc8eff4892cf29", func := "dustpan/dustpanlaw20.MutatorStill", spec := "mutatorStill", unfollowed := true, recurses := true, named := ["dustpan/config.limits", "dustpan/op.forms", "dustpan/class.sizes"], apart := false, laid := [("dustpan/config.limits", laid_dustpan_config_limits), ("dustpan/class.sizes", laid_dustpan_class_sizes), ("dustpan/op.forms", laid_dustpan_op_forms)], narrowed := true }
def MutatorStillUptoSaid : Prop := mutatorStillUptoRow.holds Tryz.pinned (OpenSpec.upto mutatorStillSpec)

/-- 'dustpanlaw21.CollectorRests', WHERE WHAT IT READS IS OF BULK AT MOST 1048576: true; the input reads as it did. -/
def collectorRestsUptoRow : OpenClaim := { program := "ythpgnlcmpoldfaagreatdoor", sum := "09fdaef29da21f4065c721af19f06001675bb5e5e2fb8800b6cc8eff4892cf29", func := "dustpan/dustpanlaw21.CollectorRests", spec := "collectorRests", unfollowed := true, recurses := true, named := ["dustpan/config.limits", "dustpan/class.sizes", "dustpan/op.forms"], apart := false, laid := [("dustpan/config.limits", laid_dustpan_config_limits), ("dustpan/class.sizes", laid_dustpan_class_sizes), ("dustpan/op.forms", laid_dustpan_op_forms)], narrowed := true }
def CollectorRestsUptoSaid : Prop := collectorRestsUptoRow.holds Tryz.pinned (OpenSpec.upto collectorRestsSpec)

/-- 'dustpanlaw22.WorldNone', WHERE WHAT IT READS IS OF BULK AT MOST 1048576: true; the input reads as it did. -/
def worldNoneUptoRow : OpenClaim := { program := "ythpgnlcmpoldfaagreatdoor", sum := "09fdaef29da21f4065c721af19f06001675bb5e5e2fb8800b6cc8eff4892cf29", func := "dustpan/dustpanlaw22.WorldNone", spec := "worldNone", unfollowed := true, recurses := true, named := ["dustpan/config.limits"], apart := false, laid := [("dustpan/config.limits", laid_dustpan_config_limits)], narrowed := true }
def WorldNoneUptoSaid : Prop := worldNoneUptoRow.holds Tryz.pinned (OpenSpec.upto worldNoneSpec)

end Rows
end Go.Proofs.YthpgnlcmpoldfaaGreatDoor

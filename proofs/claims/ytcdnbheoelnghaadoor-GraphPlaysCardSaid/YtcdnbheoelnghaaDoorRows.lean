/-
  NARROWER THAN 'FOR EVERY INPUT', by the rows' own cells (each row's printed sentence says how): GraphPlays: laid · GraphCopies: laid · GraphReaches: laid.
  DERIVED. THE GIVEN ROWS OF THIS SEAT. 3 by the template 'for every input the law returns true; each argument reads behind the call as it read before'; 0 by the template 'total and deterministic' (their statements: YtcdnbheoelnghaaDoorTotals.lean).
  GIVEN WITH THE SEED: the statements are not yours to turn. If you find one false, say at which input.
  Laid BY PROGRAM, IN A SANDBOX (cutbox-rows.mjs): the forced cells as the released guide's own fill.sh prints them over the translation 72d2ae5e97a32820… (all of the seat's roots in one cut). By AI agents, Wed Nov 11 2026. No macro, syntax, notation, axiom, sorry.
-/
import Derived.Test.YtcdnbheoelnghaaDoorChecked
import GoSem.Claim
import GoSem.ClaimJoined
import GoSem.ClaimMapViews
import Derived.JoinedTies
import Derived.KernelRfl
namespace Go.Proofs.YtcdnbheoelnghaaDoor
/- THE CELL 'sum', in the pinned program and in every row, IS THE sha256 OF THE DUMP (.gsa) THAT YtcdnbheoelnghaaDoorProg.lean LOADS. Nothing in Lean hashes anything: it is a label: what it is worth is what the hold of that sum in a sandbox is worth. -/
noncomputable def Tryd.pinned : Pinned := { name := "ytcdnbheoelnghaadoor", sum := "72d2ae5e97a32820c2821274104dc32db75b5b9c5bd54fe15019fc02b83a02fc", checked := Tryd.checked }
namespace Rows
def none {H : Type} : Left H := { results := [], args := [] }

/- WHAT THE LISTED PACKAGE-LEVEL VARIABLES READ AS WHEN THE CALL BEGINS. Each datum BY PROGRAM (the guide's laid-datum.mjs) off the statement by which the dump's own 'gosem.cut.vars' lays the variable. In a bare row this is a premise. The card (YtcdnbheoelnghaaDoorCards.lean) ties it to the program's text. -/
def laid_dustpan_config_limits {H : Type} : DataW H := .agg [.agg [.lit (.int .i64 1), .lit (.int .i64 4096)], .agg [.lit (.int .i64 16), .lit (.int .i64 256)], .agg [.lit (.int .i64 1), .lit (.int .i64 8)], .agg [.lit (.int .i64 1), .lit (.int .i64 64)], .agg [.lit (.int .i64 0), .lit (.int .i64 64)], .agg [.lit (.int .i64 1), .lit (.int .i64 256)], .agg [.lit (.int .i64 1), .lit (.int .i64 4096)]]
def laid_dustpan_op_forms {H : Type} : DataW H := .agg [.agg [.lit (.string []), .agg [.lit (.int .i64 0), .lit (.int .i64 0), .lit (.int .i64 0)]], .agg [.lit (.string [97, 108, 108, 111, 99]), .agg [.lit (.int .i64 1), .lit (.int .i64 3), .lit (.int .i64 0)]], .agg [.lit (.string [108, 111, 97, 100]), .agg [.lit (.int .i64 1), .lit (.int .i64 1), .lit (.int .i64 4)]], .agg [.lit (.string [115, 116, 111, 114, 101]), .agg [.lit (.int .i64 1), .lit (.int .i64 4), .lit (.int .i64 1)]], .agg [.lit (.string [103, 101, 116]), .agg [.lit (.int .i64 1), .lit (.int .i64 2), .lit (.int .i64 0)]], .agg [.lit (.string [115, 101, 116]), .agg [.lit (.int .i64 2), .lit (.int .i64 1), .lit (.int .i64 0)]], .agg [.lit (.string [100, 114, 111, 112]), .agg [.lit (.int .i64 1), .lit (.int .i64 0), .lit (.int .i64 0)]], .agg [.lit (.string [109, 111, 118, 101]), .agg [.lit (.int .i64 1), .lit (.int .i64 1), .lit (.int .i64 0)]], .agg [.lit (.string [115, 97, 102, 101]), .agg [.lit (.int .i64 0), .lit (.int .i64 0), .lit (.int .i64 0)]]]

/-- 'dustpanlaw18.GraphPlays': WHATEVER THE INPUT: true; the input reads as it did. -/
def graphPlaysSpec : ChangeSpec := { name := "graphPlays", fn := fun _ => fun
  | [d1, d2] => { results := [.lit (.bool true)], args := [d1, d2] }
  | _ => none }
def graphPlaysRow : OpenClaim := { program := "ytcdnbheoelnghaadoor", sum := "72d2ae5e97a32820c2821274104dc32db75b5b9c5bd54fe15019fc02b83a02fc", func := "dustpan/dustpanlaw18.GraphPlays", spec := "graphPlays", unfollowed := true, recurses := true, named := ["dustpan/config.limits", "dustpan/op.forms"], apart := false, laid := [("dustpan/config.limits", laid_dustpan_config_limits), ("dustpan/op.forms", laid_dustpan_op_forms)] }
def GraphPlaysSaid : Prop := graphPlaysRow.holds Tryd.pinned (OpenSpec.ofChange graphPlaysSpec)

/-- ITS FALSE NEIGHBOUR: 'it returns false'. Refute it at one input. -/
def graphPlaysWrong : ChangeSpec := { name := "graphPlays", fn := fun _ => fun
  | [d1, d2] => { results := [.lit (.bool false)], args := [d1, d2] }
  | _ => none }
def GraphPlaysWrongFalsely : Prop := graphPlaysRow.holds Tryd.pinned (OpenSpec.ofChange graphPlaysWrong)

/-- 'dustpanlaw18.GraphCopies': WHATEVER THE INPUT: true; the input reads as it did. -/
def graphCopiesSpec : ChangeSpec := { name := "graphCopies", fn := fun _ => fun
  | [d1, d2, d3] => { results := [.lit (.bool true)], args := [d1, d2, d3] }
  | _ => none }
def graphCopiesRow : OpenClaim := { program := "ytcdnbheoelnghaadoor", sum := "72d2ae5e97a32820c2821274104dc32db75b5b9c5bd54fe15019fc02b83a02fc", func := "dustpan/dustpanlaw18.GraphCopies", spec := "graphCopies", unfollowed := true, recurses := true, named := ["dustpan/config.limits", "dustpan/op.forms"], apart := false, laid := [("dustpan/config.limits", laid_dustpan_config_limits), ("dustpan/op.forms", laid_dustpan_op_forms)] }
def GraphCopiesSaid : Prop := graphCopiesRow.holds Tryd.pinned (OpenSpec.ofChange graphCopiesSpec)

/-- ITS FALSE NEIGHBOUR: 'it returns false'. Refute it at one input. -/
def graphCopiesWrong : ChangeSpec := { name := "graphCopies", fn := fun _ => fun
  | [d1, d2, d3] => { results := [.lit (.bool false)], args := [d1, d2, d3] }
  | _ => none }
def GraphCopiesWrongFalsely : Prop := graphCopiesRow.holds Tryd.pinned (OpenSpec.ofChange graphCopiesWrong)

/-- 'dustpanlaw18.GraphReaches': WHATEVER THE INPUT: true; the input reads as it did. -/
def graphReachesSpec : ChangeSpec := { name := "graphReaches", fn := fun _ => fun
  | [d1, d2, d3] => { results := [.lit (.bool true)], args := [d1, d2, d3] }
  | _ => none }
def graphReachesRow : OpenClaim := { program := "ytcdnbheoelnghaadoor", sum := "72d2ae5e97a32820c2821274104dc32db75b5b9c5bd54fe15019fc02b83a02fc", func := "dustpan/dustpanlaw18.GraphReaches", spec := "graphReaches", unfollowed := true, recurses := true, named := ["dustpan/config.limits", "dustpan/op.forms"], apart := false, laid := [("dustpan/config.limits", laid_dustpan_config_limits), ("dustpan/op.forms", laid_dustpan_op_forms)] }
def GraphReachesSaid : Prop := graphReachesRow.holds Tryd.pinned (OpenSpec.ofChange graphReachesSpec)

/-- ITS FALSE NEIGHBOUR: 'it returns false'. Refute it at one input. -/
def graphReachesWrong : ChangeSpec := { name := "graphReaches", fn := fun _ => fun
  | [d1, d2, d3] => { results := [.lit (.bool false)], args := [d1, d2, d3] }
  | _ => none }
def GraphReachesWrongFalsely : Prop := graphReachesRow.holds Tryd.pinned (OpenSpec.ofChange graphReachesWrong)

/- THE SECOND FORM. 'bulk': how many values and letters a reading holds, each counted each time it is reached (what is shared counts as often as it is met; a slice's spare places count too). A statement '..UptoSaid' is the law's where the arguments, and the package variables that the reading takes, are together of bulk at most 1048576: NARROWER than '..Said'. Prove '..Said' where nothing that the law and all that it calls make is longer than what came in: it says more and counts as full. Else prove '..UptoSaid'. A law counts once. -/
mutual
def uptoBulk {H : Type} : DataW H → Nat
  | .lit (.string bytes) => bytes.length + 1
  | .lit _ => 1
  | .nil => 1
  | .ptr d => uptoBulk d + 1
  | .slice elems spare => uptoBulkAll elems + uptoBulkAll spare + 1
  | .agg parts => uptoBulkAll parts + 1
  | .iface _ d => uptoBulk d + 1
  | .map entries => uptoBulkEntries entries + 1
  | .held _ => 1
def uptoBulkAll {H : Type} : List (DataW H) → Nat
  | [] => 0
  | d :: r => uptoBulk d + uptoBulkAll r
def uptoBulkEntries {H : Type} : List (Lit × DataW H) → Nat
  | [] => 0
  | x :: r => uptoBulkEntry x + uptoBulkEntries r
def uptoBulkEntry {H : Type} : Lit × DataW H → Nat
  | (.string bytes, d) => bytes.length + uptoBulk d + 1
  | (_, d) => uptoBulk d + 1
 end
def uptoSmall : (H : Type) → List (DataW H) → Bool := fun _ ds => decide (uptoBulkAll ds ≤ 1048576)
def OpenSpec.upto (s : _root_.Go.ChangeSpec) : _root_.Go.OpenSpec := { _root_.Go.OpenSpec.ofChange s with cond := some uptoSmall }

/-- 'dustpanlaw18.GraphPlays', WHERE WHAT IT READS IS OF BULK AT MOST 1048576: true; the input reads as it did. -/
def graphPlaysUptoRow : OpenClaim := { program := "ytcdnbheoelnghaadoor", sum := "72d2ae5e97a32820c2821274104dc32db75b5b9c5bd54fe15019fc02b83a02fc", func := "dustpan/dustpanlaw18.GraphPlays", spec := "graphPlays", unfollowed := true, recurses := true, named := ["dustpan/config.limits", "dustpan/op.forms"], apart := false, laid := [("dustpan/config.limits", laid_dustpan_config_limits), ("dustpan/op.forms", laid_dustpan_op_forms)], narrowed := true }
def GraphPlaysUptoSaid : Prop := graphPlaysUptoRow.holds Tryd.pinned (OpenSpec.upto graphPlaysSpec)

/-- 'dustpanlaw18.GraphCopies', WHERE WHAT IT READS IS OF BULK AT MOST 1048576: true; the input reads as it did. -/
def graphCopiesUptoRow : OpenClaim := { program := "ytcdnbheoelnghaadoor", sum := "72d2ae5e97a32820c2821274104dc32db75b5b9c5bd54fe15019fc02b83a02fc", func := "dustpan/dustpanlaw18.GraphCopies", spec := "graphCopies", unfollowed := true, recurses := true, named := ["dustpan/config.limits", "dustpan/op.forms"], apart := false, laid := [("dustpan/config.limits", laid_dustpan_config_limits), ("dustpan/op.forms", laid_dustpan_op_forms)], narrowed := true }
def GraphCopiesUptoSaid : Prop := graphCopiesUptoRow.holds Tryd.pinned (OpenSpec.upto graphCopiesSpec)

/-- 'dustpanlaw18.GraphReaches', WHERE WHAT IT READS IS OF BULK AT MOST 1048576: true; the input reads as it did. -/
def graphReachesUptoRow : OpenClaim := { program := "ytcdnbheoelnghaadoor", sum := "72d2ae5e97a32820c2821274104dc32db75b5b9c5bd54fe15019fc02b83a02fc", func := "dustpan/dustpanlaw18.GraphReaches", spec := "graphReaches", unfollowed := true, recurses := true, named := ["dustpan/config.limits", "dustpan/op.forms"], apart := false, laid := [("dustpan/config.limits", laid_dustpan_config_limits), ("dustpan/op.forms", laid_dustpan_op_forms)], narrowed := true }
def GraphReachesUptoSaid : Prop := graphReachesUptoRow.holds Tryd.pinned (OpenSpec.upto graphReachesSpec)

end Rows
end Go.Proofs.YtcdnbheoelnghaaDoor

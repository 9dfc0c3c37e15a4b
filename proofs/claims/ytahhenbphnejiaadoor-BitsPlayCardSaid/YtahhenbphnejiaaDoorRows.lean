/-
  NARROWER THAN 'FOR EVERY INPUT', by the rows' own cells (each row's printed sentence says how): BitsPlay: laid · BitsCopies: laid · BitsNone: laid · BitsRises: laid · BitsSames: laid · ConfigRight: laid · ConfigBounds: laid · ConfigGrows: laid.
  DERIVED. THE GIVEN ROWS OF THIS SEAT. 8 by the template 'for every input the law returns true; each argument reads behind the call as it read before'; 0 by the template 'total and deterministic' (their statements: YtahhenbphnejiaaDoorTotals.lean).
  GIVEN WITH THE SEED: the statements are not yours to turn. If you find one false, say at which input.
  Laid BY PROGRAM, IN A SANDBOX (cutbox-rows.mjs): the forced cells as the released guide's own fill.sh prints them over the translation c791636407438c84… (all of the seat's roots in one cut). By AI agents, Wed Nov 11 2026. No macro, syntax, notation, axiom, sorry.
-/
import Derived.Test.YtahhenbphnejiaaDoorChecked
import GoSem.Claim
import GoSem.ClaimJoined
import GoSem.ClaimMapViews
import Derived.JoinedTies
import Derived.KernelRfl
namespace Go.Proofs.YtahhenbphnejiaaDoor
/- THE CELL 'sum', in the pinned program and in every row, IS THE sha256 OF THE DUMP (.gsa) THAT YtahhenbphnejiaaDoorProg.lean LOADS. Nothing in Lean hashes anything: it is a label: what it is worth is what the hold of that sum in a sandbox is worth. -/
noncomputable def Tryd.pinned : Pinned := { name := "ytahhenbphnejiaadoor", sum := "c791636407438c84014fb9f1ea6862c2581b16e2c82752979b9110ae277e2c89", checked := Tryd.checked }
namespace Rows
def none {H : Type} : Left H := { results := [], args := [] }

/- WHAT THE LISTED PACKAGE-LEVEL VARIABLES READ AS WHEN THE CALL BEGINS. Each datum BY PROGRAM (the guide's laid-datum.mjs) off the statement by which the dump's own 'gosem.cut.vars' lays the variable. In a bare row this is a premise. The card (YtahhenbphnejiaaDoorCards.lean) ties it to the program's text. -/
def laid_math_bits_deBruijn64tab {H : Type} : DataW H := .agg [.lit (.int .u8 0), .lit (.int .u8 1), .lit (.int .u8 56), .lit (.int .u8 2), .lit (.int .u8 57), .lit (.int .u8 49), .lit (.int .u8 28), .lit (.int .u8 3), .lit (.int .u8 61), .lit (.int .u8 58), .lit (.int .u8 42), .lit (.int .u8 50), .lit (.int .u8 38), .lit (.int .u8 29), .lit (.int .u8 17), .lit (.int .u8 4), .lit (.int .u8 62), .lit (.int .u8 47), .lit (.int .u8 59), .lit (.int .u8 36), .lit (.int .u8 45), .lit (.int .u8 43), .lit (.int .u8 51), .lit (.int .u8 22), .lit (.int .u8 53), .lit (.int .u8 39), .lit (.int .u8 33), .lit (.int .u8 30), .lit (.int .u8 24), .lit (.int .u8 18), .lit (.int .u8 12), .lit (.int .u8 5), .lit (.int .u8 63), .lit (.int .u8 55), .lit (.int .u8 48), .lit (.int .u8 27), .lit (.int .u8 60), .lit (.int .u8 41), .lit (.int .u8 37), .lit (.int .u8 16), .lit (.int .u8 46), .lit (.int .u8 35), .lit (.int .u8 44), .lit (.int .u8 21), .lit (.int .u8 52), .lit (.int .u8 32), .lit (.int .u8 23), .lit (.int .u8 11), .lit (.int .u8 54), .lit (.int .u8 26), .lit (.int .u8 40), .lit (.int .u8 15), .lit (.int .u8 34), .lit (.int .u8 20), .lit (.int .u8 31), .lit (.int .u8 10), .lit (.int .u8 25), .lit (.int .u8 14), .lit (.int .u8 19), .lit (.int .u8 9), .lit (.int .u8 13), .lit (.int .u8 8), .lit (.int .u8 7), .lit (.int .u8 6)]
def laid_dustpan_config_limits {H : Type} : DataW H := .agg [.agg [.lit (.int .i64 1), .lit (.int .i64 4096)], .agg [.lit (.int .i64 16), .lit (.int .i64 256)], .agg [.lit (.int .i64 1), .lit (.int .i64 8)], .agg [.lit (.int .i64 1), .lit (.int .i64 64)], .agg [.lit (.int .i64 0), .lit (.int .i64 64)], .agg [.lit (.int .i64 1), .lit (.int .i64 256)], .agg [.lit (.int .i64 1), .lit (.int .i64 4096)]]

/-- 'dustpanlaw01.BitsPlay': WHATEVER THE INPUT: true; the input reads as it did. -/
def bitsPlaySpec : ChangeSpec := { name := "bitsPlay", fn := fun _ => fun
  | [d1, d2, d3] => { results := [.lit (.bool true)], args := [d1, d2, d3] }
  | _ => none }
def bitsPlayRow : OpenClaim := { program := "ytahhenbphnejiaadoor", sum := "c791636407438c84014fb9f1ea6862c2581b16e2c82752979b9110ae277e2c89", func := "dustpan/dustpanlaw01.BitsPlay", spec := "bitsPlay", unfollowed := true, recurses := true, named := ["math/bits.deBruijn64tab"], apart := false, laid := [("math/bits.deBruijn64tab", laid_math_bits_deBruijn64tab)] }
def BitsPlaySaid : Prop := bitsPlayRow.holds Tryd.pinned (OpenSpec.ofChange bitsPlaySpec)

/-- ITS FALSE NEIGHBOUR: 'it returns false'. Refute it at one input. -/
def bitsPlayWrong : ChangeSpec := { name := "bitsPlay", fn := fun _ => fun
  | [d1, d2, d3] => { results := [.lit (.bool false)], args := [d1, d2, d3] }
  | _ => none }
def BitsPlayWrongFalsely : Prop := bitsPlayRow.holds Tryd.pinned (OpenSpec.ofChange bitsPlayWrong)

/-- 'dustpanlaw01.BitsCopies': WHATEVER THE INPUT: true; the input reads as it did. -/
def bitsCopiesSpec : ChangeSpec := { name := "bitsCopies", fn := fun _ => fun
  | [d1, d2, d3] => { results := [.lit (.bool true)], args := [d1, d2, d3] }
  | _ => none }
def bitsCopiesRow : OpenClaim := { program := "ytahhenbphnejiaadoor", sum := "c791636407438c84014fb9f1ea6862c2581b16e2c82752979b9110ae277e2c89", func := "dustpan/dustpanlaw01.BitsCopies", spec := "bitsCopies", unfollowed := true, recurses := true, named := ["math/bits.deBruijn64tab"], apart := false, laid := [("math/bits.deBruijn64tab", laid_math_bits_deBruijn64tab)] }
def BitsCopiesSaid : Prop := bitsCopiesRow.holds Tryd.pinned (OpenSpec.ofChange bitsCopiesSpec)

/-- ITS FALSE NEIGHBOUR: 'it returns false'. Refute it at one input. -/
def bitsCopiesWrong : ChangeSpec := { name := "bitsCopies", fn := fun _ => fun
  | [d1, d2, d3] => { results := [.lit (.bool false)], args := [d1, d2, d3] }
  | _ => none }
def BitsCopiesWrongFalsely : Prop := bitsCopiesRow.holds Tryd.pinned (OpenSpec.ofChange bitsCopiesWrong)

/-- 'dustpanlaw01.BitsNone': WHATEVER THE INPUT: true; the input reads as it did. -/
def bitsNoneSpec : ChangeSpec := { name := "bitsNone", fn := fun _ => fun
  | [d1, d2] => { results := [.lit (.bool true)], args := [d1, d2] }
  | _ => none }
def bitsNoneRow : OpenClaim := { program := "ytahhenbphnejiaadoor", sum := "c791636407438c84014fb9f1ea6862c2581b16e2c82752979b9110ae277e2c89", func := "dustpan/dustpanlaw01.BitsNone", spec := "bitsNone", unfollowed := true, recurses := true, named := ["math/bits.deBruijn64tab"], apart := false, laid := [("math/bits.deBruijn64tab", laid_math_bits_deBruijn64tab)] }
def BitsNoneSaid : Prop := bitsNoneRow.holds Tryd.pinned (OpenSpec.ofChange bitsNoneSpec)

/-- ITS FALSE NEIGHBOUR: 'it returns false'. Refute it at one input. -/
def bitsNoneWrong : ChangeSpec := { name := "bitsNone", fn := fun _ => fun
  | [d1, d2] => { results := [.lit (.bool false)], args := [d1, d2] }
  | _ => none }
def BitsNoneWrongFalsely : Prop := bitsNoneRow.holds Tryd.pinned (OpenSpec.ofChange bitsNoneWrong)

/-- 'dustpanlaw01.BitsRises': WHATEVER THE INPUT: true; the input reads as it did. -/
def bitsRisesSpec : ChangeSpec := { name := "bitsRises", fn := fun _ => fun
  | [d1, d2, d3] => { results := [.lit (.bool true)], args := [d1, d2, d3] }
  | _ => none }
def bitsRisesRow : OpenClaim := { program := "ytahhenbphnejiaadoor", sum := "c791636407438c84014fb9f1ea6862c2581b16e2c82752979b9110ae277e2c89", func := "dustpan/dustpanlaw01.BitsRises", spec := "bitsRises", unfollowed := true, recurses := true, named := ["math/bits.deBruijn64tab"], apart := false, laid := [("math/bits.deBruijn64tab", laid_math_bits_deBruijn64tab)] }
def BitsRisesSaid : Prop := bitsRisesRow.holds Tryd.pinned (OpenSpec.ofChange bitsRisesSpec)

/-- ITS FALSE NEIGHBOUR: 'it returns false'. Refute it at one input. -/
def bitsRisesWrong : ChangeSpec := { name := "bitsRises", fn := fun _ => fun
  | [d1, d2, d3] => { results := [.lit (.bool false)], args := [d1, d2, d3] }
  | _ => none }
def BitsRisesWrongFalsely : Prop := bitsRisesRow.holds Tryd.pinned (OpenSpec.ofChange bitsRisesWrong)

/-- 'dustpanlaw01.BitsSames': WHATEVER THE INPUT: true; the input reads as it did. -/
def bitsSamesSpec : ChangeSpec := { name := "bitsSames", fn := fun _ => fun
  | [d1, d2, d3] => { results := [.lit (.bool true)], args := [d1, d2, d3] }
  | _ => none }
def bitsSamesRow : OpenClaim := { program := "ytahhenbphnejiaadoor", sum := "c791636407438c84014fb9f1ea6862c2581b16e2c82752979b9110ae277e2c89", func := "dustpan/dustpanlaw01.BitsSames", spec := "bitsSames", unfollowed := true, recurses := true, named := ["math/bits.deBruijn64tab"], apart := false, laid := [("math/bits.deBruijn64tab", laid_math_bits_deBruijn64tab)] }
def BitsSamesSaid : Prop := bitsSamesRow.holds Tryd.pinned (OpenSpec.ofChange bitsSamesSpec)

/-- ITS FALSE NEIGHBOUR: 'it returns false'. Refute it at one input. -/
def bitsSamesWrong : ChangeSpec := { name := "bitsSames", fn := fun _ => fun
  | [d1, d2, d3] => { results := [.lit (.bool false)], args := [d1, d2, d3] }
  | _ => none }
def BitsSamesWrongFalsely : Prop := bitsSamesRow.holds Tryd.pinned (OpenSpec.ofChange bitsSamesWrong)

/-- 'dustpanlaw02.ConfigRight': WHATEVER THE INPUT: true; the input reads as it did. -/
def configRightSpec : ChangeSpec := { name := "configRight", fn := fun _ => fun
  | [d] => { results := [.lit (.bool true)], args := [d] }
  | _ => none }
def configRightRow : OpenClaim := { program := "ytahhenbphnejiaadoor", sum := "c791636407438c84014fb9f1ea6862c2581b16e2c82752979b9110ae277e2c89", func := "dustpan/dustpanlaw02.ConfigRight", spec := "configRight", unfollowed := true, recurses := true, named := ["dustpan/config.limits"], apart := false, laid := [("dustpan/config.limits", laid_dustpan_config_limits)] }
def ConfigRightSaid : Prop := configRightRow.holds Tryd.pinned (OpenSpec.ofChange configRightSpec)

/-- ITS FALSE NEIGHBOUR: 'it returns false'. Refute it at one input. -/
def configRightWrong : ChangeSpec := { name := "configRight", fn := fun _ => fun
  | [d] => { results := [.lit (.bool false)], args := [d] }
  | _ => none }
def ConfigRightWrongFalsely : Prop := configRightRow.holds Tryd.pinned (OpenSpec.ofChange configRightWrong)

/-- 'dustpanlaw02.ConfigBounds': WHATEVER THE INPUT: true; the input reads as it did. -/
def configBoundsSpec : ChangeSpec := { name := "configBounds", fn := fun _ => fun
  | [d1, d2] => { results := [.lit (.bool true)], args := [d1, d2] }
  | _ => none }
def configBoundsRow : OpenClaim := { program := "ytahhenbphnejiaadoor", sum := "c791636407438c84014fb9f1ea6862c2581b16e2c82752979b9110ae277e2c89", func := "dustpan/dustpanlaw02.ConfigBounds", spec := "configBounds", unfollowed := true, recurses := true, named := ["dustpan/config.limits"], apart := false, laid := [("dustpan/config.limits", laid_dustpan_config_limits)] }
def ConfigBoundsSaid : Prop := configBoundsRow.holds Tryd.pinned (OpenSpec.ofChange configBoundsSpec)

/-- ITS FALSE NEIGHBOUR: 'it returns false'. Refute it at one input. -/
def configBoundsWrong : ChangeSpec := { name := "configBounds", fn := fun _ => fun
  | [d1, d2] => { results := [.lit (.bool false)], args := [d1, d2] }
  | _ => none }
def ConfigBoundsWrongFalsely : Prop := configBoundsRow.holds Tryd.pinned (OpenSpec.ofChange configBoundsWrong)

/-- 'dustpanlaw02.ConfigGrows': WHATEVER THE INPUT: true; the input reads as it did. -/
def configGrowsSpec : ChangeSpec := { name := "configGrows", fn := fun _ => fun
  | [d1, d2, d3] => { results := [.lit (.bool true)], args := [d1, d2, d3] }
  | _ => none }
def configGrowsRow : OpenClaim := { program := "ytahhenbphnejiaadoor", sum := "c791636407438c84014fb9f1ea6862c2581b16e2c82752979b9110ae277e2c89", func := "dustpan/dustpanlaw02.ConfigGrows", spec := "configGrows", unfollowed := true, recurses := true, named := ["dustpan/config.limits"], apart := false, laid := [("dustpan/config.limits", laid_dustpan_config_limits)] }
def ConfigGrowsSaid : Prop := configGrowsRow.holds Tryd.pinned (OpenSpec.ofChange configGrowsSpec)

/-- ITS FALSE NEIGHBOUR: 'it returns false'. Refute it at one input. -/
def configGrowsWrong : ChangeSpec := { name := "configGrows", fn := fun _ => fun
  | [d1, d2, d3] => { results := [.lit (.bool false)], args := [d1, d2, d3] }
  | _ => none }
def ConfigGrowsWrongFalsely : Prop := configGrowsRow.holds Tryd.pinned (OpenSpec.ofChange configGrowsWrong)

/- THE SECOND FORM. 'bulk': how many values and letters a reading holds, each counted each time it is reached (what is shared counts as often as it is met; a slice's spare places count too). A statement '..UptoSaid' is the law's where the arguments, and the package variables that the reading takes, are together of bulk at most 1048576: NARROWER than '..Said'. Prove '..Said' where nothing that the law and all that it calls make is longer than what came in: it says more and counts as full. Else prove '..UptoSaid'. A law counts once. -/
mutual
def uptoBulk {H : Type} : DataW H → Nat
  | .lit (.string bytes) => bytes.length + 1
  | .lit _ => 1
  | .nil => 1
  | .ptr d => uptoBulk d + 1
  | .slice elems spare => uptoBulkAll elems + uptoBulkAll spare + 1
  | .agg parts => uptoBulkAll parts + 1
  | .iface _ d => uptoBulk d + 1
  | .map entries => uptoBulkEntries entries + 1
  | .held _ => 1
def uptoBulkAll {H : Type} : List (DataW H) → Nat
  | [] => 0
  | d :: r => uptoBulk d + uptoBulkAll r
def uptoBulkEntries {H : Type} : List (Lit × DataW H) → Nat
  | [] => 0
  | x :: r => uptoBulkEntry x + uptoBulkEntries r
def uptoBulkEntry {H : Type} : Lit × DataW H → Nat
  | (.string bytes, d) => bytes.length + uptoBulk d + 1
  | (_, d) => uptoBulk d + 1
 end
def uptoSmall : (H : Type) → List (DataW H) → Bool := fun _ ds => decide (uptoBulkAll ds ≤ 1048576)
def OpenSpec.upto (s : _root_.Go.ChangeSpec) : _root_.Go.OpenSpec := { _root_.Go.OpenSpec.ofChange s with cond := some uptoSmall }

/-- 'dustpanlaw01.BitsPlay', WHERE WHAT IT READS IS OF BULK AT MOST 1048576: true; the input reads as it did. -/
def bitsPlayUptoRow : OpenClaim := { program := "ytahhenbphnejiaadoor", sum := "c791636407438c84014fb9f1ea6862c2581b16e2c82752979b9110ae277e2c89", func := "dustpan/dustpanlaw01.BitsPlay", spec := "bitsPlay", unfollowed := true, recurses := true, named := ["math/bits.deBruijn64tab"], apart := false, laid := [("math/bits.deBruijn64tab", laid_math_bits_deBruijn64tab)], narrowed := true }
def BitsPlayUptoSaid : Prop := bitsPlayUptoRow.holds Tryd.pinned (OpenSpec.upto bitsPlaySpec)

/-- 'dustpanlaw01.BitsCopies', WHERE WHAT IT READS IS OF BULK AT MOST 1048576: true; the input reads as it did. -/
def bitsCopiesUptoRow : OpenClaim := { program := "ytahhenbphnejiaadoor", sum := "c791636407438c84014fb9f1ea6862c2581b16e2c82752979b9110ae277e2c89", func := "dustpan/dustpanlaw01.BitsCopies", spec := "bitsCopies", unfollowed := true, recurses := true, named := ["math/bits.deBruijn64tab"], apart := false, laid := [("math/bits.deBruijn64tab", laid_math_bits_deBruijn64tab)], narrowed := true }
def BitsCopiesUptoSaid : Prop := bitsCopiesUptoRow.holds Tryd.pinned (OpenSpec.upto bitsCopiesSpec)

/-- 'dustpanlaw01.BitsNone', WHERE WHAT IT READS IS OF BULK AT MOST 1048576: true; the input reads as it did. -/
def bitsNoneUptoRow : OpenClaim := { program := "ytahhenbphnejiaadoor", sum := "c791636407438c84014fb9f1ea6862c2581b16e2c82752979b9110ae277e2c89", func := "dustpan/dustpanlaw01.BitsNone", spec := "bitsNone", unfollowed := true, recurses := true, named := ["math/bits.deBruijn64tab"], apart := false, laid := [("math/bits.deBruijn64tab", laid_math_bits_deBruijn64tab)], narrowed := true }
def BitsNoneUptoSaid : Prop := bitsNoneUptoRow.holds Tryd.pinned (OpenSpec.upto bitsNoneSpec)

/-- 'dustpanlaw01.BitsRises', WHERE WHAT IT READS IS OF BULK AT MOST 1048576: true; the input reads as it did. -/
def bitsRisesUptoRow : OpenClaim := { program := "ytahhenbphnejiaadoor", sum := "c791636407438c84014fb9f1ea6862c2581b16e2c82752979b9110ae277e2c89", func := "dustpan/dustpanlaw01.BitsRises", spec := "bitsRises", unfollowed := true, recurses := true, named := ["math/bits.deBruijn64tab"], apart := false, laid := [("math/bits.deBruijn64tab", laid_math_bits_deBruijn64tab)], narrowed := true }
def BitsRisesUptoSaid : Prop := bitsRisesUptoRow.holds Tryd.pinned (OpenSpec.upto bitsRisesSpec)

/-- 'dustpanlaw01.BitsSames', WHERE WHAT IT READS IS OF BULK AT MOST 1048576: true; the input reads as it did. -/
def bitsSamesUptoRow : OpenClaim := { program := "ytahhenbphnejiaadoor", sum := "c791636407438c84014fb9f1ea6862c2581b16e2c82752979b9110ae277e2c89", func := "dustpan/dustpanlaw01.BitsSames", spec := "bitsSames", unfollowed := true, recurses := true, named := ["math/bits.deBruijn64tab"], apart := false, laid := [("math/bits.deBruijn64tab", laid_math_bits_deBruijn64tab)], narrowed := true }
def BitsSamesUptoSaid : Prop := bitsSamesUptoRow.holds Tryd.pinned (OpenSpec.upto bitsSamesSpec)

/-- 'dustpanlaw02.ConfigRight', WHERE WHAT IT READS IS OF BULK AT MOST 1048576: true; the input reads as it did. -/
def configRightUptoRow : OpenClaim := { program := "ytahhenbphnejiaadoor", sum := "c791636407438c84014fb9f1ea6862c2581b16e2c82752979b9110ae277e2c89", func := "dustpan/dustpanlaw02.ConfigRight", spec := "configRight", unfollowed := true, recurses := true, named := ["dustpan/config.limits"], apart := false, laid := [("dustpan/config.limits", laid_dustpan_config_limits)], narrowed := true }
def ConfigRightUptoSaid : Prop := configRightUptoRow.holds Tryd.pinned (OpenSpec.upto configRightSpec)

/-- 'dustpanlaw02.ConfigBounds', WHERE WHAT IT READS IS OF BULK AT MOST 1048576: true; the input reads as it did. -/
def configBoundsUptoRow : OpenClaim := { program := "ytahhenbphnejiaadoor", sum := "c791636407438c84014fb9f1ea6862c2581b16e2c82752979b9110ae277e2c89", func := "dustpan/dustpanlaw02.ConfigBounds", spec := "configBounds", unfollowed := true, recurses := true, named := ["dustpan/config.limits"], apart := false, laid := [("dustpan/config.limits", laid_dustpan_config_limits)], narrowed := true }
def ConfigBoundsUptoSaid : Prop := configBoundsUptoRow.holds Tryd.pinned (OpenSpec.upto configBoundsSpec)

/-- 'dustpanlaw02.ConfigGrows', WHERE WHAT IT READS IS OF BULK AT MOST 1048576: true; the input reads as it did. -/
def configGrowsUptoRow : OpenClaim := { program := "ytahhenbphnejiaadoor", sum := "c791636407438c84014fb9f1ea6862c2581b16e2c82752979b9110ae277e2c89", func := "dustpan/dustpanlaw02.ConfigGrows", spec := "configGrows", unfollowed := true, recurses := true, named := ["dustpan/config.limits"], apart := false, laid := [("dustpan/config.limits", laid_dustpan_config_limits)], narrowed := true }
def ConfigGrowsUptoSaid : Prop := configGrowsUptoRow.holds Tryd.pinned (OpenSpec.upto configGrowsSpec)

end Rows
end Go.Proofs.YtahhenbphnejiaaDoor

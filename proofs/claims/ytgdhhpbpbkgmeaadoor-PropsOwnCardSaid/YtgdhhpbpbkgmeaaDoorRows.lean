/-
  NARROWER THAN 'FOR EVERY INPUT', by the rows' own cells (each row's printed sentence says how): SetsMakes: laid · SetsJoins: laid · SetsCases: laid · PropsPosix: laid · PropsEscapes: laid · PropsNames: laid · PropsOne: laid · PropsOwn: laid · PropsParts: laid.
  DERIVED. THE GIVEN ROWS OF THIS SEAT. 9 by the template 'for every input the law returns true; each argument reads behind the call as it read before'; 0 by the template 'total and deterministic' (their statements: YtgdhhpbpbkgmeaaDoorTotals.lean).
  GIVEN WITH THE SEED: the statements are not yours to turn. If you find one false, say at which input.
  Laid BY PROGRAM, IN A SANDBOX (cutbox-rows.mjs): the forced cells as the released guide's own fill.sh prints them over the translation 741d238e51cb39e9… (all of the seat's roots in one cut). By AI agents, Wed Nov 11 2026. No macro, syntax, notation, axiom, sorry.
-/
import Derived.Test.YtgdhhpbpbkgmeaaDoorChecked
import GoSem.Claim
import GoSem.ClaimJoined
import GoSem.ClaimMapViews
import Derived.JoinedTies
import Derived.KernelRfl
namespace Go.Proofs.YtgdhhpbpbkgmeaaDoor
/- THE CELL 'sum', in the pinned program and in every row, IS THE sha256 OF THE DUMP (.gsa) THAT YtgdhhpbpbkgmeaaDoorProg.lean LOADS. Nothing in Lean hashes anything: it is a label: what it is worth is what the hold of that sum in a sandbox is worth. -/
noncomputable def Tryd.pinned : Pinned := { name := "ytgdhhpbpbkgmeaadoor", sum := "741d238e51cb39e9a23e8c980bd8a2cc45e69d9bdfbc18abb365207c4a391a29", checked := Tryd.checked }
namespace Rows
def none {H : Type} : Left H := { results := [], args := [] }

/- WHAT THE LISTED PACKAGE-LEVEL VARIABLES READ AS WHEN THE CALL BEGINS. Each datum BY PROGRAM (the guide's laid-datum.mjs) off the statement by which the dump's own 'gosem.cut.vars' lays the variable. In a bare row this is a premise. The card (YtgdhhpbpbkgmeaaDoorCards.lean) ties it to the program's text. -/
def laid_lurcher_ucd_threes {H : Type} : DataW H := .agg [.agg [.lit (.int .i64 75), .lit (.int .i64 107), .lit (.int .i64 8490)], .agg [.lit (.int .i64 83), .lit (.int .i64 115), .lit (.int .i64 383)], .agg [.lit (.int .i64 181), .lit (.int .i64 924), .lit (.int .i64 956)], .agg [.lit (.int .i64 931), .lit (.int .i64 962), .lit (.int .i64 963)]]
def laid_lurcher_props_starts {H : Type} : DataW H := .agg [.lit (.int .i64 0), .lit (.int .i64 32), .lit (.int .i64 33), .lit (.int .i64 36), .lit (.int .i64 37), .lit (.int .i64 40), .lit (.int .i64 41), .lit (.int .i64 42), .lit (.int .i64 43), .lit (.int .i64 44), .lit (.int .i64 45), .lit (.int .i64 46), .lit (.int .i64 48), .lit (.int .i64 58), .lit (.int .i64 60), .lit (.int .i64 63), .lit (.int .i64 65), .lit (.int .i64 91), .lit (.int .i64 92), .lit (.int .i64 93), .lit (.int .i64 94), .lit (.int .i64 95), .lit (.int .i64 96), .lit (.int .i64 97), .lit (.int .i64 123), .lit (.int .i64 124), .lit (.int .i64 125), .lit (.int .i64 126), .lit (.int .i64 127), .lit (.int .i64 160), .lit (.int .i64 161), .lit (.int .i64 162), .lit (.int .i64 166), .lit (.int .i64 167), .lit (.int .i64 168), .lit (.int .i64 169), .lit (.int .i64 170), .lit (.int .i64 171), .lit (.int .i64 172), .lit (.int .i64 173), .lit (.int .i64 174), .lit (.int .i64 175), .lit (.int .i64 176), .lit (.int .i64 177), .lit (.int .i64 178), .lit (.int .i64 180), .lit (.int .i64 181), .lit (.int .i64 182), .lit (.int .i64 184), .lit (.int .i64 185), .lit (.int .i64 186), .lit (.int .i64 187), .lit (.int .i64 188), .lit (.int .i64 191), .lit (.int .i64 192), .lit (.int .i64 215), .lit (.int .i64 216), .lit (.int .i64 223), .lit (.int .i64 247), .lit (.int .i64 248), .lit (.int .i64 256), .lit (.int .i64 383), .lit (.int .i64 384), .lit (.int .i64 768), .lit (.int .i64 880), .lit (.int .i64 913), .lit (.int .i64 930), .lit (.int .i64 931), .lit (.int .i64 940), .lit (.int .i64 945), .lit (.int .i64 972), .lit (.int .i64 1040), .lit (.int .i64 1072), .lit (.int .i64 1104), .lit (.int .i64 1488), .lit (.int .i64 1515), .lit (.int .i64 1632), .lit (.int .i64 1642), .lit (.int .i64 8192), .lit (.int .i64 8203), .lit (.int .i64 8232), .lit (.int .i64 8233), .lit (.int .i64 8234), .lit (.int .i64 8364), .lit (.int .i64 8365), .lit (.int .i64 8490), .lit (.int .i64 8491), .lit (.int .i64 12353), .lit (.int .i64 12439), .lit (.int .i64 19968), .lit (.int .i64 40960), .lit (.int .i64 127744), .lit (.int .i64 128512), .lit (.int .i64 1114112)]

/-- 'lurcherlaw03.SetsMakes': WHATEVER THE INPUT: true; the input reads as it did. -/
def setsMakesSpec : ChangeSpec := { name := "setsMakes", fn := fun _ => fun
  | [d1, d2, d3] => { results := [.lit (.bool true)], args := [d1, d2, d3] }
  | _ => none }
def setsMakesRow : OpenClaim := { program := "ytgdhhpbpbkgmeaadoor", sum := "741d238e51cb39e9a23e8c980bd8a2cc45e69d9bdfbc18abb365207c4a391a29", func := "lurcher/lurcherlaw03.SetsMakes", spec := "setsMakes", unfollowed := true, recurses := true, named := ["lurcher/ucd.threes"], apart := false, laid := [("lurcher/ucd.threes", laid_lurcher_ucd_threes)] }
def SetsMakesSaid : Prop := setsMakesRow.holds Tryd.pinned (OpenSpec.ofChange setsMakesSpec)

/-- ITS FALSE NEIGHBOUR: 'it returns false'. Refute it at one input. -/
def setsMakesWrong : ChangeSpec := { name := "setsMakes", fn := fun _ => fun
  | [d1, d2, d3] => { results := [.lit (.bool false)], args := [d1, d2, d3] }
  | _ => none }
def SetsMakesWrongFalsely : Prop := setsMakesRow.holds Tryd.pinned (OpenSpec.ofChange setsMakesWrong)

/-- 'lurcherlaw03.SetsJoins': WHATEVER THE INPUT: true; the input reads as it did. -/
def setsJoinsSpec : ChangeSpec := { name := "setsJoins", fn := fun _ => fun
  | [d1, d2, d3] => { results := [.lit (.bool true)], args := [d1, d2, d3] }
  | _ => none }
def setsJoinsRow : OpenClaim := { program := "ytgdhhpbpbkgmeaadoor", sum := "741d238e51cb39e9a23e8c980bd8a2cc45e69d9bdfbc18abb365207c4a391a29", func := "lurcher/lurcherlaw03.SetsJoins", spec := "setsJoins", unfollowed := true, recurses := true, named := ["lurcher/ucd.threes"], apart := false, laid := [("lurcher/ucd.threes", laid_lurcher_ucd_threes)] }
def SetsJoinsSaid : Prop := setsJoinsRow.holds Tryd.pinned (OpenSpec.ofChange setsJoinsSpec)

/-- ITS FALSE NEIGHBOUR: 'it returns false'. Refute it at one input. -/
def setsJoinsWrong : ChangeSpec := { name := "setsJoins", fn := fun _ => fun
  | [d1, d2, d3] => { results := [.lit (.bool false)], args := [d1, d2, d3] }
  | _ => none }
def SetsJoinsWrongFalsely : Prop := setsJoinsRow.holds Tryd.pinned (OpenSpec.ofChange setsJoinsWrong)

/-- 'lurcherlaw03.SetsCases': WHATEVER THE INPUT: true; the input reads as it did. -/
def setsCasesSpec : ChangeSpec := { name := "setsCases", fn := fun _ => fun
  | [d1, d2] => { results := [.lit (.bool true)], args := [d1, d2] }
  | _ => none }
def setsCasesRow : OpenClaim := { program := "ytgdhhpbpbkgmeaadoor", sum := "741d238e51cb39e9a23e8c980bd8a2cc45e69d9bdfbc18abb365207c4a391a29", func := "lurcher/lurcherlaw03.SetsCases", spec := "setsCases", unfollowed := true, recurses := true, named := ["lurcher/ucd.threes"], apart := false, laid := [("lurcher/ucd.threes", laid_lurcher_ucd_threes)] }
def SetsCasesSaid : Prop := setsCasesRow.holds Tryd.pinned (OpenSpec.ofChange setsCasesSpec)

/-- ITS FALSE NEIGHBOUR: 'it returns false'. Refute it at one input. -/
def setsCasesWrong : ChangeSpec := { name := "setsCases", fn := fun _ => fun
  | [d1, d2] => { results := [.lit (.bool false)], args := [d1, d2] }
  | _ => none }
def SetsCasesWrongFalsely : Prop := setsCasesRow.holds Tryd.pinned (OpenSpec.ofChange setsCasesWrong)

/-- 'lurcherlaw04.PropsPosix': WHATEVER THE INPUT: true; the input reads as it did. -/
def propsPosixSpec : ChangeSpec := { name := "propsPosix", fn := fun _ => fun
  | [d] => { results := [.lit (.bool true)], args := [d] }
  | _ => none }
def propsPosixRow : OpenClaim := { program := "ytgdhhpbpbkgmeaadoor", sum := "741d238e51cb39e9a23e8c980bd8a2cc45e69d9bdfbc18abb365207c4a391a29", func := "lurcher/lurcherlaw04.PropsPosix", spec := "propsPosix", unfollowed := true, recurses := true, named := ["lurcher/props.starts"], apart := false, laid := [("lurcher/props.starts", laid_lurcher_props_starts)] }
def PropsPosixSaid : Prop := propsPosixRow.holds Tryd.pinned (OpenSpec.ofChange propsPosixSpec)

/-- ITS FALSE NEIGHBOUR: 'it returns false'. Refute it at one input. -/
def propsPosixWrong : ChangeSpec := { name := "propsPosix", fn := fun _ => fun
  | [d] => { results := [.lit (.bool false)], args := [d] }
  | _ => none }
def PropsPosixWrongFalsely : Prop := propsPosixRow.holds Tryd.pinned (OpenSpec.ofChange propsPosixWrong)

/-- 'lurcherlaw04.PropsEscapes': WHATEVER THE INPUT: true; the input reads as it did. -/
def propsEscapesSpec : ChangeSpec := { name := "propsEscapes", fn := fun _ => fun
  | [d] => { results := [.lit (.bool true)], args := [d] }
  | _ => none }
def propsEscapesRow : OpenClaim := { program := "ytgdhhpbpbkgmeaadoor", sum := "741d238e51cb39e9a23e8c980bd8a2cc45e69d9bdfbc18abb365207c4a391a29", func := "lurcher/lurcherlaw04.PropsEscapes", spec := "propsEscapes", unfollowed := true, recurses := true, named := ["lurcher/props.starts"], apart := false, laid := [("lurcher/props.starts", laid_lurcher_props_starts)] }
def PropsEscapesSaid : Prop := propsEscapesRow.holds Tryd.pinned (OpenSpec.ofChange propsEscapesSpec)

/-- ITS FALSE NEIGHBOUR: 'it returns false'. Refute it at one input. -/
def propsEscapesWrong : ChangeSpec := { name := "propsEscapes", fn := fun _ => fun
  | [d] => { results := [.lit (.bool false)], args := [d] }
  | _ => none }
def PropsEscapesWrongFalsely : Prop := propsEscapesRow.holds Tryd.pinned (OpenSpec.ofChange propsEscapesWrong)

/-- 'lurcherlaw04.PropsNames': WHATEVER THE INPUT: true; the input reads as it did. -/
def propsNamesSpec : ChangeSpec := { name := "propsNames", fn := fun _ => fun
  | [d] => { results := [.lit (.bool true)], args := [d] }
  | _ => none }
def propsNamesRow : OpenClaim := { program := "ytgdhhpbpbkgmeaadoor", sum := "741d238e51cb39e9a23e8c980bd8a2cc45e69d9bdfbc18abb365207c4a391a29", func := "lurcher/lurcherlaw04.PropsNames", spec := "propsNames", unfollowed := true, recurses := true, named := ["lurcher/props.starts"], apart := false, laid := [("lurcher/props.starts", laid_lurcher_props_starts)] }
def PropsNamesSaid : Prop := propsNamesRow.holds Tryd.pinned (OpenSpec.ofChange propsNamesSpec)

/-- ITS FALSE NEIGHBOUR: 'it returns false'. Refute it at one input. -/
def propsNamesWrong : ChangeSpec := { name := "propsNames", fn := fun _ => fun
  | [d] => { results := [.lit (.bool false)], args := [d] }
  | _ => none }
def PropsNamesWrongFalsely : Prop := propsNamesRow.holds Tryd.pinned (OpenSpec.ofChange propsNamesWrong)

/-- 'lurcherlaw04.PropsOne': WHATEVER THE INPUT: true; the input reads as it did. -/
def propsOneSpec : ChangeSpec := { name := "propsOne", fn := fun _ => fun
  | [d] => { results := [.lit (.bool true)], args := [d] }
  | _ => none }
def propsOneRow : OpenClaim := { program := "ytgdhhpbpbkgmeaadoor", sum := "741d238e51cb39e9a23e8c980bd8a2cc45e69d9bdfbc18abb365207c4a391a29", func := "lurcher/lurcherlaw04.PropsOne", spec := "propsOne", unfollowed := true, recurses := true, named := ["lurcher/props.starts"], apart := false, laid := [("lurcher/props.starts", laid_lurcher_props_starts)] }
def PropsOneSaid : Prop := propsOneRow.holds Tryd.pinned (OpenSpec.ofChange propsOneSpec)

/-- ITS FALSE NEIGHBOUR: 'it returns false'. Refute it at one input. -/
def propsOneWrong : ChangeSpec := { name := "propsOne", fn := fun _ => fun
  | [d] => { results := [.lit (.bool false)], args := [d] }
  | _ => none }
def PropsOneWrongFalsely : Prop := propsOneRow.holds Tryd.pinned (OpenSpec.ofChange propsOneWrong)

/-- 'lurcherlaw04.PropsOwn': WHATEVER THE INPUT: true; the input reads as it did. -/
def propsOwnSpec : ChangeSpec := { name := "propsOwn", fn := fun _ => fun
  | [d] => { results := [.lit (.bool true)], args := [d] }
  | _ => none }
def propsOwnRow : OpenClaim := { program := "ytgdhhpbpbkgmeaadoor", sum := "741d238e51cb39e9a23e8c980bd8a2cc45e69d9bdfbc18abb365207c4a391a29", func := "lurcher/lurcherlaw04.PropsOwn", spec := "propsOwn", unfollowed := true, recurses := true, named := ["lurcher/props.starts"], apart := false, laid := [("lurcher/props.starts", laid_lurcher_props_starts)] }
def PropsOwnSaid : Prop := propsOwnRow.holds Tryd.pinned (OpenSpec.ofChange propsOwnSpec)

/-- ITS FALSE NEIGHBOUR: 'it returns false'. Refute it at one input. -/
def propsOwnWrong : ChangeSpec := { name := "propsOwn", fn := fun _ => fun
  | [d] => { results := [.lit (.bool false)], args := [d] }
  | _ => none }
def PropsOwnWrongFalsely : Prop := propsOwnRow.holds Tryd.pinned (OpenSpec.ofChange propsOwnWrong)

/-- 'lurcherlaw04.PropsParts': WHATEVER THE INPUT: true; the input reads as it did. -/
def propsPartsSpec : ChangeSpec := { name := "propsParts", fn := fun _ => fun
  | [d] => { results := [.lit (.bool true)], args := [d] }
  | _ => none }
def propsPartsRow : OpenClaim := { program := "ytgdhhpbpbkgmeaadoor", sum := "741d238e51cb39e9a23e8c980bd8a2cc45e69d9bdfbc18abb365207c4a391a29", func := "lurcher/lurcherlaw04.PropsParts", spec := "propsParts", unfollowed := true, recurses := true, named := ["lurcher/props.starts"], apart := false, laid := [("lurcher/props.starts", laid_lurcher_props_starts)] }
def PropsPartsSaid : Prop := propsPartsRow.holds Tryd.pinned (OpenSpec.ofChange propsPartsSpec)

/-- ITS FALSE NEIGHBOUR: 'it returns false'. Refute it at one input. -/
def propsPartsWrong : ChangeSpec := { name := "propsParts", fn := fun _ => fun
  | [d] => { results := [.lit (.bool false)], args := [d] }
  | _ => none }
def PropsPartsWrongFalsely : Prop := propsPartsRow.holds Tryd.pinned (OpenSpec.ofChange propsPartsWrong)

/- THE SECOND FORM. 'bulk': how many values and letters a reading holds, each counted each time it is reached (what is shared counts as often as it is met; a slice's spare places count too). A statement '..UptoSaid' is the law's where the arguments, and the package variables that the reading takes, are together of bulk at most 1048576: NARROWER than '..Said'. Prove '..Said' where nothing that the law and all that it calls make is longer than what came in: it says more and counts as full. Else prove '..UptoSaid'. A law counts once. -/
mutual
def uptoBulk {H : Type} : DataW H → Nat
  | .lit (.string bytes) => bytes.length + 1
  | .lit _ => 1
  | .nil => 1
  | .ptr d => uptoBulk d + 1
  | .slice elems spare => uptoBulkAll elems + uptoBulkAll spare + 1
  | .agg parts => uptoBulkAll parts + 1
  | .iface _ d => uptoBulk d + 1
  | .map entries => uptoBulkEntries entries + 1
  | .held _ => 1
def uptoBulkAll {H : Type} : List (DataW H) → Nat
  | [] => 0
  | d :: r => uptoBulk d + uptoBulkAll r
def uptoBulkEntries {H : Type} : List (Lit × DataW H) → Nat
  | [] => 0
  | x :: r => uptoBulkEntry x + uptoBulkEntries r
def uptoBulkEntry {H : Type} : Lit × DataW H → Nat
  | (.string bytes, d) => bytes.length + uptoBulk d + 1
  | (_, d) => uptoBulk d + 1
 end
def uptoSmall : (H : Type) → List (DataW H) → Bool := fun _ ds => decide (uptoBulkAll ds ≤ 1048576)
def OpenSpec.upto (s : _root_.Go.ChangeSpec) : _root_.Go.OpenSpec := { _root_.Go.OpenSpec.ofChange s with cond := some uptoSmall }

/-- 'lurcherlaw03.SetsMakes', WHERE WHAT IT READS IS OF BULK AT MOST 1048576: true; the input reads as it did. -/
def setsMakesUptoRow : OpenClaim := { program := "ytgdhhpbpbkgmeaadoor", sum := "741d238e51cb39e9a23e8c980bd8a2cc45e69d9bdfbc18abb365207c4a391a29", func := "lurcher/lurcherlaw03.SetsMakes", spec := "setsMakes", unfollowed := true, recurses := true, named := ["lurcher/ucd.threes"], apart := false, laid := [("lurcher/ucd.threes", laid_lurcher_ucd_threes)], narrowed := true }
def SetsMakesUptoSaid : Prop := setsMakesUptoRow.holds Tryd.pinned (OpenSpec.upto setsMakesSpec)

/-- 'lurcherlaw03.SetsJoins', WHERE WHAT IT READS IS OF BULK AT MOST 1048576: true; the input reads as it did. -/
def setsJoinsUptoRow : OpenClaim := { program := "ytgdhhpbpbkgmeaadoor", sum := "741d238e51cb39e9a23e8c980bd8a2cc45e69d9bdfbc18abb365207c4a391a29", func := "lurcher/lurcherlaw03.SetsJoins", spec := "setsJoins", unfollowed := true, recurses := true, named := ["lurcher/ucd.threes"], apart := false, laid := [("lurcher/ucd.threes", laid_lurcher_ucd_threes)], narrowed := true }
def SetsJoinsUptoSaid : Prop := setsJoinsUptoRow.holds Tryd.pinned (OpenSpec.upto setsJoinsSpec)

/-- 'lurcherlaw03.SetsCases', WHERE WHAT IT READS IS OF BULK AT MOST 1048576: true; the input reads as it did. -/
def setsCasesUptoRow : OpenClaim := { program := "ytgdhhpbpbkgmeaadoor", sum := "741d238e51cb39e9a23e8c980bd8a2cc45e69d9bdfbc18abb365207c4a391a29", func := "lurcher/lurcherlaw03.SetsCases", spec := "setsCases", unfollowed := true, recurses := true, named := ["lurcher/ucd.threes"], apart := false, laid := [("lurcher/ucd.threes", laid_lurcher_ucd_threes)], narrowed := true }
def SetsCasesUptoSaid : Prop := setsCasesUptoRow.holds Tryd.pinned (OpenSpec.upto setsCasesSpec)

/-- 'lurcherlaw04.PropsPosix', WHERE WHAT IT READS IS OF BULK AT MOST 1048576: true; the input reads as it did. -/
def propsPosixUptoRow : OpenClaim := { program := "ytgdhhpbpbkgmeaadoor", sum := "741d238e51cb39e9a23e8c980bd8a2cc45e69d9bdfbc18abb365207c4a391a29", func := "lurcher/lurcherlaw04.PropsPosix", spec := "propsPosix", unfollowed := true, recurses := true, named := ["lurcher/props.starts"], apart := false, laid := [("lurcher/props.starts", laid_lurcher_props_starts)], narrowed := true }
def PropsPosixUptoSaid : Prop := propsPosixUptoRow.holds Tryd.pinned (OpenSpec.upto propsPosixSpec)

/-- 'lurcherlaw04.PropsEscapes', WHERE WHAT IT READS IS OF BULK AT MOST 1048576: true; the input reads as it did. -/
def propsEscapesUptoRow : OpenClaim := { program := "ytgdhhpbpbkgmeaadoor", sum := "741d238e51cb39e9a23e8c980bd8a2cc45e69d9bdfbc18abb365207c4a391a29", func := "lurcher/lurcherlaw04.PropsEscapes", spec := "propsEscapes", unfollowed := true, recurses := true, named := ["lurcher/props.starts"], apart := false, laid := [("lurcher/props.starts", laid_lurcher_props_starts)], narrowed := true }
def PropsEscapesUptoSaid : Prop := propsEscapesUptoRow.holds Tryd.pinned (OpenSpec.upto propsEscapesSpec)

/-- 'lurcherlaw04.PropsNames', WHERE WHAT IT READS IS OF BULK AT MOST 1048576: true; the input reads as it did. -/
def propsNamesUptoRow : OpenClaim := { program := "ytgdhhpbpbkgmeaadoor", sum := "741d238e51cb39e9a23e8c980bd8a2cc45e69d9bdfbc18abb365207c4a391a29", func := "lurcher/lurcherlaw04.PropsNames", spec := "propsNames", unfollowed := true, recurses := true, named := ["lurcher/props.starts"], apart := false, laid := [("lurcher/props.starts", laid_lurcher_props_starts)], narrowed := true }
def PropsNamesUptoSaid : Prop := propsNamesUptoRow.holds Tryd.pinned (OpenSpec.upto propsNamesSpec)

/-- 'lurcherlaw04.PropsOne', WHERE WHAT IT READS IS OF BULK AT MOST 1048576: true; the input reads as it did. -/
def propsOneUptoRow : OpenClaim := { program := "ytgdhhpbpbkgmeaadoor", sum := "741d238e51cb39e9a23e8c980bd8a2cc45e69d9bdfbc18abb365207c4a391a29", func := "lurcher/lurcherlaw04.PropsOne", spec := "propsOne", unfollowed := true, recurses := true, named := ["lurcher/props.starts"], apart := false, laid := [("lurcher/props.starts", laid_lurcher_props_starts)], narrowed := true }
def PropsOneUptoSaid : Prop := propsOneUptoRow.holds Tryd.pinned (OpenSpec.upto propsOneSpec)

/-- 'lurcherlaw04.PropsOwn', WHERE WHAT IT READS IS OF BULK AT MOST 1048576: true; the input reads as it did. -/
def propsOwnUptoRow : OpenClaim := { program := "ytgdhhpbpbkgmeaadoor", sum := "741d238e51cb39e9a23e8c980bd8a2cc45e69d9bdfbc18abb365207c4a391a29", func := "lurcher/lurcherlaw04.PropsOwn", spec := "propsOwn", unfollowed := true, recurses := true, named := ["lurcher/props.starts"], apart := false, laid := [("lurcher/props.starts", laid_lurcher_props_starts)], narrowed := true }
def PropsOwnUptoSaid : Prop := propsOwnUptoRow.holds Tryd.pinned (OpenSpec.upto propsOwnSpec)

/-- 'lurcherlaw04.PropsParts', WHERE WHAT IT READS IS OF BULK AT MOST 1048576: true; the input reads as it did. -/
def propsPartsUptoRow : OpenClaim := { program := "ytgdhhpbpbkgmeaadoor", sum := "741d238e51cb39e9a23e8c980bd8a2cc45e69d9bdfbc18abb365207c4a391a29", func := "lurcher/lurcherlaw04.PropsParts", spec := "propsParts", unfollowed := true, recurses := true, named := ["lurcher/props.starts"], apart := false, laid := [("lurcher/props.starts", laid_lurcher_props_starts)], narrowed := true }
def PropsPartsUptoSaid : Prop := propsPartsUptoRow.holds Tryd.pinned (OpenSpec.upto propsPartsSpec)

end Rows
end Go.Proofs.YtgdhhpbpbkgmeaaDoor

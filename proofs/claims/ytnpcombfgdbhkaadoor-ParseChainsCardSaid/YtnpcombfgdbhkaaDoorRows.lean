/-
  NARROWER THAN 'FOR EVERY INPUT', by the rows' own cells (each row's printed sentence says how): ParseSays: laid · ParseMay: laid · ParseWithin: laid · ParseDeep: laid · ParseJoins: laid · ParseChains: laid.
  DERIVED. THE GIVEN ROWS OF THIS SEAT. 6 by the template 'for every input the law returns true; each argument reads behind the call as it read before'; 0 by the template 'total and deterministic' (their statements: YtnpcombfgdbhkaaDoorTotals.lean).
  GIVEN WITH THE SEED: the statements are not yours to turn. If you find one false, say at which input.
  Laid BY PROGRAM, IN A SANDBOX (cutbox-rows.mjs): the forced cells as the released guide's own fill.sh prints them over the translation 7d3b5b3c37f810af… (all of the seat's roots in one cut). By AI agents, Wed Nov 11 2026. No macro, syntax, notation, axiom, sorry.
-/
import Derived.Test.YtnpcombfgdbhkaaDoorChecked
import GoSem.Claim
import GoSem.ClaimJoined
import GoSem.ClaimMapViews
import Derived.JoinedTies
import Derived.KernelRfl
namespace Go.Proofs.YtnpcombfgdbhkaaDoor
/- THE CELL 'sum', in the pinned program and in every row, IS THE sha256 OF THE DUMP (.gsa) THAT YtnpcombfgdbhkaaDoorProg.lean LOADS. Nothing in Lean hashes anything: it is a label: what it is worth is what the hold of that sum in a sandbox is worth. -/
noncomputable def Tryd.pinned : Pinned := { name := "ytnpcombfgdbhkaadoor", sum := "7d3b5b3c37f810af03e823a3441b66c55b4f74f7c1c9b0db564594e725b4a3ad", checked := Tryd.checked }
namespace Rows
def none {H : Type} : Left H := { results := [], args := [] }

/- WHAT THE LISTED PACKAGE-LEVEL VARIABLES READ AS WHEN THE CALL BEGINS. Each datum BY PROGRAM (the guide's laid-datum.mjs) off the statement by which the dump's own 'gosem.cut.vars' lays the variable. In a bare row this is a premise. The card (YtnpcombfgdbhkaaDoorCards.lean) ties it to the program's text. -/
def laid_lurcher_parse_elements {H : Type} : DataW H := .agg [.lit (.int .i64 0), .lit (.int .i64 1), .lit (.int .i64 2), .lit (.int .i64 3), .lit (.int .i64 4), .lit (.int .i64 5), .lit (.int .i64 6), .lit (.int .i64 0), .lit (.int .i64 0), .lit (.int .i64 0), .lit (.int .i64 0), .lit (.int .i64 7), .lit (.int .i64 8), .lit (.int .i64 9), .lit (.int .i64 10), .lit (.int .i64 11)]
def laid_lurcher_parse_groups {H : Type} : DataW H := .agg [.lit (.int .i64 0), .lit (.int .i64 14), .lit (.int .i64 15), .lit (.int .i64 16), .lit (.int .i64 17), .lit (.int .i64 18), .lit (.int .i64 18), .lit (.int .i64 18), .lit (.int .i64 18), .lit (.int .i64 19), .lit (.int .i64 19), .lit (.int .i64 19), .lit (.int .i64 19), .lit (.int .i64 19)]

/-- 'lurcherlaw07.ParseSays': WHATEVER THE INPUT: true; the input reads as it did. -/
def parseSaysSpec : ChangeSpec := { name := "parseSays", fn := fun _ => fun
  | [d1, d2] => { results := [.lit (.bool true)], args := [d1, d2] }
  | _ => none }
def parseSaysRow : OpenClaim := { program := "ytnpcombfgdbhkaadoor", sum := "7d3b5b3c37f810af03e823a3441b66c55b4f74f7c1c9b0db564594e725b4a3ad", func := "lurcher/lurcherlaw07.ParseSays", spec := "parseSays", recurses := true, named := ["lurcher/parse.groups", "lurcher/parse.elements"], apart := false, laid := [("lurcher/parse.elements", laid_lurcher_parse_elements), ("lurcher/parse.groups", laid_lurcher_parse_groups)] }
def ParseSaysSaid : Prop := parseSaysRow.holds Tryd.pinned (OpenSpec.ofChange parseSaysSpec)

/-- ITS FALSE NEIGHBOUR: 'it returns false'. Refute it at one input. -/
def parseSaysWrong : ChangeSpec := { name := "parseSays", fn := fun _ => fun
  | [d1, d2] => { results := [.lit (.bool false)], args := [d1, d2] }
  | _ => none }
def ParseSaysWrongFalsely : Prop := parseSaysRow.holds Tryd.pinned (OpenSpec.ofChange parseSaysWrong)

/-- 'lurcherlaw07.ParseMay': WHATEVER THE INPUT: true; the input reads as it did. -/
def parseMaySpec : ChangeSpec := { name := "parseMay", fn := fun _ => fun
  | [d1, d2] => { results := [.lit (.bool true)], args := [d1, d2] }
  | _ => none }
def parseMayRow : OpenClaim := { program := "ytnpcombfgdbhkaadoor", sum := "7d3b5b3c37f810af03e823a3441b66c55b4f74f7c1c9b0db564594e725b4a3ad", func := "lurcher/lurcherlaw07.ParseMay", spec := "parseMay", recurses := true, named := ["lurcher/parse.groups", "lurcher/parse.elements"], apart := false, laid := [("lurcher/parse.elements", laid_lurcher_parse_elements), ("lurcher/parse.groups", laid_lurcher_parse_groups)] }
def ParseMaySaid : Prop := parseMayRow.holds Tryd.pinned (OpenSpec.ofChange parseMaySpec)

/-- ITS FALSE NEIGHBOUR: 'it returns false'. Refute it at one input. -/
def parseMayWrong : ChangeSpec := { name := "parseMay", fn := fun _ => fun
  | [d1, d2] => { results := [.lit (.bool false)], args := [d1, d2] }
  | _ => none }
def ParseMayWrongFalsely : Prop := parseMayRow.holds Tryd.pinned (OpenSpec.ofChange parseMayWrong)

/-- 'lurcherlaw07.ParseWithin': WHATEVER THE INPUT: true; the input reads as it did. -/
def parseWithinSpec : ChangeSpec := { name := "parseWithin", fn := fun _ => fun
  | [d] => { results := [.lit (.bool true)], args := [d] }
  | _ => none }
def parseWithinRow : OpenClaim := { program := "ytnpcombfgdbhkaadoor", sum := "7d3b5b3c37f810af03e823a3441b66c55b4f74f7c1c9b0db564594e725b4a3ad", func := "lurcher/lurcherlaw07.ParseWithin", spec := "parseWithin", recurses := true, named := ["lurcher/parse.groups", "lurcher/parse.elements"], apart := false, laid := [("lurcher/parse.elements", laid_lurcher_parse_elements), ("lurcher/parse.groups", laid_lurcher_parse_groups)] }
def ParseWithinSaid : Prop := parseWithinRow.holds Tryd.pinned (OpenSpec.ofChange parseWithinSpec)

/-- ITS FALSE NEIGHBOUR: 'it returns false'. Refute it at one input. -/
def parseWithinWrong : ChangeSpec := { name := "parseWithin", fn := fun _ => fun
  | [d] => { results := [.lit (.bool false)], args := [d] }
  | _ => none }
def ParseWithinWrongFalsely : Prop := parseWithinRow.holds Tryd.pinned (OpenSpec.ofChange parseWithinWrong)

/-- 'lurcherlaw07.ParseDeep': WHATEVER THE INPUT: true; the input reads as it did. -/
def parseDeepSpec : ChangeSpec := { name := "parseDeep", fn := fun _ => fun
  | [d1, d2] => { results := [.lit (.bool true)], args := [d1, d2] }
  | _ => none }
def parseDeepRow : OpenClaim := { program := "ytnpcombfgdbhkaadoor", sum := "7d3b5b3c37f810af03e823a3441b66c55b4f74f7c1c9b0db564594e725b4a3ad", func := "lurcher/lurcherlaw07.ParseDeep", spec := "parseDeep", named := ["lurcher/parse.groups", "lurcher/parse.elements"], apart := false, laid := [("lurcher/parse.elements", laid_lurcher_parse_elements), ("lurcher/parse.groups", laid_lurcher_parse_groups)] }
def ParseDeepSaid : Prop := parseDeepRow.holds Tryd.pinned (OpenSpec.ofChange parseDeepSpec)

/-- ITS FALSE NEIGHBOUR: 'it returns false'. Refute it at one input. -/
def parseDeepWrong : ChangeSpec := { name := "parseDeep", fn := fun _ => fun
  | [d1, d2] => { results := [.lit (.bool false)], args := [d1, d2] }
  | _ => none }
def ParseDeepWrongFalsely : Prop := parseDeepRow.holds Tryd.pinned (OpenSpec.ofChange parseDeepWrong)

/-- 'lurcherlaw07.ParseJoins': WHATEVER THE INPUT: true; the input reads as it did. -/
def parseJoinsSpec : ChangeSpec := { name := "parseJoins", fn := fun _ => fun
  | [d1, d2] => { results := [.lit (.bool true)], args := [d1, d2] }
  | _ => none }
def parseJoinsRow : OpenClaim := { program := "ytnpcombfgdbhkaadoor", sum := "7d3b5b3c37f810af03e823a3441b66c55b4f74f7c1c9b0db564594e725b4a3ad", func := "lurcher/lurcherlaw07.ParseJoins", spec := "parseJoins", recurses := true, named := ["lurcher/parse.groups", "lurcher/parse.elements"], apart := false, laid := [("lurcher/parse.elements", laid_lurcher_parse_elements), ("lurcher/parse.groups", laid_lurcher_parse_groups)] }
def ParseJoinsSaid : Prop := parseJoinsRow.holds Tryd.pinned (OpenSpec.ofChange parseJoinsSpec)

/-- ITS FALSE NEIGHBOUR: 'it returns false'. Refute it at one input. -/
def parseJoinsWrong : ChangeSpec := { name := "parseJoins", fn := fun _ => fun
  | [d1, d2] => { results := [.lit (.bool false)], args := [d1, d2] }
  | _ => none }
def ParseJoinsWrongFalsely : Prop := parseJoinsRow.holds Tryd.pinned (OpenSpec.ofChange parseJoinsWrong)

/-- 'lurcherlaw07.ParseChains': WHATEVER THE INPUT: true; the input reads as it did. -/
def parseChainsSpec : ChangeSpec := { name := "parseChains", fn := fun _ => fun
  | [d] => { results := [.lit (.bool true)], args := [d] }
  | _ => none }
def parseChainsRow : OpenClaim := { program := "ytnpcombfgdbhkaadoor", sum := "7d3b5b3c37f810af03e823a3441b66c55b4f74f7c1c9b0db564594e725b4a3ad", func := "lurcher/lurcherlaw07.ParseChains", spec := "parseChains", named := ["lurcher/parse.groups", "lurcher/parse.elements"], apart := false, laid := [("lurcher/parse.elements", laid_lurcher_parse_elements), ("lurcher/parse.groups", laid_lurcher_parse_groups)] }
def ParseChainsSaid : Prop := parseChainsRow.holds Tryd.pinned (OpenSpec.ofChange parseChainsSpec)

/-- ITS FALSE NEIGHBOUR: 'it returns false'. Refute it at one input. -/
def parseChainsWrong : ChangeSpec := { name := "parseChains", fn := fun _ => fun
  | [d] => { results := [.lit (.bool false)], args := [d] }
  | _ => none }
def ParseChainsWrongFalsely : Prop := parseChainsRow.holds Tryd.pinned (OpenSpec.ofChange parseChainsWrong)

/- THE SECOND FORM. 'bulk': how many values and letters a reading holds, each counted each time it is reached (what is shared counts as often as it is met; a slice's spare places count too). A statement '..UptoSaid' is the law's where the arguments, and the package variables that the reading takes, are together of bulk at most 1048576: NARROWER than '..Said'. Prove '..Said' where nothing that the law and all that it calls make is longer than what came in: it says more and counts as full. Else prove '..UptoSaid'. A law counts once. -/
mutual
def uptoBulk {H : Type} : DataW H → Nat
  | .lit (.string bytes) => bytes.length + 1
  | .lit _ => 1
  | .nil => 1
  | .ptr d => uptoBulk d + 1
  | .slice elems spare => uptoBulkAll elems + uptoBulkAll spare + 1
  | .agg parts => uptoBulkAll parts + 1
  | .iface _ d => uptoBulk d + 1
  | .map entries => uptoBulkEntries entries + 1
  | .held _ => 1
def uptoBulkAll {H : Type} : List (DataW H) → Nat
  | [] => 0
  | d :: r => uptoBulk d + uptoBulkAll r
def uptoBulkEntries {H : Type} : List (Lit × DataW H) → Nat
  | [] => 0
  | x :: r => uptoBulkEntry x + uptoBulkEntries r
def uptoBulkEntry {H : Type} : Lit × DataW H → Nat
  | (.string bytes, d) => bytes.length + uptoBulk d + 1
  | (_, d) => uptoBulk d + 1
 end
def uptoSmall : (H : Type) → List (DataW H) → Bool := fun _ ds => decide (uptoBulkAll ds ≤ 1048576)
def OpenSpec.upto (s : _root_.Go.ChangeSpec) : _root_.Go.OpenSpec := { _root_.Go.OpenSpec.ofChange s with cond := some uptoSmall }

/-- 'lurcherlaw07.ParseSays', WHERE WHAT IT READS IS OF BULK AT MOST 1048576: true; the input reads as it did. -/
def parseSaysUptoRow : OpenClaim := { program := "ytnpcombfgdbhkaadoor", sum := "7d3b5b3c37f810af03e823a3441b66c55b4f74f7c1c9b0db564594e725b4a3ad", func := "lurcher/lurcherlaw07.ParseSays", spec := "parseSays", recurses := true, named := ["lurcher/parse.groups", "lurcher/parse.elements"], apart := false, laid := [("lurcher/parse.elements", laid_lurcher_parse_elements), ("lurcher/parse.groups", laid_lurcher_parse_groups)], narrowed := true }
def ParseSaysUptoSaid : Prop := parseSaysUptoRow.holds Tryd.pinned (OpenSpec.upto parseSaysSpec)

/-- 'lurcherlaw07.ParseMay', WHERE WHAT IT READS IS OF BULK AT MOST 1048576: true; the input reads as it did. -/
def parseMayUptoRow : OpenClaim := { program := "ytnpcombfgdbhkaadoor", sum := "7d3b5b3c37f810af03e823a3441b66c55b4f74f7c1c9b0db564594e725b4a3ad", func := "lurcher/lurcherlaw07.ParseMay", spec := "parseMay", recurses := true, named := ["lurcher/parse.groups", "lurcher/parse.elements"], apart := false, laid := [("lurcher/parse.elements", laid_lurcher_parse_elements), ("lurcher/parse.groups", laid_lurcher_parse_groups)], narrowed := true }
def ParseMayUptoSaid : Prop := parseMayUptoRow.holds Tryd.pinned (OpenSpec.upto parseMaySpec)

/-- 'lurcherlaw07.ParseWithin', WHERE WHAT IT READS IS OF BULK AT MOST 1048576: true; the input reads as it did. -/
def parseWithinUptoRow : OpenClaim := { program := "ytnpcombfgdbhkaadoor", sum := "7d3b5b3c37f810af03e823a3441b66c55b4f74f7c1c9b0db564594e725b4a3ad", func := "lurcher/lurcherlaw07.ParseWithin", spec := "parseWithin", recurses := true, named := ["lurcher/parse.groups", "lurcher/parse.elements"], apart := false, laid := [("lurcher/parse.elements", laid_lurcher_parse_elements), ("lurcher/parse.groups", laid_lurcher_parse_groups)], narrowed := true }
def ParseWithinUptoSaid : Prop := parseWithinUptoRow.holds Tryd.pinned (OpenSpec.upto parseWithinSpec)

/-- 'lurcherlaw07.ParseDeep', WHERE WHAT IT READS IS OF BULK AT MOST 1048576: true; the input reads as it did. -/
def parseDeepUptoRow : OpenClaim := { program := "ytnpcombfgdbhkaadoor", sum := "7d3b5b3c37f810af03e823a3441b66c55b4f74f7c1c9b0db564594e725b4a3ad", func := "lurcher/lurcherlaw07.ParseDeep", spec := "parseDeep", named := ["lurcher/parse.groups", "lurcher/parse.elements"], apart := false, laid := [("lurcher/parse.elements", laid_lurcher_parse_elements), ("lurcher/parse.groups", laid_lurcher_parse_groups)], narrowed := true }
def ParseDeepUptoSaid : Prop := parseDeepUptoRow.holds Tryd.pinned (OpenSpec.upto parseDeepSpec)

/-- 'lurcherlaw07.ParseJoins', WHERE WHAT IT READS IS OF BULK AT MOST 1048576: true; the input reads as it did. -/
def parseJoinsUptoRow : OpenClaim := { program := "ytnpcombfgdbhkaadoor", sum := "7d3b5b3c37f810af03e823a3441b66c55b4f74f7c1c9b0db564594e725b4a3ad", func := "lurcher/lurcherlaw07.ParseJoins", spec := "parseJoins", recurses := true, named := ["lurcher/parse.groups", "lurcher/parse.elements"], apart := false, laid := [("lurcher/parse.elements", laid_lurcher_parse_elements), ("lurcher/parse.groups", laid_lurcher_parse_groups)], narrowed := true }
def ParseJoinsUptoSaid : Prop := parseJoinsUptoRow.holds Tryd.pinned (OpenSpec.upto parseJoinsSpec)

/-- 'lurcherlaw07.ParseChains', WHERE WHAT IT READS IS OF BULK AT MOST 1048576: true; the input reads as it did. -/
def parseChainsUptoRow : OpenClaim := { program := "ytnpcombfgdbhkaadoor", sum := "7d3b5b3c37f810af03e823a3441b66c55b4f74f7c1c9b0db564594e725b4a3ad", func := "lurcher/lurcherlaw07.ParseChains", spec := "parseChains", named := ["lurcher/parse.groups", "lurcher/parse.elements"], apart := false, laid := [("lurcher/parse.elements", laid_lurcher_parse_elements), ("lurcher/parse.groups", laid_lurcher_parse_groups)], narrowed := true }
def ParseChainsUptoSaid : Prop := parseChainsUptoRow.holds Tryd.pinned (OpenSpec.upto parseChainsSpec)

end Rows
end Go.Proofs.YtnpcombfgdbhkaaDoor

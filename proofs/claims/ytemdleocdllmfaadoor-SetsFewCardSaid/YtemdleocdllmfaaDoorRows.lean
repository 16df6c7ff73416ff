/-
  NARROWER THAN 'FOR EVERY INPUT', by the rows' own cells (each row's printed sentence says how): SetsMakes: laid · SetsJoins: laid · SetsCases: laid · SetsLaws: laid · SetsFew: laid · SetsHas: laid · SetsParts: laid.
  DERIVED. THE GIVEN ROWS OF THIS SEAT. 7 by the template 'for every input the law returns true; each argument reads behind the call as it read before'; 0 by the template 'total and deterministic' (their statements: YtemdleocdllmfaaDoorTotals.lean).
  GIVEN WITH THE SEED: the statements are not yours to turn. If you find one false, say at which input.
  Laid BY PROGRAM, IN A SANDBOX (cutbox-rows.mjs): the forced cells as the released guide's own fill.sh prints them over the translation d8f75fb78c008f78… (all of the seat's roots in one cut). By AI agents, Wed Nov 11 2026. No macro, syntax, notation, axiom, sorry.
-/
import Derived.Test.YtemdleocdllmfaaDoorChecked
import GoSem.Claim
import GoSem.ClaimJoined
import GoSem.ClaimMapViews
import Derived.JoinedTies
import Derived.KernelRfl
namespace Go.Proofs.YtemdleocdllmfaaDoor
/- THE CELL 'sum', in the pinned program and in every row, IS THE sha256 OF THE DUMP (.gsa) THAT YtemdleocdllmfaaDoorProg.lean LOADS. Nothing in Lean hashes anything: it is a label: what it is worth is what the hold of that sum in a sandbox is worth. -/
noncomputable def Tryd.pinned : Pinned := { name := "ytemdleocdllmfaadoor", sum := "d8f75fb78c008f7849d8374da21382872d18998f0e2714d837f6efb701f390f9", checked := Tryd.checked }
namespace Rows
def none {H : Type} : Left H := { results := [], args := [] }

/- WHAT THE LISTED PACKAGE-LEVEL VARIABLES READ AS WHEN THE CALL BEGINS. Each datum BY PROGRAM (the guide's laid-datum.mjs) off the statement by which the dump's own 'gosem.cut.vars' lays the variable. In a bare row this is a premise. The card (YtemdleocdllmfaaDoorCards.lean) ties it to the program's text. -/
def laid_lurcher_ucd_threes {H : Type} : DataW H := .agg [.agg [.lit (.int .i64 75), .lit (.int .i64 107), .lit (.int .i64 8490)], .agg [.lit (.int .i64 83), .lit (.int .i64 115), .lit (.int .i64 383)], .agg [.lit (.int .i64 181), .lit (.int .i64 924), .lit (.int .i64 956)], .agg [.lit (.int .i64 931), .lit (.int .i64 962), .lit (.int .i64 963)]]

/-- 'lurcherlaw03.SetsMakes': WHATEVER THE INPUT: true; the input reads as it did. -/
def setsMakesSpec : ChangeSpec := { name := "setsMakes", fn := fun _ => fun
  | [d1, d2, d3] => { results := [.lit (.bool true)], args := [d1, d2, d3] }
  | _ => none }
def setsMakesRow : OpenClaim := { program := "ytemdleocdllmfaadoor", sum := "d8f75fb78c008f7849d8374da21382872d18998f0e2714d837f6efb701f390f9", func := "lurcher/lurcherlaw03.SetsMakes", spec := "setsMakes", unfollowed := true, recurses := true, named := ["lurcher/ucd.threes"], apart := false, laid := [("lurcher/ucd.threes", laid_lurcher_ucd_threes)] }
def SetsMakesSaid : Prop := setsMakesRow.holds Tryd.pinned (OpenSpec.ofChange setsMakesSpec)

/-- ITS FALSE NEIGHBOUR: 'it returns false'. Refute it at one input. -/
def setsMakesWrong : ChangeSpec := { name := "setsMakes", fn := fun _ => fun
  | [d1, d2, d3] => { results := [.lit (.bool false)], args := [d1, d2, d3] }
  | _ => none }
def SetsMakesWrongFalsely : Prop := setsMakesRow.holds Tryd.pinned (OpenSpec.ofChange setsMakesWrong)

/-- 'lurcherlaw03.SetsJoins': WHATEVER THE INPUT: true; the input reads as it did. -/
def setsJoinsSpec : ChangeSpec := { name := "setsJoins", fn := fun _ => fun
  | [d1, d2, d3] => { results := [.lit (.bool true)], args := [d1, d2, d3] }
  | _ => none }
def setsJoinsRow : OpenClaim := { program := "ytemdleocdllmfaadoor", sum := "d8f75fb78c008f7849d8374da21382872d18998f0e2714d837f6efb701f390f9", func := "lurcher/lurcherlaw03.SetsJoins", spec := "setsJoins", unfollowed := true, recurses := true, named := ["lurcher/ucd.threes"], apart := false, laid := [("lurcher/ucd.threes", laid_lurcher_ucd_threes)] }
def SetsJoinsSaid : Prop := setsJoinsRow.holds Tryd.pinned (OpenSpec.ofChange setsJoinsSpec)

/-- ITS FALSE NEIGHBOUR: 'it returns false'. Refute it at one input. -/
def setsJoinsWrong : ChangeSpec := { name := "setsJoins", fn := fun _ => fun
  | [d1, d2, d3] => { results := [.lit (.bool false)], args := [d1, d2, d3] }
  | _ => none }
def SetsJoinsWrongFalsely : Prop := setsJoinsRow.holds Tryd.pinned (OpenSpec.ofChange setsJoinsWrong)

/-- 'lurcherlaw03.SetsCases': WHATEVER THE INPUT: true; the input reads as it did. -/
def setsCasesSpec : ChangeSpec := { name := "setsCases", fn := fun _ => fun
  | [d1, d2] => { results := [.lit (.bool true)], args := [d1, d2] }
  | _ => none }
def setsCasesRow : OpenClaim := { program := "ytemdleocdllmfaadoor", sum := "d8f75fb78c008f7849d8374da21382872d18998f0e2714d837f6efb701f390f9", func := "lurcher/lurcherlaw03.SetsCases", spec := "setsCases", unfollowed := true, recurses := true, named := ["lurcher/ucd.threes"], apart := false, laid := [("lurcher/ucd.threes", laid_lurcher_ucd_threes)] }
def SetsCasesSaid : Prop := setsCasesRow.holds Tryd.pinned (OpenSpec.ofChange setsCasesSpec)

/-- ITS FALSE NEIGHBOUR: 'it returns false'. Refute it at one input. -/
def setsCasesWrong : ChangeSpec := { name := "setsCases", fn := fun _ => fun
  | [d1, d2] => { results := [.lit (.bool false)], args := [d1, d2] }
  | _ => none }
def SetsCasesWrongFalsely : Prop := setsCasesRow.holds Tryd.pinned (OpenSpec.ofChange setsCasesWrong)

/-- 'lurcherlaw03.SetsLaws': WHATEVER THE INPUT: true; the input reads as it did. -/
def setsLawsSpec : ChangeSpec := { name := "setsLaws", fn := fun _ => fun
  | [d1, d2, d3, d4] => { results := [.lit (.bool true)], args := [d1, d2, d3, d4] }
  | _ => none }
def setsLawsRow : OpenClaim := { program := "ytemdleocdllmfaadoor", sum := "d8f75fb78c008f7849d8374da21382872d18998f0e2714d837f6efb701f390f9", func := "lurcher/lurcherlaw03.SetsLaws", spec := "setsLaws", unfollowed := true, recurses := true, named := ["lurcher/ucd.threes"], apart := false, laid := [("lurcher/ucd.threes", laid_lurcher_ucd_threes)] }
def SetsLawsSaid : Prop := setsLawsRow.holds Tryd.pinned (OpenSpec.ofChange setsLawsSpec)

/-- ITS FALSE NEIGHBOUR: 'it returns false'. Refute it at one input. -/
def setsLawsWrong : ChangeSpec := { name := "setsLaws", fn := fun _ => fun
  | [d1, d2, d3, d4] => { results := [.lit (.bool false)], args := [d1, d2, d3, d4] }
  | _ => none }
def SetsLawsWrongFalsely : Prop := setsLawsRow.holds Tryd.pinned (OpenSpec.ofChange setsLawsWrong)

/-- 'lurcherlaw03.SetsFew': WHATEVER THE INPUT: true; the input reads as it did. -/
def setsFewSpec : ChangeSpec := { name := "setsFew", fn := fun _ => fun
  | [d1, d2] => { results := [.lit (.bool true)], args := [d1, d2] }
  | _ => none }
def setsFewRow : OpenClaim := { program := "ytemdleocdllmfaadoor", sum := "d8f75fb78c008f7849d8374da21382872d18998f0e2714d837f6efb701f390f9", func := "lurcher/lurcherlaw03.SetsFew", spec := "setsFew", unfollowed := true, recurses := true, named := ["lurcher/ucd.threes"], apart := false, laid := [("lurcher/ucd.threes", laid_lurcher_ucd_threes)] }
def SetsFewSaid : Prop := setsFewRow.holds Tryd.pinned (OpenSpec.ofChange setsFewSpec)

/-- ITS FALSE NEIGHBOUR: 'it returns false'. Refute it at one input. -/
def setsFewWrong : ChangeSpec := { name := "setsFew", fn := fun _ => fun
  | [d1, d2] => { results := [.lit (.bool false)], args := [d1, d2] }
  | _ => none }
def SetsFewWrongFalsely : Prop := setsFewRow.holds Tryd.pinned (OpenSpec.ofChange setsFewWrong)

/-- 'lurcherlaw03.SetsHas': WHATEVER THE INPUT: true; the input reads as it did. -/
def setsHasSpec : ChangeSpec := { name := "setsHas", fn := fun _ => fun
  | [d1, d2, d3] => { results := [.lit (.bool true)], args := [d1, d2, d3] }
  | _ => none }
def setsHasRow : OpenClaim := { program := "ytemdleocdllmfaadoor", sum := "d8f75fb78c008f7849d8374da21382872d18998f0e2714d837f6efb701f390f9", func := "lurcher/lurcherlaw03.SetsHas", spec := "setsHas", unfollowed := true, recurses := true, named := ["lurcher/ucd.threes"], apart := false, laid := [("lurcher/ucd.threes", laid_lurcher_ucd_threes)] }
def SetsHasSaid : Prop := setsHasRow.holds Tryd.pinned (OpenSpec.ofChange setsHasSpec)

/-- ITS FALSE NEIGHBOUR: 'it returns false'. Refute it at one input. -/
def setsHasWrong : ChangeSpec := { name := "setsHas", fn := fun _ => fun
  | [d1, d2, d3] => { results := [.lit (.bool false)], args := [d1, d2, d3] }
  | _ => none }
def SetsHasWrongFalsely : Prop := setsHasRow.holds Tryd.pinned (OpenSpec.ofChange setsHasWrong)

/-- 'lurcherlaw03.SetsParts': WHATEVER THE INPUT: true; the input reads as it did. -/
def setsPartsSpec : ChangeSpec := { name := "setsParts", fn := fun _ => fun
  | [d1, d2] => { results := [.lit (.bool true)], args := [d1, d2] }
  | _ => none }
def setsPartsRow : OpenClaim := { program := "ytemdleocdllmfaadoor", sum := "d8f75fb78c008f7849d8374da21382872d18998f0e2714d837f6efb701f390f9", func := "lurcher/lurcherlaw03.SetsParts", spec := "setsParts", unfollowed := true, recurses := true, named := ["lurcher/ucd.threes"], apart := false, laid := [("lurcher/ucd.threes", laid_lurcher_ucd_threes)] }
def SetsPartsSaid : Prop := setsPartsRow.holds Tryd.pinned (OpenSpec.ofChange setsPartsSpec)

/-- ITS FALSE NEIGHBOUR: 'it returns false'. Refute it at one input. -/
def setsPartsWrong : ChangeSpec := { name := "setsParts", fn := fun _ => fun
  | [d1, d2] => { results := [.lit (.bool false)], args := [d1, d2] }
  | _ => none }
def SetsPartsWrongFalsely : Prop := setsPartsRow.holds Tryd.pinned (OpenSpec.ofChange setsPartsWrong)

/- THE SECOND FORM. 'bulk': how many values and letters a reading holds, each counted each time it is reached (what is shared counts as often as it is met; a slice's spare places count too). A statement '..UptoSaid' is the law's where the arguments, and the package variables that the reading takes, are together of bulk at most 1048576: NARROWER than '..Said'. Prove '..Said' where nothing that the law and all that it calls make is longer than what came in: it says more and counts as full. Else prove '..UptoSaid'. A law counts once. -/
mutual
def uptoBulk {H : Type} : DataW H → Nat
  | .lit (.string bytes) => bytes.length + 1
  | .lit _ => 1
  | .nil => 1
  | .ptr d => uptoBulk d + 1
  | .slice elems spare => uptoBulkAll elems + uptoBulkAll spare + 1
  | .agg parts => uptoBulkAll parts + 1
  | .iface _ d => uptoBulk d + 1
  | .map entries => uptoBulkEntries entries + 1
  | .held _ => 1
def uptoBulkAll {H : Type} : List (DataW H) → Nat
  | [] => 0
  | d :: r => uptoBulk d + uptoBulkAll r
def uptoBulkEntries {H : Type} : List (Lit × DataW H) → Nat
  | [] => 0
  | x :: r => uptoBulkEntry x + uptoBulkEntries r
def uptoBulkEntry {H : Type} : Lit × DataW H → Nat
  | (.string bytes, d) => bytes.length + uptoBulk d + 1
  | (_, d) => uptoBulk d + 1
 end
def uptoSmall : (H : Type) → List (DataW H) → Bool := fun _ ds => decide (uptoBulkAll ds ≤ 1048576)
def OpenSpec.upto (s : _root_.Go.ChangeSpec) : _root_.Go.OpenSpec := { _root_.Go.OpenSpec.ofChange s with cond := some uptoSmall }

/-- 'lurcherlaw03.SetsMakes', WHERE WHAT IT READS IS OF BULK AT MOST 1048576: true; the input reads as it did. -/
def setsMakesUptoRow : OpenClaim := { program := "ytemdleocdllmfaadoor", sum := "d8f75fb78c008f7849d8374da21382872d18998f0e2714d837f6efb701f390f9", func := "lurcher/lurcherlaw03.SetsMakes", spec := "setsMakes", unfollowed := true, recurses := true, named := ["lurcher/ucd.threes"], apart := false, laid := [("lurcher/ucd.threes", laid_lurcher_ucd_threes)], narrowed := true }
def SetsMakesUptoSaid : Prop := setsMakesUptoRow.holds Tryd.pinned (OpenSpec.upto setsMakesSpec)

/-- 'lurcherlaw03.SetsJoins', WHERE WHAT IT READS IS OF BULK AT MOST 1048576: true; the input reads as it did. -/
def setsJoinsUptoRow : OpenClaim := { program := "ytemdleocdllmfaadoor", sum := "d8f75fb78c008f7849d8374da21382872d18998f0e2714d837f6efb701f390f9", func := "lurcher/lurcherlaw03.SetsJoins", spec := "setsJoins", unfollowed := true, recurses := true, named := ["lurcher/ucd.threes"], apart := false, laid := [("lurcher/ucd.threes", laid_lurcher_ucd_threes)], narrowed := true }
def SetsJoinsUptoSaid : Prop := setsJoinsUptoRow.holds Tryd.pinned (OpenSpec.upto setsJoinsSpec)

/-- 'lurcherlaw03.SetsCases', WHERE WHAT IT READS IS OF BULK AT MOST 1048576: true; the input reads as it did. -/
def setsCasesUptoRow : OpenClaim := { program := "ytemdleocdllmfaadoor", sum := "d8f75fb78c008f7849d8374da21382872d18998f0e2714d837f6efb701f390f9", func := "lurcher/lurcherlaw03.SetsCases", spec := "setsCases", unfollowed := true, recurses := true, named := ["lurcher/ucd.threes"], apart := false, laid := [("lurcher/ucd.threes", laid_lurcher_ucd_threes)], narrowed := true }
def SetsCasesUptoSaid : Prop := setsCasesUptoRow.holds Tryd.pinned (OpenSpec.upto setsCasesSpec)

/-- 'lurcherlaw03.SetsLaws', WHERE WHAT IT READS IS OF BULK AT MOST 1048576: true; the input reads as it did. -/
def setsLawsUptoRow : OpenClaim := { program := "ytemdleocdllmfaadoor", sum := "d8f75fb78c008f7849d8374da21382872d18998f0e2714d837f6efb701f390f9", func := "lurcher/lurcherlaw03.SetsLaws", spec := "setsLaws", unfollowed := true, recurses := true, named := ["lurcher/ucd.threes"], apart := false, laid := [("lurcher/ucd.threes", laid_lurcher_ucd_threes)], narrowed := true }
def SetsLawsUptoSaid : Prop := setsLawsUptoRow.holds Tryd.pinned (OpenSpec.upto setsLawsSpec)

/-- 'lurcherlaw03.SetsFew', WHERE WHAT IT READS IS OF BULK AT MOST 1048576: true; the input reads as it did. -/
def setsFewUptoRow : OpenClaim := { program := "ytemdleocdllmfaadoor", sum := "d8f75fb78c008f7849d8374da21382872d18998f0e2714d837f6efb701f390f9", func := "lurcher/lurcherlaw03.SetsFew", spec := "setsFew", unfollowed := true, recurses := true, named := ["lurcher/ucd.threes"], apart := false, laid := [("lurcher/ucd.threes", laid_lurcher_ucd_threes)], narrowed := true }
def SetsFewUptoSaid : Prop := setsFewUptoRow.holds Tryd.pinned (OpenSpec.upto setsFewSpec)

/-- 'lurcherlaw03.SetsHas', WHERE WHAT IT READS IS OF BULK AT MOST 1048576: true; the input reads as it did. -/
def setsHasUptoRow : OpenClaim := { program := "ytemdleocdllmfaadoor", sum := "d8f75fb78c008f7849d8374da21382872d18998f0e2714d837f6efb701f390f9", func := "lurcher/lurcherlaw03.SetsHas", spec := "setsHas", unfollowed := true, recurses := true, named := ["lurcher/ucd.threes"], apart := false, laid := [("lurcher/ucd.threes", laid_lurcher_ucd_threes)], narrowed := true }
def SetsHasUptoSaid : Prop := setsHasUptoRow.holds Tryd.pinned (OpenSpec.upto setsHasSpec)

/-- 'lurcherlaw03.SetsParts', WHERE WHAT IT READS IS OF BULK AT MOST 1048576: true; the input reads as it did. -/
def setsPartsUptoRow : OpenClaim := { program := "ytemdleocdllmfaadoor", sum := "d8f75fb78c008f7849d8374da21382872d18998f0e2714d837f6efb701f390f9", func := "lurcher/lurcherlaw03.SetsParts", spec := "setsParts", unfollowed := true, recurses := true, named := ["lurcher/ucd.threes"], apart := false, laid := [("lurcher/ucd.threes", laid_lurcher_ucd_threes)], narrowed := true }
def SetsPartsUptoSaid : Prop := setsPartsUptoRow.holds Tryd.pinned (OpenSpec.upto setsPartsSpec)

end Rows
end Go.Proofs.YtemdleocdllmfaaDoor

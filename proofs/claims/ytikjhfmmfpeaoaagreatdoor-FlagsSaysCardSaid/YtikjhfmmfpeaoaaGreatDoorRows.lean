/-
  NARROWER THAN 'FOR EVERY INPUT', by the rows' own cells (each row's printed sentence says how): FlagsSays: laid · FlagsClean: laid · FlagsGroup: laid · FlagsOwn: laid · FlagsCases: laid.
  DERIVED. THE GIVEN ROWS OF THIS SEAT. 5 by the template 'for every input the law returns true; each argument reads behind the call as it read before'; 0 by the template 'total and deterministic' (their statements: YtikjhfmmfpeaoaaGreatDoorTotals.lean).
  GIVEN WITH THE SEED: the statements are not yours to turn. If you find one false, say at which input.
  Laid BY PROGRAM, IN A SANDBOX (cutbox-rows.mjs): the forced cells as the released guide's own fill.sh prints them over the translation cbff7f0179f561b5… (all of the seat's roots in one cut). By AI agents, Wed Nov 11 2026. No macro, syntax, notation, axiom, sorry.
-/
import Derived.Test.YtikjhfmmfpeaoaaGreatDoorChecked
import GoSem.Claim
import GoSem.ClaimJoined
import GoSem.ClaimMapViews
import Derived.JoinedTies
import Derived.KernelRfl
namespace Go.Proofs.YtikjhfmmfpeaoaaGreatDoor
/- THE CELL 'sum', in the pinned program and in every row, IS THE sha256 OF THE DUMP (.gsa) THAT YtikjhfmmfpeaoaaGreatDoorProg.lean LOADS. Nothing in Lean hashes anything: it is a label: what it is worth is what the hold of that sum in a sandbox is worth. -/
noncomputable def Tryz.pinned : Pinned := { name := "ytikjhfmmfpeaoaagreatdoor", sum := "cbff7f0179f561b51adc84c2c9bcfbee4556b97b7dae9c627f53311bd1f36395", checked := Tryz.checked }
namespace Rows
def none {H : Type} : Left H := { results := [], args := [] }

/- WHAT THE LISTED PACKAGE-LEVEL VARIABLES READ AS WHEN THE CALL BEGINS. Each datum BY PROGRAM (the guide's laid-datum.mjs) off the statement by which the dump's own 'gosem.cut.vars' lays the variable. In a bare row this is a premise. The card (YtikjhfmmfpeaoaaGreatDoorCards.lean) ties it to the program's text. -/
def laid_lurcher_ucd_threes {H : Type} : DataW H := .agg [.agg [.lit (.int .i64 75), .lit (.int .i64 107), .lit (.int .i64 8490)], .agg [.lit (.int .i64 83), .lit (.int .i64 115), .lit (.int .i64 383)], .agg [.lit (.int .i64 181), .lit (.int .i64 924), .lit (.int .i64 956)], .agg [.lit (.int .i64 931), .lit (.int .i64 962), .lit (.int .i64 963)]]

/-- 'lurcherlaw08.FlagsSays': WHATEVER THE INPUT: true; the input reads as it did. -/
def flagsSaysSpec : ChangeSpec := { name := "flagsSays", fn := fun _ => fun
  | [d1, d2] => { results := [.lit (.bool true)], args := [d1, d2] }
  | _ => none }
def flagsSaysRow : OpenClaim := { program := "ytikjhfmmfpeaoaagreatdoor", sum := "cbff7f0179f561b51adc84c2c9bcfbee4556b97b7dae9c627f53311bd1f36395", func := "lurcher/lurcherlaw08.FlagsSays", spec := "flagsSays", unfollowed := true, recurses := true, named := ["lurcher/ucd.threes"], apart := false, laid := [("lurcher/ucd.threes", laid_lurcher_ucd_threes)] }
def FlagsSaysSaid : Prop := flagsSaysRow.holds Tryz.pinned (OpenSpec.ofChange flagsSaysSpec)

/-- ITS FALSE NEIGHBOUR: 'it returns false'. Refute it at one input. -/
def flagsSaysWrong : ChangeSpec := { name := "flagsSays", fn := fun _ => fun
  | [d1, d2] => { results := [.lit (.bool false)], args := [d1, d2] }
  | _ => none }
def FlagsSaysWrongFalsely : Prop := flagsSaysRow.holds Tryz.pinned (OpenSpec.ofChange flagsSaysWrong)

/-- 'lurcherlaw08.FlagsClean': WHATEVER THE INPUT: true; the input reads as it did. -/
def flagsCleanSpec : ChangeSpec := { name := "flagsClean", fn := fun _ => fun
  | [d1, d2] => { results := [.lit (.bool true)], args := [d1, d2] }
  | _ => none }
def flagsCleanRow : OpenClaim := { program := "ytikjhfmmfpeaoaagreatdoor", sum := "cbff7f0179f561b51adc84c2c9bcfbee4556b97b7dae9c627f53311bd1f36395", func := "lurcher/lurcherlaw08.FlagsClean", spec := "flagsClean", unfollowed := true, recurses := true, named := ["lurcher/ucd.threes"], apart := false, laid := [("lurcher/ucd.threes", laid_lurcher_ucd_threes)] }
def FlagsCleanSaid : Prop := flagsCleanRow.holds Tryz.pinned (OpenSpec.ofChange flagsCleanSpec)

/-- ITS FALSE NEIGHBOUR: 'it returns false'. Refute it at one input. -/
def flagsCleanWrong : ChangeSpec := { name := "flagsClean", fn := fun _ => fun
  | [d1, d2] => { results := [.lit (.bool false)], args := [d1, d2] }
  | _ => none }
def FlagsCleanWrongFalsely : Prop := flagsCleanRow.holds Tryz.pinned (OpenSpec.ofChange flagsCleanWrong)

/-- 'lurcherlaw08.FlagsGroup': WHATEVER THE INPUT: true; the input reads as it did. -/
def flagsGroupSpec : ChangeSpec := { name := "flagsGroup", fn := fun _ => fun
  | [d1, d2, d3] => { results := [.lit (.bool true)], args := [d1, d2, d3] }
  | _ => none }
def flagsGroupRow : OpenClaim := { program := "ytikjhfmmfpeaoaagreatdoor", sum := "cbff7f0179f561b51adc84c2c9bcfbee4556b97b7dae9c627f53311bd1f36395", func := "lurcher/lurcherlaw08.FlagsGroup", spec := "flagsGroup", unfollowed := true, recurses := true, named := ["lurcher/ucd.threes"], apart := false, laid := [("lurcher/ucd.threes", laid_lurcher_ucd_threes)] }
def FlagsGroupSaid : Prop := flagsGroupRow.holds Tryz.pinned (OpenSpec.ofChange flagsGroupSpec)

/-- ITS FALSE NEIGHBOUR: 'it returns false'. Refute it at one input. -/
def flagsGroupWrong : ChangeSpec := { name := "flagsGroup", fn := fun _ => fun
  | [d1, d2, d3] => { results := [.lit (.bool false)], args := [d1, d2, d3] }
  | _ => none }
def FlagsGroupWrongFalsely : Prop := flagsGroupRow.holds Tryz.pinned (OpenSpec.ofChange flagsGroupWrong)

/-- 'lurcherlaw08.FlagsOwn': WHATEVER THE INPUT: true; the input reads as it did. -/
def flagsOwnSpec : ChangeSpec := { name := "flagsOwn", fn := fun _ => fun
  | [d1, d2] => { results := [.lit (.bool true)], args := [d1, d2] }
  | _ => none }
def flagsOwnRow : OpenClaim := { program := "ytikjhfmmfpeaoaagreatdoor", sum := "cbff7f0179f561b51adc84c2c9bcfbee4556b97b7dae9c627f53311bd1f36395", func := "lurcher/lurcherlaw08.FlagsOwn", spec := "flagsOwn", unfollowed := true, recurses := true, named := ["lurcher/ucd.threes"], apart := false, laid := [("lurcher/ucd.threes", laid_lurcher_ucd_threes)] }
def FlagsOwnSaid : Prop := flagsOwnRow.holds Tryz.pinned (OpenSpec.ofChange flagsOwnSpec)

/-- ITS FALSE NEIGHBOUR: 'it returns false'. Refute it at one input. -/
def flagsOwnWrong : ChangeSpec := { name := "flagsOwn", fn := fun _ => fun
  | [d1, d2] => { results := [.lit (.bool false)], args := [d1, d2] }
  | _ => none }
def FlagsOwnWrongFalsely : Prop := flagsOwnRow.holds Tryz.pinned (OpenSpec.ofChange flagsOwnWrong)

/-- 'lurcherlaw08.FlagsCases': WHATEVER THE INPUT: true; the input reads as it did. -/
def flagsCasesSpec : ChangeSpec := { name := "flagsCases", fn := fun _ => fun
  | [d] => { results := [.lit (.bool true)], args := [d] }
  | _ => none }
def flagsCasesRow : OpenClaim := { program := "ytikjhfmmfpeaoaagreatdoor", sum := "cbff7f0179f561b51adc84c2c9bcfbee4556b97b7dae9c627f53311bd1f36395", func := "lurcher/lurcherlaw08.FlagsCases", spec := "flagsCases", unfollowed := true, recurses := true, named := ["lurcher/ucd.threes"], apart := false, laid := [("lurcher/ucd.threes", laid_lurcher_ucd_threes)] }
def FlagsCasesSaid : Prop := flagsCasesRow.holds Tryz.pinned (OpenSpec.ofChange flagsCasesSpec)

/-- ITS FALSE NEIGHBOUR: 'it returns false'. Refute it at one input. -/
def flagsCasesWrong : ChangeSpec := { name := "flagsCases", fn := fun _ => fun
  | [d] => { results := [.lit (.bool false)], args := [d] }
  | _ => none }
def FlagsCasesWrongFalsely : Prop := flagsCasesRow.holds Tryz.pinned (OpenSpec.ofChange flagsCasesWrong)

/- THE SECOND FORM. 'bulk': how many values and letters a reading holds, each counted each time it is reached (what is shared counts as often as it is met; a slice's spare places count too). A statement '..UptoSaid' is the law's where the arguments, and the package variables that the reading takes, are together of bulk at most 1048576: NARROWER than '..Said'. Prove '..Said' where nothing that the law and all that it calls make is longer than what came in: it says more and counts as full. Else prove '..UptoSaid'. A law counts once. -/
mutual
def uptoBulk {H : Type} : DataW H → Nat
  | .lit (.string bytes) => bytes.length + 1
  | .lit _ => 1
  | .nil => 1
  | .ptr d => uptoBulk d + 1
  | .slice elems spare => uptoBulkAll elems + uptoBulkAll spare + 1
  | .agg parts => uptoBulkAll parts + 1
  | .iface _ d => uptoBulk d + 1
  | .map entries => uptoBulkEntries entries + 1
  | .held _ => 1
def uptoBulkAll {H : Type} : List (DataW H) → Nat
  | [] => 0
  | d :: r => uptoBulk d + uptoBulkAll r
def uptoBulkEntries {H : Type} : List (Lit × DataW H) → Nat
  | [] => 0
  | x :: r => uptoBulkEntry x + uptoBulkEntries r
def uptoBulkEntry {H : Type} : Lit × DataW H → Nat
  | (.string bytes, d) => bytes.length + uptoBulk d + 1
  | (_, d) => uptoBulk d + 1
 end
def uptoSmall : (H : Type) → List (DataW H) → Bool := fun _ ds => decide (uptoBulkAll ds ≤ 1048576)
def OpenSpec.upto (s : _root_.Go.ChangeSpec) : _root_.Go.OpenSpec := { _root_.Go.OpenSpec.ofChange s with cond := some uptoSmall }

/-- 'lurcherlaw08.FlagsSays', WHERE WHAT IT READS IS OF BULK AT MOST 1048576: true; the input reads as it did. -/
def flagsSaysUptoRow : OpenClaim := { program := "ytikjhfmmfpeaoaagreatdoor", sum := "cbff7f0179f561b51adc84c2c9bcfbee4556b97b7dae9c627f53311bd1f36395", func := "lurcher/lurcherlaw08.FlagsSays", spec := "flagsSays", unfollowed := true, recurses := true, named := ["lurcher/ucd.threes"], apart := false, laid := [("lurcher/ucd.threes", laid_lurcher_ucd_threes)], narrowed := true }
def FlagsSaysUptoSaid : Prop := flagsSaysUptoRow.holds Tryz.pinned (OpenSpec.upto flagsSaysSpec)

/-- 'lurcherlaw08.FlagsClean', WHERE WHAT IT READS IS OF BULK AT MOST 1048576: true; the input reads as it did. -/
def flagsCleanUptoRow : OpenClaim := { program := "ytikjhfmmfpeaoaagreatdoor", sum := "cbff7f0179f561b51adc84c2c9bcfbee4556b97b7dae9c627f53311bd1f36395", func := "lurcher/lurcherlaw08.FlagsClean", spec := "flagsClean", unfollowed := true, recurses := true, named := ["lurcher/ucd.threes"], apart := false, laid := [("lurcher/ucd.threes", laid_lurcher_ucd_threes)], narrowed := true }
def FlagsCleanUptoSaid : Prop := flagsCleanUptoRow.holds Tryz.pinned (OpenSpec.upto flagsCleanSpec)

/-- 'lurcherlaw08.FlagsGroup', WHERE WHAT IT READS IS OF BULK AT MOST 1048576: true; the input reads as it did. -/
def flagsGroupUptoRow : OpenClaim := { program := "ytikjhfmmfpeaoaagreatdoor", sum := "cbff7f0179f561b51adc84c2c9bcfbee4556b97b7dae9c627f53311bd1f36395", func := "lurcher/lurcherlaw08.FlagsGroup", spec := "flagsGroup", unfollowed := true, recurses := true, named := ["lurcher/ucd.threes"], apart := false, laid := [("lurcher/ucd.threes", laid_lurcher_ucd_threes)], narrowed := true }
def FlagsGroupUptoSaid : Prop := flagsGroupUptoRow.holds Tryz.pinned (OpenSpec.upto flagsGroupSpec)

/-- 'lurcherlaw08.FlagsOwn', WHERE WHAT IT READS IS OF BULK AT MOST 1048576: true; the input reads as it did. -/
def flagsOwnUptoRow : OpenClaim := { program := "ytikjhfmmfpeaoaagreatdoor", sum := "cbff7f0179f561b51adc84c2c9bcfbee4556b97b7dae9c627f53311bd1f36395", func := "lurcher/lurcherlaw08.FlagsOwn", spec := "flagsOwn", unfollowed := true, recurses := true, named := ["lurcher/ucd.threes"], apart := false, laid := [("lurcher/ucd.threes", laid_lurcher_ucd_threes)], narrowed := true }
def FlagsOwnUptoSaid : Prop := flagsOwnUptoRow.holds Tryz.pinned (OpenSpec.upto flagsOwnSpec)

/-- 'lurcherlaw08.FlagsCases', WHERE WHAT IT READS IS OF BULK AT MOST 1048576: true; the input reads as it did. -/
def flagsCasesUptoRow : OpenClaim := { program := "ytikjhfmmfpeaoaagreatdoor", sum := "cbff7f0179f561b51adc84c2c9bcfbee4556b97b7dae9c627f53311bd1f36395", func := "lurcher/lurcherlaw08.FlagsCases", spec := "flagsCases", unfollowed := true, recurses := true, named := ["lurcher/ucd.threes"], apart := false, laid := [("lurcher/ucd.threes", laid_lurcher_ucd_threes)], narrowed := true }
def FlagsCasesUptoSaid : Prop := flagsCasesUptoRow.holds Tryz.pinned (OpenSpec.upto flagsCasesSpec)

end Rows
end Go.Proofs.YtikjhfmmfpeaoaaGreatDoor

/-
  No cell of these rows narrows 'for every input' (looked for: loops, veiled, ifaces, maps, wideKeys, modest, calm, conditions, laid).
  DERIVED. THE GIVEN ROWS OF THIS SEAT. 5 by the template 'for every input the law returns true; each argument reads behind the call as it read before'; 0 by the template 'total and deterministic' (their statements: YtnpcombfgdbhkaaTotals.lean).
  GIVEN WITH THE SEED: the statements are not yours to turn. If you find one false, say at which input.
  Laid BY PROGRAM, IN A SANDBOX (cutbox-rows.mjs): the forced cells as the released guide's own fill.sh prints them over the translation 0e2ef6d531279e9e… (all of the seat's roots in one cut). By AI agents, Wed Nov 11 2026. No macro, syntax, notation, axiom, sorry.
-/
import Derived.Test.YtnpcombfgdbhkaaChecked
import GoSem.Claim
import GoSem.ClaimJoined
import GoSem.ClaimMapViews
import Derived.JoinedTies
import Derived.KernelRfl
namespace Go.Proofs.Ytnpcombfgdbhkaa
/- THE CELL 'sum', in the pinned program and in every row, IS THE sha256 OF THE DUMP (.gsa) THAT YtnpcombfgdbhkaaProg.lean LOADS. Nothing in Lean hashes anything: it is a label: what it is worth is what the hold of that sum in a sandbox is worth. -/
noncomputable def Try.pinned : Pinned := { name := "ytnpcombfgdbhkaa", sum := "0e2ef6d531279e9ebccfb04576fa949b42fbad414b7ecf7a44264498676e6f79", checked := Try.checked }
namespace Rows
def none {H : Type} : Left H := { results := [], args := [] }

/-- 'lurcherlaw09.GroupsSays': WHATEVER THE INPUT: true; the input reads as it did. -/
def groupsSaysSpec : ChangeSpec := { name := "groupsSays", fn := fun _ => fun
  | [d1, d2] => { results := [.lit (.bool true)], args := [d1, d2] }
  | _ => none }
def groupsSaysRow : OpenClaim := { program := "ytnpcombfgdbhkaa", sum := "0e2ef6d531279e9ebccfb04576fa949b42fbad414b7ecf7a44264498676e6f79", func := "lurcher/lurcherlaw09.GroupsSays", spec := "groupsSays", recurses := true, apart := false }
def GroupsSaysSaid : Prop := groupsSaysRow.holds Try.pinned (OpenSpec.ofChange groupsSaysSpec)

/-- ITS FALSE NEIGHBOUR: 'it returns false'. Refute it at one input. -/
def groupsSaysWrong : ChangeSpec := { name := "groupsSays", fn := fun _ => fun
  | [d1, d2] => { results := [.lit (.bool false)], args := [d1, d2] }
  | _ => none }
def GroupsSaysWrongFalsely : Prop := groupsSaysRow.holds Try.pinned (OpenSpec.ofChange groupsSaysWrong)

/-- 'lurcherlaw09.GroupsRise': WHATEVER THE INPUT: true; the input reads as it did. -/
def groupsRiseSpec : ChangeSpec := { name := "groupsRise", fn := fun _ => fun
  | [d1, d2] => { results := [.lit (.bool true)], args := [d1, d2] }
  | _ => none }
def groupsRiseRow : OpenClaim := { program := "ytnpcombfgdbhkaa", sum := "0e2ef6d531279e9ebccfb04576fa949b42fbad414b7ecf7a44264498676e6f79", func := "lurcher/lurcherlaw09.GroupsRise", spec := "groupsRise", recurses := true, apart := false }
def GroupsRiseSaid : Prop := groupsRiseRow.holds Try.pinned (OpenSpec.ofChange groupsRiseSpec)

/-- ITS FALSE NEIGHBOUR: 'it returns false'. Refute it at one input. -/
def groupsRiseWrong : ChangeSpec := { name := "groupsRise", fn := fun _ => fun
  | [d1, d2] => { results := [.lit (.bool false)], args := [d1, d2] }
  | _ => none }
def GroupsRiseWrongFalsely : Prop := groupsRiseRow.holds Try.pinned (OpenSpec.ofChange groupsRiseWrong)

/-- 'lurcherlaw09.GroupsFull': WHATEVER THE INPUT: true; the input reads as it did. -/
def groupsFullSpec : ChangeSpec := { name := "groupsFull", fn := fun _ => fun
  | [d] => { results := [.lit (.bool true)], args := [d] }
  | _ => none }
def groupsFullRow : OpenClaim := { program := "ytnpcombfgdbhkaa", sum := "0e2ef6d531279e9ebccfb04576fa949b42fbad414b7ecf7a44264498676e6f79", func := "lurcher/lurcherlaw09.GroupsFull", spec := "groupsFull", recurses := true, apart := false }
def GroupsFullSaid : Prop := groupsFullRow.holds Try.pinned (OpenSpec.ofChange groupsFullSpec)

/-- ITS FALSE NEIGHBOUR: 'it returns false'. Refute it at one input. -/
def groupsFullWrong : ChangeSpec := { name := "groupsFull", fn := fun _ => fun
  | [d] => { results := [.lit (.bool false)], args := [d] }
  | _ => none }
def GroupsFullWrongFalsely : Prop := groupsFullRow.holds Try.pinned (OpenSpec.ofChange groupsFullWrong)

/-- 'lurcherlaw09.GroupsNames': WHATEVER THE INPUT: true; the input reads as it did. -/
def groupsNamesSpec : ChangeSpec := { name := "groupsNames", fn := fun _ => fun
  | [d1, d2] => { results := [.lit (.bool true)], args := [d1, d2] }
  | _ => none }
def groupsNamesRow : OpenClaim := { program := "ytnpcombfgdbhkaa", sum := "0e2ef6d531279e9ebccfb04576fa949b42fbad414b7ecf7a44264498676e6f79", func := "lurcher/lurcherlaw09.GroupsNames", spec := "groupsNames", recurses := true, apart := false }
def GroupsNamesSaid : Prop := groupsNamesRow.holds Try.pinned (OpenSpec.ofChange groupsNamesSpec)

/-- ITS FALSE NEIGHBOUR: 'it returns false'. Refute it at one input. -/
def groupsNamesWrong : ChangeSpec := { name := "groupsNames", fn := fun _ => fun
  | [d1, d2] => { results := [.lit (.bool false)], args := [d1, d2] }
  | _ => none }
def GroupsNamesWrongFalsely : Prop := groupsNamesRow.holds Try.pinned (OpenSpec.ofChange groupsNamesWrong)

/-- 'lurcherlaw09.GroupsShift': WHATEVER THE INPUT: true; the input reads as it did. -/
def groupsShiftSpec : ChangeSpec := { name := "groupsShift", fn := fun _ => fun
  | [d1, d2, d3] => { results := [.lit (.bool true)], args := [d1, d2, d3] }
  | _ => none }
def groupsShiftRow : OpenClaim := { program := "ytnpcombfgdbhkaa", sum := "0e2ef6d531279e9ebccfb04576fa949b42fbad414b7ecf7a44264498676e6f79", func := "lurcher/lurcherlaw09.GroupsShift", spec := "groupsShift", recurses := true, apart := false }
def GroupsShiftSaid : Prop := groupsShiftRow.holds Try.pinned (OpenSpec.ofChange groupsShiftSpec)

/-- ITS FALSE NEIGHBOUR: 'it returns false'. Refute it at one input. -/
def groupsShiftWrong : ChangeSpec := { name := "groupsShift", fn := fun _ => fun
  | [d1, d2, d3] => { results := [.lit (.bool false)], args := [d1, d2, d3] }
  | _ => none }
def GroupsShiftWrongFalsely : Prop := groupsShiftRow.holds Try.pinned (OpenSpec.ofChange groupsShiftWrong)

/- THE SECOND FORM. 'bulk': how many values and letters a reading holds, each counted each time it is reached (what is shared counts as often as it is met; a slice's spare places count too). A statement '..UptoSaid' is the law's where the arguments, and the package variables that the reading takes, are together of bulk at most 1048576: NARROWER than '..Said'. Prove '..Said' where nothing that the law and all that it calls make is longer than what came in: it says more and counts as full. Else prove '..UptoSaid'. A law counts once. -/
mutual
def uptoBulk {H : Type} : DataW H → Nat
  | .lit (.string bytes) => bytes.length + 1
  | .lit _ => 1
  | .nil => 1
  | .ptr d => uptoBulk d + 1
  | .slice elems spare => uptoBulkAll elems + uptoBulkAll spare + 1
  | .agg parts => uptoBulkAll parts + 1
  | .iface _ d => uptoBulk d + 1
  | .map entries => uptoBulkEntries entries + 1
  | .held _ => 1
def uptoBulkAll {H : Type} : List (DataW H) → Nat
  | [] => 0
  | d :: r => uptoBulk d + uptoBulkAll r
def uptoBulkEntries {H : Type} : List (Lit × DataW H) → Nat
  | [] => 0
  | x :: r => uptoBulkEntry x + uptoBulkEntries r
def uptoBulkEntry {H : Type} : Lit × DataW H → Nat
  | (.string bytes, d) => bytes.length + uptoBulk d + 1
  | (_, d) => uptoBulk d + 1
 end
def uptoSmall : (H : Type) → List (DataW H) → Bool := fun _ ds => decide (uptoBulkAll ds ≤ 1048576)
def OpenSpec.upto (s : _root_.Go.ChangeSpec) : _root_.Go.OpenSpec := { _root_.Go.OpenSpec.ofChange s with cond := some uptoSmall }

/-- 'lurcherlaw09.GroupsSays', WHERE WHAT IT READS IS OF BULK AT MOST 1048576: true; the input reads as it did. -/
def groupsSaysUptoRow : OpenClaim := { program := "ytnpcombfgdbhkaa", sum := "0e2ef6d531279e9ebccfb04576fa949b42fbad414b7ecf7a44264498676e6f79", func := "lurcher/lurcherlaw09.GroupsSays", spec := "groupsSays", recurses := true, apart := false, narrowed := true }
def GroupsSaysUptoSaid : Prop := groupsSaysUptoRow.holds Try.pinned (OpenSpec.upto groupsSaysSpec)

/-- 'lurcherlaw09.GroupsRise', WHERE WHAT IT READS IS OF BULK AT MOST 1048576: true; the input reads as it did. -/
def groupsRiseUptoRow : OpenClaim := { program := "ytnpcombfgdbhkaa", sum := "0e2ef6d531279e9ebccfb04576fa949b42fbad414b7ecf7a44264498676e6f79", func := "lurcher/lurcherlaw09.GroupsRise", spec := "groupsRise", recurses := true, apart := false, narrowed := true }
def GroupsRiseUptoSaid : Prop := groupsRiseUptoRow.holds Try.pinned (OpenSpec.upto groupsRiseSpec)

/-- 'lurcherlaw09.GroupsFull', WHERE WHAT IT READS IS OF BULK AT MOST 1048576: true; the input reads as it did. -/
def groupsFullUptoRow : OpenClaim := { program := "ytnpcombfgdbhkaa", sum := "0e2ef6d531279e9ebccfb04576fa949b42fbad414b7ecf7a44264498676e6f79", func := "lurcher/lurcherlaw09.GroupsFull", spec := "groupsFull", recurses := true, apart := false, narrowed := true }
def GroupsFullUptoSaid : Prop := groupsFullUptoRow.holds Try.pinned (OpenSpec.upto groupsFullSpec)

/-- 'lurcherlaw09.GroupsNames', WHERE WHAT IT READS IS OF BULK AT MOST 1048576: true; the input reads as it did. -/
def groupsNamesUptoRow : OpenClaim := { program := "ytnpcombfgdbhkaa", sum := "0e2ef6d531279e9ebccfb04576fa949b42fbad414b7ecf7a44264498676e6f79", func := "lurcher/lurcherlaw09.GroupsNames", spec := "groupsNames", recurses := true, apart := false, narrowed := true }
def GroupsNamesUptoSaid : Prop := groupsNamesUptoRow.holds Try.pinned (OpenSpec.upto groupsNamesSpec)

/-- 'lurcherlaw09.GroupsShift', WHERE WHAT IT READS IS OF BULK AT MOST 1048576: true; the input reads as it did. -/
def groupsShiftUptoRow : OpenClaim := { program := "ytnpcombfgdbhkaa", sum := "0e2ef6d531279e9ebccfb04576fa949b42fbad414b7ecf7a44264498676e6f79", func := "lurcher/lurcherlaw09.GroupsShift", spec := "groupsShift", recurses := true, apart := false, narrowed := true }
def GroupsShiftUptoSaid : Prop := groupsShiftUptoRow.holds Try.pinned (OpenSpec.upto groupsShiftSpec)

end Rows
end Go.Proofs.Ytnpcombfgdbhkaa

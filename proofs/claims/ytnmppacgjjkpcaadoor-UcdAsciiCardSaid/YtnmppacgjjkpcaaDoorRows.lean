/-
  NARROWER THAN 'FOR EVERY INPUT', by the rows' own cells (each row's printed sentence says how): UcdSays: laid · UcdRows: laid · UcdTurns: laid · UcdLetters: laid · UcdAscii: laid · UcdBeyond: laid.
  DERIVED. THE GIVEN ROWS OF THIS SEAT. 6 by the template 'for every input the law returns true; each argument reads behind the call as it read before'; 0 by the template 'total and deterministic' (their statements: YtnmppacgjjkpcaaDoorTotals.lean).
  GIVEN WITH THE SEED: the statements are not yours to turn. If you find one false, say at which input.
  Laid BY PROGRAM, IN A SANDBOX (cutbox-rows.mjs): the forced cells as the released guide's own fill.sh prints them over the translation 4c35c1c13329dcb6… (all of the seat's roots in one cut). By AI agents, Wed Nov 11 2026. No macro, syntax, notation, axiom, sorry.
-/
import Derived.Test.YtnmppacgjjkpcaaDoorChecked
import GoSem.Claim
import GoSem.ClaimJoined
import GoSem.ClaimMapViews
import Derived.JoinedTies
import Derived.KernelRfl
namespace Go.Proofs.YtnmppacgjjkpcaaDoor
/- THE CELL 'sum', in the pinned program and in every row, IS THE sha256 OF THE DUMP (.gsa) THAT YtnmppacgjjkpcaaDoorProg.lean LOADS. Nothing in Lean hashes anything: it is a label: what it is worth is what the hold of that sum in a sandbox is worth. -/
noncomputable def Tryd.pinned : Pinned := { name := "ytnmppacgjjkpcaadoor", sum := "4c35c1c13329dcb6236d7ee2f506f33abc22493a0d874bc7b4d686ba46af7d8a", checked := Tryd.checked }
namespace Rows
def none {H : Type} : Left H := { results := [], args := [] }

/- WHAT THE LISTED PACKAGE-LEVEL VARIABLES READ AS WHEN THE CALL BEGINS. Each datum BY PROGRAM (the guide's laid-datum.mjs) off the statement by which the dump's own 'gosem.cut.vars' lays the variable. In a bare row this is a premise. The card (YtnmppacgjjkpcaaDoorCards.lean) ties it to the program's text. -/
def laid_lurcher_ucd_threes {H : Type} : DataW H := .agg [.agg [.lit (.int .i64 75), .lit (.int .i64 107), .lit (.int .i64 8490)], .agg [.lit (.int .i64 83), .lit (.int .i64 115), .lit (.int .i64 383)], .agg [.lit (.int .i64 181), .lit (.int .i64 924), .lit (.int .i64 956)], .agg [.lit (.int .i64 931), .lit (.int .i64 962), .lit (.int .i64 963)]]

/-- 'lurcherlaw02.UcdSays': WHATEVER THE INPUT: true; the input reads as it did. -/
def ucdSaysSpec : ChangeSpec := { name := "ucdSays", fn := fun _ => fun
  | [d1, d2] => { results := [.lit (.bool true)], args := [d1, d2] }
  | _ => none }
def ucdSaysRow : OpenClaim := { program := "ytnmppacgjjkpcaadoor", sum := "4c35c1c13329dcb6236d7ee2f506f33abc22493a0d874bc7b4d686ba46af7d8a", func := "lurcher/lurcherlaw02.UcdSays", spec := "ucdSays", unfollowed := true, recurses := true, named := ["lurcher/ucd.threes"], apart := false, laid := [("lurcher/ucd.threes", laid_lurcher_ucd_threes)] }
def UcdSaysSaid : Prop := ucdSaysRow.holds Tryd.pinned (OpenSpec.ofChange ucdSaysSpec)

/-- ITS FALSE NEIGHBOUR: 'it returns false'. Refute it at one input. -/
def ucdSaysWrong : ChangeSpec := { name := "ucdSays", fn := fun _ => fun
  | [d1, d2] => { results := [.lit (.bool false)], args := [d1, d2] }
  | _ => none }
def UcdSaysWrongFalsely : Prop := ucdSaysRow.holds Tryd.pinned (OpenSpec.ofChange ucdSaysWrong)

/-- 'lurcherlaw02.UcdRows': WHATEVER THE INPUT: true; the input reads as it did. -/
def ucdRowsSpec : ChangeSpec := { name := "ucdRows", fn := fun _ => fun
  | [d1, d2, d3] => { results := [.lit (.bool true)], args := [d1, d2, d3] }
  | _ => none }
def ucdRowsRow : OpenClaim := { program := "ytnmppacgjjkpcaadoor", sum := "4c35c1c13329dcb6236d7ee2f506f33abc22493a0d874bc7b4d686ba46af7d8a", func := "lurcher/lurcherlaw02.UcdRows", spec := "ucdRows", unfollowed := true, recurses := true, named := ["lurcher/ucd.threes"], apart := false, laid := [("lurcher/ucd.threes", laid_lurcher_ucd_threes)] }
def UcdRowsSaid : Prop := ucdRowsRow.holds Tryd.pinned (OpenSpec.ofChange ucdRowsSpec)

/-- ITS FALSE NEIGHBOUR: 'it returns false'. Refute it at one input. -/
def ucdRowsWrong : ChangeSpec := { name := "ucdRows", fn := fun _ => fun
  | [d1, d2, d3] => { results := [.lit (.bool false)], args := [d1, d2, d3] }
  | _ => none }
def UcdRowsWrongFalsely : Prop := ucdRowsRow.holds Tryd.pinned (OpenSpec.ofChange ucdRowsWrong)

/-- 'lurcherlaw02.UcdTurns': WHATEVER THE INPUT: true; the input reads as it did. -/
def ucdTurnsSpec : ChangeSpec := { name := "ucdTurns", fn := fun _ => fun
  | [d1, d2] => { results := [.lit (.bool true)], args := [d1, d2] }
  | _ => none }
def ucdTurnsRow : OpenClaim := { program := "ytnmppacgjjkpcaadoor", sum := "4c35c1c13329dcb6236d7ee2f506f33abc22493a0d874bc7b4d686ba46af7d8a", func := "lurcher/lurcherlaw02.UcdTurns", spec := "ucdTurns", unfollowed := true, recurses := true, named := ["lurcher/ucd.threes"], apart := false, laid := [("lurcher/ucd.threes", laid_lurcher_ucd_threes)] }
def UcdTurnsSaid : Prop := ucdTurnsRow.holds Tryd.pinned (OpenSpec.ofChange ucdTurnsSpec)

/-- ITS FALSE NEIGHBOUR: 'it returns false'. Refute it at one input. -/
def ucdTurnsWrong : ChangeSpec := { name := "ucdTurns", fn := fun _ => fun
  | [d1, d2] => { results := [.lit (.bool false)], args := [d1, d2] }
  | _ => none }
def UcdTurnsWrongFalsely : Prop := ucdTurnsRow.holds Tryd.pinned (OpenSpec.ofChange ucdTurnsWrong)

/-- 'lurcherlaw02.UcdLetters': WHATEVER THE INPUT: true; the input reads as it did. -/
def ucdLettersSpec : ChangeSpec := { name := "ucdLetters", fn := fun _ => fun
  | [d1, d2] => { results := [.lit (.bool true)], args := [d1, d2] }
  | _ => none }
def ucdLettersRow : OpenClaim := { program := "ytnmppacgjjkpcaadoor", sum := "4c35c1c13329dcb6236d7ee2f506f33abc22493a0d874bc7b4d686ba46af7d8a", func := "lurcher/lurcherlaw02.UcdLetters", spec := "ucdLetters", unfollowed := true, recurses := true, named := ["lurcher/ucd.threes"], apart := false, laid := [("lurcher/ucd.threes", laid_lurcher_ucd_threes)] }
def UcdLettersSaid : Prop := ucdLettersRow.holds Tryd.pinned (OpenSpec.ofChange ucdLettersSpec)

/-- ITS FALSE NEIGHBOUR: 'it returns false'. Refute it at one input. -/
def ucdLettersWrong : ChangeSpec := { name := "ucdLetters", fn := fun _ => fun
  | [d1, d2] => { results := [.lit (.bool false)], args := [d1, d2] }
  | _ => none }
def UcdLettersWrongFalsely : Prop := ucdLettersRow.holds Tryd.pinned (OpenSpec.ofChange ucdLettersWrong)

/-- 'lurcherlaw02.UcdAscii': WHATEVER THE INPUT: true; the input reads as it did. -/
def ucdAsciiSpec : ChangeSpec := { name := "ucdAscii", fn := fun _ => fun
  | [d] => { results := [.lit (.bool true)], args := [d] }
  | _ => none }
def ucdAsciiRow : OpenClaim := { program := "ytnmppacgjjkpcaadoor", sum := "4c35c1c13329dcb6236d7ee2f506f33abc22493a0d874bc7b4d686ba46af7d8a", func := "lurcher/lurcherlaw02.UcdAscii", spec := "ucdAscii", unfollowed := true, recurses := true, named := ["lurcher/ucd.threes"], apart := false, laid := [("lurcher/ucd.threes", laid_lurcher_ucd_threes)] }
def UcdAsciiSaid : Prop := ucdAsciiRow.holds Tryd.pinned (OpenSpec.ofChange ucdAsciiSpec)

/-- ITS FALSE NEIGHBOUR: 'it returns false'. Refute it at one input. -/
def ucdAsciiWrong : ChangeSpec := { name := "ucdAscii", fn := fun _ => fun
  | [d] => { results := [.lit (.bool false)], args := [d] }
  | _ => none }
def UcdAsciiWrongFalsely : Prop := ucdAsciiRow.holds Tryd.pinned (OpenSpec.ofChange ucdAsciiWrong)

/-- 'lurcherlaw02.UcdBeyond': WHATEVER THE INPUT: true; the input reads as it did. -/
def ucdBeyondSpec : ChangeSpec := { name := "ucdBeyond", fn := fun _ => fun
  | [d1, d2] => { results := [.lit (.bool true)], args := [d1, d2] }
  | _ => none }
def ucdBeyondRow : OpenClaim := { program := "ytnmppacgjjkpcaadoor", sum := "4c35c1c13329dcb6236d7ee2f506f33abc22493a0d874bc7b4d686ba46af7d8a", func := "lurcher/lurcherlaw02.UcdBeyond", spec := "ucdBeyond", unfollowed := true, recurses := true, named := ["lurcher/ucd.threes"], apart := false, laid := [("lurcher/ucd.threes", laid_lurcher_ucd_threes)] }
def UcdBeyondSaid : Prop := ucdBeyondRow.holds Tryd.pinned (OpenSpec.ofChange ucdBeyondSpec)

/-- ITS FALSE NEIGHBOUR: 'it returns false'. Refute it at one input. -/
def ucdBeyondWrong : ChangeSpec := { name := "ucdBeyond", fn := fun _ => fun
  | [d1, d2] => { results := [.lit (.bool false)], args := [d1, d2] }
  | _ => none }
def UcdBeyondWrongFalsely : Prop := ucdBeyondRow.holds Tryd.pinned (OpenSpec.ofChange ucdBeyondWrong)

/- THE SECOND FORM. 'bulk': how many values and letters a reading holds, each counted each time it is reached (what is shared counts as often as it is met; a slice's spare places count too). A statement '..UptoSaid' is the law's where the arguments, and the package variables that the reading takes, are together of bulk at most 1048576: NARROWER than '..Said'. Prove '..Said' where nothing that the law and all that it calls make is longer than what came in: it says more and counts as full. Else prove '..UptoSaid'. A law counts once. -/
mutual
def uptoBulk {H : Type} : DataW H → Nat
  | .lit (.string bytes) => bytes.length + 1
  | .lit _ => 1
  | .nil => 1
  | .ptr d => uptoBulk d + 1
  | .slice elems spare => uptoBulkAll elems + uptoBulkAll spare + 1
  | .agg parts => uptoBulkAll parts + 1
  | .iface _ d => uptoBulk d + 1
  | .map entries => uptoBulkEntries entries + 1
  | .held _ => 1
def uptoBulkAll {H : Type} : List (DataW H) → Nat
  | [] => 0
  | d :: r => uptoBulk d + uptoBulkAll r
def uptoBulkEntries {H : Type} : List (Lit × DataW H) → Nat
  | [] => 0
  | x :: r => uptoBulkEntry x + uptoBulkEntries r
def uptoBulkEntry {H : Type} : Lit × DataW H → Nat
  | (.string bytes, d) => bytes.length + uptoBulk d + 1
  | (_, d) => uptoBulk d + 1
 end
def uptoSmall : (H : Type) → List (DataW H) → Bool := fun _ ds => decide (uptoBulkAll ds ≤ 1048576)
def OpenSpec.upto (s : _root_.Go.ChangeSpec) : _root_.Go.OpenSpec := { _root_.Go.OpenSpec.ofChange s with cond := some uptoSmall }

/-- 'lurcherlaw02.UcdSays', WHERE WHAT IT READS IS OF BULK AT MOST 1048576: true; the input reads as it did. -/
def ucdSaysUptoRow : OpenClaim := { program := "ytnmppacgjjkpcaadoor", sum := "4c35c1c13329dcb6236d7ee2f506f33abc22493a0d874bc7b4d686ba46af7d8a", func := "lurcher/lurcherlaw02.UcdSays", spec := "ucdSays", unfollowed := true, recurses := true, named := ["lurcher/ucd.threes"], apart := false, laid := [("lurcher/ucd.threes", laid_lurcher_ucd_threes)], narrowed := true }
def UcdSaysUptoSaid : Prop := ucdSaysUptoRow.holds Tryd.pinned (OpenSpec.upto ucdSaysSpec)

/-- 'lurcherlaw02.UcdRows', WHERE WHAT IT READS IS OF BULK AT MOST 1048576: true; the input reads as it did. -/
def ucdRowsUptoRow : OpenClaim := { program := "ytnmppacgjjkpcaadoor", sum := "4c35c1c13329dcb6236d7ee2f506f33abc22493a0d874bc7b4d686ba46af7d8a", func := "lurcher/lurcherlaw02.UcdRows", spec := "ucdRows", unfollowed := true, recurses := true, named := ["lurcher/ucd.threes"], apart := false, laid := [("lurcher/ucd.threes", laid_lurcher_ucd_threes)], narrowed := true }
def UcdRowsUptoSaid : Prop := ucdRowsUptoRow.holds Tryd.pinned (OpenSpec.upto ucdRowsSpec)

/-- 'lurcherlaw02.UcdTurns', WHERE WHAT IT READS IS OF BULK AT MOST 1048576: true; the input reads as it did. -/
def ucdTurnsUptoRow : OpenClaim := { program := "ytnmppacgjjkpcaadoor", sum := "4c35c1c13329dcb6236d7ee2f506f33abc22493a0d874bc7b4d686ba46af7d8a", func := "lurcher/lurcherlaw02.UcdTurns", spec := "ucdTurns", unfollowed := true, recurses := true, named := ["lurcher/ucd.threes"], apart := false, laid := [("lurcher/ucd.threes", laid_lurcher_ucd_threes)], narrowed := true }
def UcdTurnsUptoSaid : Prop := ucdTurnsUptoRow.holds Tryd.pinned (OpenSpec.upto ucdTurnsSpec)

/-- 'lurcherlaw02.UcdLetters', WHERE WHAT IT READS IS OF BULK AT MOST 1048576: true; the input reads as it did. -/
def ucdLettersUptoRow : OpenClaim := { program := "ytnmppacgjjkpcaadoor", sum := "4c35c1c13329dcb6236d7ee2f506f33abc22493a0d874bc7b4d686ba46af7d8a", func := "lurcher/lurcherlaw02.UcdLetters", spec := "ucdLetters", unfollowed := true, recurses := true, named := ["lurcher/ucd.threes"], apart := false, laid := [("lurcher/ucd.threes", laid_lurcher_ucd_threes)], narrowed := true }
def UcdLettersUptoSaid : Prop := ucdLettersUptoRow.holds Tryd.pinned (OpenSpec.upto ucdLettersSpec)

/-- 'lurcherlaw02.UcdAscii', WHERE WHAT IT READS IS OF BULK AT MOST 1048576: true; the input reads as it did. -/
def ucdAsciiUptoRow : OpenClaim := { program := "ytnmppacgjjkpcaadoor", sum := "4c35c1c13329dcb6236d7ee2f506f33abc22493a0d874bc7b4d686ba46af7d8a", func := "lurcher/lurcherlaw02.UcdAscii", spec := "ucdAscii", unfollowed := true, recurses := true, named := ["lurcher/ucd.threes"], apart := false, laid := [("lurcher/ucd.threes", laid_lurcher_ucd_threes)], narrowed := true }
def UcdAsciiUptoSaid : Prop := ucdAsciiUptoRow.holds Tryd.pinned (OpenSpec.upto ucdAsciiSpec)

/-- 'lurcherlaw02.UcdBeyond', WHERE WHAT IT READS IS OF BULK AT MOST 1048576: true; the input reads as it did. -/
def ucdBeyondUptoRow : OpenClaim := { program := "ytnmppacgjjkpcaadoor", sum := "4c35c1c13329dcb6236d7ee2f506f33abc22493a0d874bc7b4d686ba46af7d8a", func := "lurcher/lurcherlaw02.UcdBeyond", spec := "ucdBeyond", unfollowed := true, recurses := true, named := ["lurcher/ucd.threes"], apart := false, laid := [("lurcher/ucd.threes", laid_lurcher_ucd_threes)], narrowed := true }
def UcdBeyondUptoSaid : Prop := ucdBeyondUptoRow.holds Tryd.pinned (OpenSpec.upto ucdBeyondSpec)

end Rows
end Go.Proofs.YtnmppacgjjkpcaaDoor

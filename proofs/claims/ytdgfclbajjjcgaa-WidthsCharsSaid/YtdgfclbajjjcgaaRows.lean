/-
  No cell of these rows narrows 'for every input' (looked for: loops, veiled, ifaces, maps, wideKeys, modest, calm, conditions, laid).
  DERIVED. THE GIVEN ROWS OF THIS SEAT. 9 by the template 'for every input the law returns true; each argument reads behind the call as it read before'; 0 by the template 'total and deterministic' (their statements: YtdgfclbajjjcgaaTotals.lean).
  GIVEN WITH THE SEED: the statements are not yours to turn. If you find one false, say at which input.
  Laid BY PROGRAM, IN A SANDBOX (cutbox-rows.mjs): the forced cells as the released guide's own fill.sh prints them over the translation 63ce44766b67eb91… (all of the seat's roots in one cut). By AI agents, Wed Nov 11 2026. No macro, syntax, notation, axiom, sorry.
-/
import Derived.Test.YtdgfclbajjjcgaaChecked
import GoSem.Claim
import GoSem.ClaimJoined
import GoSem.ClaimMapViews
import Derived.JoinedTies
import Derived.KernelRfl
namespace Go.Proofs.Ytdgfclbajjjcgaa
/- THE CELL 'sum', in the pinned program and in every row, IS THE sha256 OF THE DUMP (.gsa) THAT YtdgfclbajjjcgaaProg.lean LOADS. Nothing in Lean hashes anything: it is a label: what it is worth is what the hold of that sum in a sandbox is worth. -/
noncomputable def Try.pinned : Pinned := { name := "ytdgfclbajjjcgaa", sum := "63ce44766b67eb91ee553b9c94077344dea7520da49fe611077b4a29443d6c6f", checked := Try.checked }
namespace Rows
def none {H : Type} : Left H := { results := [], args := [] }

/-- 'lurcherlaw09.GroupsSays': WHATEVER THE INPUT: true; the input reads as it did. -/
def groupsSaysSpec : ChangeSpec := { name := "groupsSays", fn := fun _ => fun
  | [d1, d2] => { results := [.lit (.bool true)], args := [d1, d2] }
  | _ => none }
def groupsSaysRow : OpenClaim := { program := "ytdgfclbajjjcgaa", sum := "63ce44766b67eb91ee553b9c94077344dea7520da49fe611077b4a29443d6c6f", func := "lurcher/lurcherlaw09.GroupsSays", spec := "groupsSays", recurses := true, apart := false }
def GroupsSaysSaid : Prop := groupsSaysRow.holds Try.pinned (OpenSpec.ofChange groupsSaysSpec)

/-- ITS FALSE NEIGHBOUR: 'it returns false'. Refute it at one input. -/
def groupsSaysWrong : ChangeSpec := { name := "groupsSays", fn := fun _ => fun
  | [d1, d2] => { results := [.lit (.bool false)], args := [d1, d2] }
  | _ => none }
def GroupsSaysWrongFalsely : Prop := groupsSaysRow.holds Try.pinned (OpenSpec.ofChange groupsSaysWrong)

/-- 'lurcherlaw10.RefsSays': WHATEVER THE INPUT: true; the input reads as it did. -/
def refsSaysSpec : ChangeSpec := { name := "refsSays", fn := fun _ => fun
  | [d1, d2] => { results := [.lit (.bool true)], args := [d1, d2] }
  | _ => none }
def refsSaysRow : OpenClaim := { program := "ytdgfclbajjjcgaa", sum := "63ce44766b67eb91ee553b9c94077344dea7520da49fe611077b4a29443d6c6f", func := "lurcher/lurcherlaw10.RefsSays", spec := "refsSays", recurses := true, apart := false }
def RefsSaysSaid : Prop := refsSaysRow.holds Try.pinned (OpenSpec.ofChange refsSaysSpec)

/-- ITS FALSE NEIGHBOUR: 'it returns false'. Refute it at one input. -/
def refsSaysWrong : ChangeSpec := { name := "refsSays", fn := fun _ => fun
  | [d1, d2] => { results := [.lit (.bool false)], args := [d1, d2] }
  | _ => none }
def RefsSaysWrongFalsely : Prop := refsSaysRow.holds Try.pinned (OpenSpec.ofChange refsSaysWrong)

/-- 'lurcherlaw10.RefsWithin': WHATEVER THE INPUT: true; the input reads as it did. -/
def refsWithinSpec : ChangeSpec := { name := "refsWithin", fn := fun _ => fun
  | [d1, d2] => { results := [.lit (.bool true)], args := [d1, d2] }
  | _ => none }
def refsWithinRow : OpenClaim := { program := "ytdgfclbajjjcgaa", sum := "63ce44766b67eb91ee553b9c94077344dea7520da49fe611077b4a29443d6c6f", func := "lurcher/lurcherlaw10.RefsWithin", spec := "refsWithin", recurses := true, apart := false }
def RefsWithinSaid : Prop := refsWithinRow.holds Try.pinned (OpenSpec.ofChange refsWithinSpec)

/-- ITS FALSE NEIGHBOUR: 'it returns false'. Refute it at one input. -/
def refsWithinWrong : ChangeSpec := { name := "refsWithin", fn := fun _ => fun
  | [d1, d2] => { results := [.lit (.bool false)], args := [d1, d2] }
  | _ => none }
def RefsWithinWrongFalsely : Prop := refsWithinRow.holds Try.pinned (OpenSpec.ofChange refsWithinWrong)

/-- 'lurcherlaw10.RefsBack': WHATEVER THE INPUT: true; the input reads as it did. -/
def refsBackSpec : ChangeSpec := { name := "refsBack", fn := fun _ => fun
  | [d1, d2] => { results := [.lit (.bool true)], args := [d1, d2] }
  | _ => none }
def refsBackRow : OpenClaim := { program := "ytdgfclbajjjcgaa", sum := "63ce44766b67eb91ee553b9c94077344dea7520da49fe611077b4a29443d6c6f", func := "lurcher/lurcherlaw10.RefsBack", spec := "refsBack", recurses := true, apart := false }
def RefsBackSaid : Prop := refsBackRow.holds Try.pinned (OpenSpec.ofChange refsBackSpec)

/-- ITS FALSE NEIGHBOUR: 'it returns false'. Refute it at one input. -/
def refsBackWrong : ChangeSpec := { name := "refsBack", fn := fun _ => fun
  | [d1, d2] => { results := [.lit (.bool false)], args := [d1, d2] }
  | _ => none }
def RefsBackWrongFalsely : Prop := refsBackRow.holds Try.pinned (OpenSpec.ofChange refsBackWrong)

/-- 'lurcherlaw10.RefsNames': WHATEVER THE INPUT: true; the input reads as it did. -/
def refsNamesSpec : ChangeSpec := { name := "refsNames", fn := fun _ => fun
  | [d1, d2] => { results := [.lit (.bool true)], args := [d1, d2] }
  | _ => none }
def refsNamesRow : OpenClaim := { program := "ytdgfclbajjjcgaa", sum := "63ce44766b67eb91ee553b9c94077344dea7520da49fe611077b4a29443d6c6f", func := "lurcher/lurcherlaw10.RefsNames", spec := "refsNames", recurses := true, apart := false }
def RefsNamesSaid : Prop := refsNamesRow.holds Try.pinned (OpenSpec.ofChange refsNamesSpec)

/-- ITS FALSE NEIGHBOUR: 'it returns false'. Refute it at one input. -/
def refsNamesWrong : ChangeSpec := { name := "refsNames", fn := fun _ => fun
  | [d1, d2] => { results := [.lit (.bool false)], args := [d1, d2] }
  | _ => none }
def RefsNamesWrongFalsely : Prop := refsNamesRow.holds Try.pinned (OpenSpec.ofChange refsNamesWrong)

/-- 'lurcherlaw10.RefsKeeps': WHATEVER THE INPUT: true; the input reads as it did. -/
def refsKeepsSpec : ChangeSpec := { name := "refsKeeps", fn := fun _ => fun
  | [d1, d2] => { results := [.lit (.bool true)], args := [d1, d2] }
  | _ => none }
def refsKeepsRow : OpenClaim := { program := "ytdgfclbajjjcgaa", sum := "63ce44766b67eb91ee553b9c94077344dea7520da49fe611077b4a29443d6c6f", func := "lurcher/lurcherlaw10.RefsKeeps", spec := "refsKeeps", recurses := true, apart := false }
def RefsKeepsSaid : Prop := refsKeepsRow.holds Try.pinned (OpenSpec.ofChange refsKeepsSpec)

/-- ITS FALSE NEIGHBOUR: 'it returns false'. Refute it at one input. -/
def refsKeepsWrong : ChangeSpec := { name := "refsKeeps", fn := fun _ => fun
  | [d1, d2] => { results := [.lit (.bool false)], args := [d1, d2] }
  | _ => none }
def RefsKeepsWrongFalsely : Prop := refsKeepsRow.holds Try.pinned (OpenSpec.ofChange refsKeepsWrong)

/-- 'lurcherlaw11.WidthsSums': WHATEVER THE INPUT: true; the input reads as it did. -/
def widthsSumsSpec : ChangeSpec := { name := "widthsSums", fn := fun _ => fun
  | [d1, d2, d3] => { results := [.lit (.bool true)], args := [d1, d2, d3] }
  | _ => none }
def widthsSumsRow : OpenClaim := { program := "ytdgfclbajjjcgaa", sum := "63ce44766b67eb91ee553b9c94077344dea7520da49fe611077b4a29443d6c6f", func := "lurcher/lurcherlaw11.WidthsSums", spec := "widthsSums", recurses := true, apart := false }
def WidthsSumsSaid : Prop := widthsSumsRow.holds Try.pinned (OpenSpec.ofChange widthsSumsSpec)

/-- ITS FALSE NEIGHBOUR: 'it returns false'. Refute it at one input. -/
def widthsSumsWrong : ChangeSpec := { name := "widthsSums", fn := fun _ => fun
  | [d1, d2, d3] => { results := [.lit (.bool false)], args := [d1, d2, d3] }
  | _ => none }
def WidthsSumsWrongFalsely : Prop := widthsSumsRow.holds Try.pinned (OpenSpec.ofChange widthsSumsWrong)

/-- 'lurcherlaw11.WidthsBounds': WHATEVER THE INPUT: true; the input reads as it did. -/
def widthsBoundsSpec : ChangeSpec := { name := "widthsBounds", fn := fun _ => fun
  | [d1, d2] => { results := [.lit (.bool true)], args := [d1, d2] }
  | _ => none }
def widthsBoundsRow : OpenClaim := { program := "ytdgfclbajjjcgaa", sum := "63ce44766b67eb91ee553b9c94077344dea7520da49fe611077b4a29443d6c6f", func := "lurcher/lurcherlaw11.WidthsBounds", spec := "widthsBounds", recurses := true, apart := false }
def WidthsBoundsSaid : Prop := widthsBoundsRow.holds Try.pinned (OpenSpec.ofChange widthsBoundsSpec)

/-- ITS FALSE NEIGHBOUR: 'it returns false'. Refute it at one input. -/
def widthsBoundsWrong : ChangeSpec := { name := "widthsBounds", fn := fun _ => fun
  | [d1, d2] => { results := [.lit (.bool false)], args := [d1, d2] }
  | _ => none }
def WidthsBoundsWrongFalsely : Prop := widthsBoundsRow.holds Try.pinned (OpenSpec.ofChange widthsBoundsWrong)

/-- 'lurcherlaw11.WidthsChars': WHATEVER THE INPUT: true; the input reads as it did. -/
def widthsCharsSpec : ChangeSpec := { name := "widthsChars", fn := fun _ => fun
  | [d1, d2, d3] => { results := [.lit (.bool true)], args := [d1, d2, d3] }
  | _ => none }
def widthsCharsRow : OpenClaim := { program := "ytdgfclbajjjcgaa", sum := "63ce44766b67eb91ee553b9c94077344dea7520da49fe611077b4a29443d6c6f", func := "lurcher/lurcherlaw11.WidthsChars", spec := "widthsChars", recurses := true, apart := false }
def WidthsCharsSaid : Prop := widthsCharsRow.holds Try.pinned (OpenSpec.ofChange widthsCharsSpec)

/-- ITS FALSE NEIGHBOUR: 'it returns false'. Refute it at one input. -/
def widthsCharsWrong : ChangeSpec := { name := "widthsChars", fn := fun _ => fun
  | [d1, d2, d3] => { results := [.lit (.bool false)], args := [d1, d2, d3] }
  | _ => none }
def WidthsCharsWrongFalsely : Prop := widthsCharsRow.holds Try.pinned (OpenSpec.ofChange widthsCharsWrong)

/- THE SECOND FORM. 'bulk': how many values and letters a reading holds, each counted each time it is reached (what is shared counts as often as it is met; a slice's spare places count too). A statement '..UptoSaid' is the law's where the arguments, and the package variables that the reading takes, are together of bulk at most 1048576: NARROWER than '..Said'. Prove '..Said' where nothing that the law and all that it calls make is longer than what came in: it says more and counts as full. Else prove '..UptoSaid'. A law counts once. -/
mutual
def uptoBulk {H : Type} : DataW H → Nat
  | .lit (.string bytes) => bytes.length + 1
  | .lit _ => 1
  | .nil => 1
  | .ptr d => uptoBulk d + 1
  | .slice elems spare => uptoBulkAll elems + uptoBulkAll spare + 1
  | .agg parts => uptoBulkAll parts + 1
  | .iface _ d => uptoBulk d + 1
  | .map entries => uptoBulkEntries entries + 1
  | .held _ => 1
def uptoBulkAll {H : Type} : List (DataW H) → Nat
  | [] => 0
  | d :: r => uptoBulk d + uptoBulkAll r
def uptoBulkEntries {H : Type} : List (Lit × DataW H) → Nat
  | [] => 0
  | x :: r => uptoBulkEntry x + uptoBulkEntries r
def uptoBulkEntry {H : Type} : Lit × DataW H → Nat
  | (.string bytes, d) => bytes.length + uptoBulk d + 1
  | (_, d) => uptoBulk d + 1
 end
def uptoSmall : (H : Type) → List (DataW H) → Bool := fun _ ds => decide (uptoBulkAll ds ≤ 1048576)
def OpenSpec.upto (s : _root_.Go.ChangeSpec) : _root_.Go.OpenSpec := { _root_.Go.OpenSpec.ofChange s with cond := some uptoSmall }

/-- 'lurcherlaw09.GroupsSays', WHERE WHAT IT READS IS OF BULK AT MOST 1048576: true; the input reads as it did. -/
def groupsSaysUptoRow : OpenClaim := { program := "ytdgfclbajjjcgaa", sum := "63ce44766b67eb91ee553b9c94077344dea7520da49fe611077b4a29443d6c6f", func := "lurcher/lurcherlaw09.GroupsSays", spec := "groupsSays", recurses := true, apart := false, narrowed := true }
def GroupsSaysUptoSaid : Prop := groupsSaysUptoRow.holds Try.pinned (OpenSpec.upto groupsSaysSpec)

/-- 'lurcherlaw10.RefsSays', WHERE WHAT IT READS IS OF BULK AT MOST 1048576: true; the input reads as it did. -/
def refsSaysUptoRow : OpenClaim := { program := "ytdgfclbajjjcgaa", sum := "63ce44766b67eb91ee553b9c94077344dea7520da49fe611077b4a29443d6c6f", func := "lurcher/lurcherlaw10.RefsSays", spec := "refsSays", recurses := true, apart := false, narrowed := true }
def RefsSaysUptoSaid : Prop := refsSaysUptoRow.holds Try.pinned (OpenSpec.upto refsSaysSpec)

/-- 'lurcherlaw10.RefsWithin', WHERE WHAT IT READS IS OF BULK AT MOST 1048576: true; the input reads as it did. -/
def refsWithinUptoRow : OpenClaim := { program := "ytdgfclbajjjcgaa", sum := "63ce44766b67eb91ee553b9c94077344dea7520da49fe611077b4a29443d6c6f", func := "lurcher/lurcherlaw10.RefsWithin", spec := "refsWithin", recurses := true, apart := false, narrowed := true }
def RefsWithinUptoSaid : Prop := refsWithinUptoRow.holds Try.pinned (OpenSpec.upto refsWithinSpec)

/-- 'lurcherlaw10.RefsBack', WHERE WHAT IT READS IS OF BULK AT MOST 1048576: true; the input reads as it did. -/
def refsBackUptoRow : OpenClaim := { program := "ytdgfclbajjjcgaa", sum := "63ce44766b67eb91ee553b9c94077344dea7520da49fe611077b4a29443d6c6f", func := "lurcher/lurcherlaw10.RefsBack", spec := "refsBack", recurses := true, apart := false, narrowed := true }
def RefsBackUptoSaid : Prop := refsBackUptoRow.holds Try.pinned (OpenSpec.upto refsBackSpec)

/-- 'lurcherlaw10.RefsNames', WHERE WHAT IT READS IS OF BULK AT MOST 1048576: true; the input reads as it did. -/
def refsNamesUptoRow : OpenClaim := { program := "ytdgfclbajjjcgaa", sum := "63ce44766b67eb91ee553b9c94077344dea7520da49fe611077b4a29443d6c6f", func := "lurcher/lurcherlaw10.RefsNames", spec := "refsNames", recurses := true, apart := false, narrowed := true }
def RefsNamesUptoSaid : Prop := refsNamesUptoRow.holds Try.pinned (OpenSpec.upto refsNamesSpec)

/-- 'lurcherlaw10.RefsKeeps', WHERE WHAT IT READS IS OF BULK AT MOST 1048576: true; the input reads as it did. -/
def refsKeepsUptoRow : OpenClaim := { program := "ytdgfclbajjjcgaa", sum := "63ce44766b67eb91ee553b9c94077344dea7520da49fe611077b4a29443d6c6f", func := "lurcher/lurcherlaw10.RefsKeeps", spec := "refsKeeps", recurses := true, apart := false, narrowed := true }
def RefsKeepsUptoSaid : Prop := refsKeepsUptoRow.holds Try.pinned (OpenSpec.upto refsKeepsSpec)

/-- 'lurcherlaw11.WidthsSums', WHERE WHAT IT READS IS OF BULK AT MOST 1048576: true; the input reads as it did. -/
def widthsSumsUptoRow : OpenClaim := { program := "ytdgfclbajjjcgaa", sum := "63ce44766b67eb91ee553b9c94077344dea7520da49fe611077b4a29443d6c6f", func := "lurcher/lurcherlaw11.WidthsSums", spec := "widthsSums", recurses := true, apart := false, narrowed := true }
def WidthsSumsUptoSaid : Prop := widthsSumsUptoRow.holds Try.pinned (OpenSpec.upto widthsSumsSpec)

/-- 'lurcherlaw11.WidthsBounds', WHERE WHAT IT READS IS OF BULK AT MOST 1048576: true; the input reads as it did. -/
def widthsBoundsUptoRow : OpenClaim := { program := "ytdgfclbajjjcgaa", sum := "63ce44766b67eb91ee553b9c94077344dea7520da49fe611077b4a29443d6c6f", func := "lurcher/lurcherlaw11.WidthsBounds", spec := "widthsBounds", recurses := true, apart := false, narrowed := true }
def WidthsBoundsUptoSaid : Prop := widthsBoundsUptoRow.holds Try.pinned (OpenSpec.upto widthsBoundsSpec)

/-- 'lurcherlaw11.WidthsChars', WHERE WHAT IT READS IS OF BULK AT MOST 1048576: true; the input reads as it did. -/
def widthsCharsUptoRow : OpenClaim := { program := "ytdgfclbajjjcgaa", sum := "63ce44766b67eb91ee553b9c94077344dea7520da49fe611077b4a29443d6c6f", func := "lurcher/lurcherlaw11.WidthsChars", spec := "widthsChars", recurses := true, apart := false, narrowed := true }
def WidthsCharsUptoSaid : Prop := widthsCharsUptoRow.holds Try.pinned (OpenSpec.upto widthsCharsSpec)

end Rows
end Go.Proofs.Ytdgfclbajjjcgaa

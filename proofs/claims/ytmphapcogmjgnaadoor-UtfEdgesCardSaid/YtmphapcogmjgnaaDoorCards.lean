/-
  DERIVED. GIVEN WITH THE SEED: THE CARDS: each row of YtmphapcogmjgnaaDoorRows.lean that lists a variable, with what it lists TIED to the program's text (the seventh form; the later family's looks); each row that meets fmt, with fmt's text TOLD by the authors' own Lean function (tested against real Go, not proved from fmt's source: count such statements apart). THE CARD IS WHAT COUNTS. Prove the row's statement (the work); the ties are given (YtmphapcogmjgnaaDoorTie.lean); close each card by the builder's one call (the guide's Derived/Test/ToyasCard.lean, 'card_holds'). Laid BY PROGRAM, IN A SANDBOX (cutbox-door.mjs). By AI agents, Wed Nov 11 2026. No macro, syntax, notation, axiom, sorry.
-/
import Derived.Test.YtmphapcogmjgnaaDoorRows
import GoSem.ClaimSeven
namespace Go.Proofs.YtmphapcogmjgnaaDoor
namespace Rows

/-- THE TIED CARD OF 'lurcherlaw01.UtfValid'. -/
def utfValidCard : Claim7 := { stood := { row := utfValidRow, standIns := [], harness := (true, "e1956c867430f15ffcb9dd5af67efef1a605c8a08cb570874cd939f36aea3b23"), looks := false }, kinds := [], alts := [], laidByText := true, laidKinds := [.data, .data], laidTests := true, laidLooks := .later }
def UtfValidCardSaid : Prop := Claim7.holds Tryd.pinned (.plain (OpenSpec.ofChange utfValidSpec)) utfValidCard

/-- THE TIED CARD OF 'lurcherlaw01.UtfSteps'. -/
def utfStepsCard : Claim7 := { stood := { row := utfStepsRow, standIns := [], harness := (true, "e1956c867430f15ffcb9dd5af67efef1a605c8a08cb570874cd939f36aea3b23"), looks := false }, kinds := [], alts := [], laidByText := true, laidKinds := [.data, .data], laidTests := true, laidLooks := .later }
def UtfStepsCardSaid : Prop := Claim7.holds Tryd.pinned (.plain (OpenSpec.ofChange utfStepsSpec)) utfStepsCard

/-- THE TIED CARD OF 'lurcherlaw01.UtfEdges'. -/
def utfEdgesCard : Claim7 := { stood := { row := utfEdgesRow, standIns := [], harness := (true, "e1956c867430f15ffcb9dd5af67efef1a605c8a08cb570874cd939f36aea3b23"), looks := false }, kinds := [], alts := [], laidByText := true, laidKinds := [.data, .data], laidTests := true, laidLooks := .later }
def UtfEdgesCardSaid : Prop := Claim7.holds Tryd.pinned (.plain (OpenSpec.ofChange utfEdgesSpec)) utfEdgesCard

/-- THE TIED CARD OF 'lurcherlaw01.UtfEncodes'. -/
def utfEncodesCard : Claim7 := { stood := { row := utfEncodesRow, standIns := [], harness := (true, "e1956c867430f15ffcb9dd5af67efef1a605c8a08cb570874cd939f36aea3b23"), looks := false }, kinds := [], alts := [], laidByText := true, laidKinds := [.data, .data], laidTests := true, laidLooks := .later }
def UtfEncodesCardSaid : Prop := Claim7.holds Tryd.pinned (.plain (OpenSpec.ofChange utfEncodesSpec)) utfEncodesCard

/-- THE TIED CARD OF 'lurcherlaw01.UtfBack'. -/
def utfBackCard : Claim7 := { stood := { row := utfBackRow, standIns := [], harness := (true, "e1956c867430f15ffcb9dd5af67efef1a605c8a08cb570874cd939f36aea3b23"), looks := false }, kinds := [], alts := [], laidByText := true, laidKinds := [.data, .data], laidTests := true, laidLooks := .later }
def UtfBackCardSaid : Prop := Claim7.holds Tryd.pinned (.plain (OpenSpec.ofChange utfBackSpec)) utfBackCard

/-- THE TIED CARD OF 'lurcherlaw01.UtfPoints'. -/
def utfPointsCard : Claim7 := { stood := { row := utfPointsRow, standIns := [], harness := (true, "e1956c867430f15ffcb9dd5af67efef1a605c8a08cb570874cd939f36aea3b23"), looks := false }, kinds := [], alts := [], laidByText := true, laidKinds := [.data, .data], laidTests := true, laidLooks := .later }
def UtfPointsCardSaid : Prop := Claim7.holds Tryd.pinned (.plain (OpenSpec.ofChange utfPointsSpec)) utfPointsCard

/-- THE TIED CARD OF 'lurcherlaw01.UtfAdds'. -/
def utfAddsCard : Claim7 := { stood := { row := utfAddsRow, standIns := [], harness := (true, "e1956c867430f15ffcb9dd5af67efef1a605c8a08cb570874cd939f36aea3b23"), looks := false }, kinds := [], alts := [], laidByText := true, laidKinds := [.data, .data], laidTests := true, laidLooks := .later }
def UtfAddsCardSaid : Prop := Claim7.holds Tryd.pinned (.plain (OpenSpec.ofChange utfAddsSpec)) utfAddsCard

/-- THE SECOND FORM's CARD OF 'lurcherlaw01.UtfValid'. -/
def utfValidUptoCard : Claim7 := { stood := { row := utfValidUptoRow, standIns := [], harness := (true, "e1956c867430f15ffcb9dd5af67efef1a605c8a08cb570874cd939f36aea3b23"), looks := false }, kinds := [], alts := [], laidByText := true, laidKinds := [.data, .data], laidTests := true, laidLooks := .later }
def UtfValidUptoCardSaid : Prop := Claim7.holds Tryd.pinned (.plain (OpenSpec.upto utfValidSpec)) utfValidUptoCard

/-- THE SECOND FORM's CARD OF 'lurcherlaw01.UtfSteps'. -/
def utfStepsUptoCard : Claim7 := { stood := { row := utfStepsUptoRow, standIns := [], harness := (true, "e1956c867430f15ffcb9dd5af67efef1a605c8a08cb570874cd939f36aea3b23"), looks := false }, kinds := [], alts := [], laidByText := true, laidKinds := [.data, .data], laidTests := true, laidLooks := .later }
def UtfStepsUptoCardSaid : Prop := Claim7.holds Tryd.pinned (.plain (OpenSpec.upto utfStepsSpec)) utfStepsUptoCard

/-- THE SECOND FORM's CARD OF 'lurcherlaw01.UtfEdges'. -/
def utfEdgesUptoCard : Claim7 := { stood := { row := utfEdgesUptoRow, standIns := [], harness := (true, "e1956c867430f15ffcb9dd5af67efef1a605c8a08cb570874cd939f36aea3b23"), looks := false }, kinds := [], alts := [], laidByText := true, laidKinds := [.data, .data], laidTests := true, laidLooks := .later }
def UtfEdgesUptoCardSaid : Prop := Claim7.holds Tryd.pinned (.plain (OpenSpec.upto utfEdgesSpec)) utfEdgesUptoCard

/-- THE SECOND FORM's CARD OF 'lurcherlaw01.UtfEncodes'. -/
def utfEncodesUptoCard : Claim7 := { stood := { row := utfEncodesUptoRow, standIns := [], harness := (true, "e1956c867430f15ffcb9dd5af67efef1a605c8a08cb570874cd939f36aea3b23"), looks := false }, kinds := [], alts := [], laidByText := true, laidKinds := [.data, .data], laidTests := true, laidLooks := .later }
def UtfEncodesUptoCardSaid : Prop := Claim7.holds Tryd.pinned (.plain (OpenSpec.upto utfEncodesSpec)) utfEncodesUptoCard

/-- THE SECOND FORM's CARD OF 'lurcherlaw01.UtfBack'. -/
def utfBackUptoCard : Claim7 := { stood := { row := utfBackUptoRow, standIns := [], harness := (true, "e1956c867430f15ffcb9dd5af67efef1a605c8a08cb570874cd939f36aea3b23"), looks := false }, kinds := [], alts := [], laidByText := true, laidKinds := [.data, .data], laidTests := true, laidLooks := .later }
def UtfBackUptoCardSaid : Prop := Claim7.holds Tryd.pinned (.plain (OpenSpec.upto utfBackSpec)) utfBackUptoCard

/-- THE SECOND FORM's CARD OF 'lurcherlaw01.UtfPoints'. -/
def utfPointsUptoCard : Claim7 := { stood := { row := utfPointsUptoRow, standIns := [], harness := (true, "e1956c867430f15ffcb9dd5af67efef1a605c8a08cb570874cd939f36aea3b23"), looks := false }, kinds := [], alts := [], laidByText := true, laidKinds := [.data, .data], laidTests := true, laidLooks := .later }
def UtfPointsUptoCardSaid : Prop := Claim7.holds Tryd.pinned (.plain (OpenSpec.upto utfPointsSpec)) utfPointsUptoCard

/-- THE SECOND FORM's CARD OF 'lurcherlaw01.UtfAdds'. -/
def utfAddsUptoCard : Claim7 := { stood := { row := utfAddsUptoRow, standIns := [], harness := (true, "e1956c867430f15ffcb9dd5af67efef1a605c8a08cb570874cd939f36aea3b23"), looks := false }, kinds := [], alts := [], laidByText := true, laidKinds := [.data, .data], laidTests := true, laidLooks := .later }
def UtfAddsUptoCardSaid : Prop := Claim7.holds Tryd.pinned (.plain (OpenSpec.upto utfAddsSpec)) utfAddsUptoCard
end Rows
end Go.Proofs.YtmphapcogmjgnaaDoor

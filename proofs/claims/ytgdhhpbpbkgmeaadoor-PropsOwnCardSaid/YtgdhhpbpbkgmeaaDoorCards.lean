/-
  DERIVED. GIVEN WITH THE SEED: THE CARDS: each row of YtgdhhpbpbkgmeaaDoorRows.lean that lists a variable, with what it lists TIED to the program's text (the seventh form; the later family's looks); each row that meets fmt, with fmt's text TOLD by the authors' own Lean function (tested against real Go, not proved from fmt's source: count such statements apart). THE CARD IS WHAT COUNTS. Prove the row's statement (the work); the ties are given (YtgdhhpbpbkgmeaaDoorTie.lean); close each card by the builder's one call (the guide's Derived/Test/ToyasCard.lean, 'card_holds'). Laid BY PROGRAM, IN A SANDBOX (cutbox-door.mjs). By AI agents, Wed Nov 11 2026. No macro, syntax, notation, axiom, sorry.
-/
import Derived.Test.YtgdhhpbpbkgmeaaDoorRows
import GoSem.ClaimSeven
namespace Go.Proofs.YtgdhhpbpbkgmeaaDoor
namespace Rows

/-- THE TIED CARD OF 'lurcherlaw03.SetsMakes'. -/
def setsMakesCard : Claim7 := { stood := { row := setsMakesRow, standIns := [], harness := (true, "bb350e4fc39f140b938792de5172017ed024ec083a67a1fd889e57f4a82178f8"), looks := false }, kinds := [], alts := [], laidByText := true, laidKinds := [.data], laidTests := true, laidLooks := .later }
def SetsMakesCardSaid : Prop := Claim7.holds Tryd.pinned (.plain (OpenSpec.ofChange setsMakesSpec)) setsMakesCard

/-- THE TIED CARD OF 'lurcherlaw03.SetsJoins'. -/
def setsJoinsCard : Claim7 := { stood := { row := setsJoinsRow, standIns := [], harness := (true, "bb350e4fc39f140b938792de5172017ed024ec083a67a1fd889e57f4a82178f8"), looks := false }, kinds := [], alts := [], laidByText := true, laidKinds := [.data], laidTests := true, laidLooks := .later }
def SetsJoinsCardSaid : Prop := Claim7.holds Tryd.pinned (.plain (OpenSpec.ofChange setsJoinsSpec)) setsJoinsCard

/-- THE TIED CARD OF 'lurcherlaw03.SetsCases'. -/
def setsCasesCard : Claim7 := { stood := { row := setsCasesRow, standIns := [], harness := (true, "bb350e4fc39f140b938792de5172017ed024ec083a67a1fd889e57f4a82178f8"), looks := false }, kinds := [], alts := [], laidByText := true, laidKinds := [.data], laidTests := true, laidLooks := .later }
def SetsCasesCardSaid : Prop := Claim7.holds Tryd.pinned (.plain (OpenSpec.ofChange setsCasesSpec)) setsCasesCard

/-- THE TIED CARD OF 'lurcherlaw04.PropsPosix'. -/
def propsPosixCard : Claim7 := { stood := { row := propsPosixRow, standIns := [], harness := (true, "bb350e4fc39f140b938792de5172017ed024ec083a67a1fd889e57f4a82178f8"), looks := false }, kinds := [], alts := [], laidByText := true, laidKinds := [.data], laidTests := true, laidLooks := .later }
def PropsPosixCardSaid : Prop := Claim7.holds Tryd.pinned (.plain (OpenSpec.ofChange propsPosixSpec)) propsPosixCard

/-- THE TIED CARD OF 'lurcherlaw04.PropsEscapes'. -/
def propsEscapesCard : Claim7 := { stood := { row := propsEscapesRow, standIns := [], harness := (true, "bb350e4fc39f140b938792de5172017ed024ec083a67a1fd889e57f4a82178f8"), looks := false }, kinds := [], alts := [], laidByText := true, laidKinds := [.data], laidTests := true, laidLooks := .later }
def PropsEscapesCardSaid : Prop := Claim7.holds Tryd.pinned (.plain (OpenSpec.ofChange propsEscapesSpec)) propsEscapesCard

/-- THE TIED CARD OF 'lurcherlaw04.PropsNames'. -/
def propsNamesCard : Claim7 := { stood := { row := propsNamesRow, standIns := [], harness := (true, "bb350e4fc39f140b938792de5172017ed024ec083a67a1fd889e57f4a82178f8"), looks := false }, kinds := [], alts := [], laidByText := true, laidKinds := [.data], laidTests := true, laidLooks := .later }
def PropsNamesCardSaid : Prop := Claim7.holds Tryd.pinned (.plain (OpenSpec.ofChange propsNamesSpec)) propsNamesCard

/-- THE TIED CARD OF 'lurcherlaw04.PropsOne'. -/
def propsOneCard : Claim7 := { stood := { row := propsOneRow, standIns := [], harness := (true, "bb350e4fc39f140b938792de5172017ed024ec083a67a1fd889e57f4a82178f8"), looks := false }, kinds := [], alts := [], laidByText := true, laidKinds := [.data], laidTests := true, laidLooks := .later }
def PropsOneCardSaid : Prop := Claim7.holds Tryd.pinned (.plain (OpenSpec.ofChange propsOneSpec)) propsOneCard

/-- THE TIED CARD OF 'lurcherlaw04.PropsOwn'. -/
def propsOwnCard : Claim7 := { stood := { row := propsOwnRow, standIns := [], harness := (true, "bb350e4fc39f140b938792de5172017ed024ec083a67a1fd889e57f4a82178f8"), looks := false }, kinds := [], alts := [], laidByText := true, laidKinds := [.data], laidTests := true, laidLooks := .later }
def PropsOwnCardSaid : Prop := Claim7.holds Tryd.pinned (.plain (OpenSpec.ofChange propsOwnSpec)) propsOwnCard

/-- THE TIED CARD OF 'lurcherlaw04.PropsParts'. -/
def propsPartsCard : Claim7 := { stood := { row := propsPartsRow, standIns := [], harness := (true, "bb350e4fc39f140b938792de5172017ed024ec083a67a1fd889e57f4a82178f8"), looks := false }, kinds := [], alts := [], laidByText := true, laidKinds := [.data], laidTests := true, laidLooks := .later }
def PropsPartsCardSaid : Prop := Claim7.holds Tryd.pinned (.plain (OpenSpec.ofChange propsPartsSpec)) propsPartsCard

/-- THE SECOND FORM's CARD OF 'lurcherlaw03.SetsMakes'. -/
def setsMakesUptoCard : Claim7 := { stood := { row := setsMakesUptoRow, standIns := [], harness := (true, "bb350e4fc39f140b938792de5172017ed024ec083a67a1fd889e57f4a82178f8"), looks := false }, kinds := [], alts := [], laidByText := true, laidKinds := [.data], laidTests := true, laidLooks := .later }
def SetsMakesUptoCardSaid : Prop := Claim7.holds Tryd.pinned (.plain (OpenSpec.upto setsMakesSpec)) setsMakesUptoCard

/-- THE SECOND FORM's CARD OF 'lurcherlaw03.SetsJoins'. -/
def setsJoinsUptoCard : Claim7 := { stood := { row := setsJoinsUptoRow, standIns := [], harness := (true, "bb350e4fc39f140b938792de5172017ed024ec083a67a1fd889e57f4a82178f8"), looks := false }, kinds := [], alts := [], laidByText := true, laidKinds := [.data], laidTests := true, laidLooks := .later }
def SetsJoinsUptoCardSaid : Prop := Claim7.holds Tryd.pinned (.plain (OpenSpec.upto setsJoinsSpec)) setsJoinsUptoCard

/-- THE SECOND FORM's CARD OF 'lurcherlaw03.SetsCases'. -/
def setsCasesUptoCard : Claim7 := { stood := { row := setsCasesUptoRow, standIns := [], harness := (true, "bb350e4fc39f140b938792de5172017ed024ec083a67a1fd889e57f4a82178f8"), looks := false }, kinds := [], alts := [], laidByText := true, laidKinds := [.data], laidTests := true, laidLooks := .later }
def SetsCasesUptoCardSaid : Prop := Claim7.holds Tryd.pinned (.plain (OpenSpec.upto setsCasesSpec)) setsCasesUptoCard

/-- THE SECOND FORM's CARD OF 'lurcherlaw04.PropsPosix'. -/
def propsPosixUptoCard : Claim7 := { stood := { row := propsPosixUptoRow, standIns := [], harness := (true, "bb350e4fc39f140b938792de5172017ed024ec083a67a1fd889e57f4a82178f8"), looks := false }, kinds := [], alts := [], laidByText := true, laidKinds := [.data], laidTests := true, laidLooks := .later }
def PropsPosixUptoCardSaid : Prop := Claim7.holds Tryd.pinned (.plain (OpenSpec.upto propsPosixSpec)) propsPosixUptoCard

/-- THE SECOND FORM's CARD OF 'lurcherlaw04.PropsEscapes'. -/
def propsEscapesUptoCard : Claim7 := { stood := { row := propsEscapesUptoRow, standIns := [], harness := (true, "bb350e4fc39f140b938792de5172017ed024ec083a67a1fd889e57f4a82178f8"), looks := false }, kinds := [], alts := [], laidByText := true, laidKinds := [.data], laidTests := true, laidLooks := .later }
def PropsEscapesUptoCardSaid : Prop := Claim7.holds Tryd.pinned (.plain (OpenSpec.upto propsEscapesSpec)) propsEscapesUptoCard

/-- THE SECOND FORM's CARD OF 'lurcherlaw04.PropsNames'. -/
def propsNamesUptoCard : Claim7 := { stood := { row := propsNamesUptoRow, standIns := [], harness := (true, "bb350e4fc39f140b938792de5172017ed024ec083a67a1fd889e57f4a82178f8"), looks := false }, kinds := [], alts := [], laidByText := true, laidKinds := [.data], laidTests := true, laidLooks := .later }
def PropsNamesUptoCardSaid : Prop := Claim7.holds Tryd.pinned (.plain (OpenSpec.upto propsNamesSpec)) propsNamesUptoCard

/-- THE SECOND FORM's CARD OF 'lurcherlaw04.PropsOne'. -/
def propsOneUptoCard : Claim7 := { stood := { row := propsOneUptoRow, standIns := [], harness := (true, "bb350e4fc39f140b938792de5172017ed024ec083a67a1fd889e57f4a82178f8"), looks := false }, kinds := [], alts := [], laidByText := true, laidKinds := [.data], laidTests := true, laidLooks := .later }
def PropsOneUptoCardSaid : Prop := Claim7.holds Tryd.pinned (.plain (OpenSpec.upto propsOneSpec)) propsOneUptoCard

/-- THE SECOND FORM's CARD OF 'lurcherlaw04.PropsOwn'. -/
def propsOwnUptoCard : Claim7 := { stood := { row := propsOwnUptoRow, standIns := [], harness := (true, "bb350e4fc39f140b938792de5172017ed024ec083a67a1fd889e57f4a82178f8"), looks := false }, kinds := [], alts := [], laidByText := true, laidKinds := [.data], laidTests := true, laidLooks := .later }
def PropsOwnUptoCardSaid : Prop := Claim7.holds Tryd.pinned (.plain (OpenSpec.upto propsOwnSpec)) propsOwnUptoCard

/-- THE SECOND FORM's CARD OF 'lurcherlaw04.PropsParts'. -/
def propsPartsUptoCard : Claim7 := { stood := { row := propsPartsUptoRow, standIns := [], harness := (true, "bb350e4fc39f140b938792de5172017ed024ec083a67a1fd889e57f4a82178f8"), looks := false }, kinds := [], alts := [], laidByText := true, laidKinds := [.data], laidTests := true, laidLooks := .later }
def PropsPartsUptoCardSaid : Prop := Claim7.holds Tryd.pinned (.plain (OpenSpec.upto propsPartsSpec)) propsPartsUptoCard
end Rows
end Go.Proofs.YtgdhhpbpbkgmeaaDoor

/-
  DERIVED. GIVEN WITH THE SEED: THE CARDS: each row of YtemdleocdllmfaaDoorRows.lean that lists a variable, with what it lists TIED to the program's text (the seventh form; the later family's looks); each row that meets fmt, with fmt's text TOLD by the authors' own Lean function (tested against real Go, not proved from fmt's source: count such statements apart). THE CARD IS WHAT COUNTS. Prove the row's statement (the work); the ties are given (YtemdleocdllmfaaDoorTie.lean); close each card by the builder's one call (the guide's Derived/Test/ToyasCard.lean, 'card_holds'). Laid BY PROGRAM, IN A SANDBOX (cutbox-door.mjs). By AI agents, Wed Nov 11 2026. No macro, syntax, notation, axiom, sorry.
-/
import Derived.Test.YtemdleocdllmfaaDoorRows
import GoSem.ClaimSeven
namespace Go.Proofs.YtemdleocdllmfaaDoor
namespace Rows

/-- THE TIED CARD OF 'lurcherlaw03.SetsMakes'. -/
def setsMakesCard : Claim7 := { stood := { row := setsMakesRow, standIns := [], harness := (true, "74acdd2d2ad1b5c5817ee0afd6d8fc6f8c1b2add0ae103df107dd1b16859aec3"), looks := false }, kinds := [], alts := [], laidByText := true, laidKinds := [.data], laidTests := true, laidLooks := .later }
def SetsMakesCardSaid : Prop := Claim7.holds Tryd.pinned (.plain (OpenSpec.ofChange setsMakesSpec)) setsMakesCard

/-- THE TIED CARD OF 'lurcherlaw03.SetsJoins'. -/
def setsJoinsCard : Claim7 := { stood := { row := setsJoinsRow, standIns := [], harness := (true, "74acdd2d2ad1b5c5817ee0afd6d8fc6f8c1b2add0ae103df107dd1b16859aec3"), looks := false }, kinds := [], alts := [], laidByText := true, laidKinds := [.data], laidTests := true, laidLooks := .later }
def SetsJoinsCardSaid : Prop := Claim7.holds Tryd.pinned (.plain (OpenSpec.ofChange setsJoinsSpec)) setsJoinsCard

/-- THE TIED CARD OF 'lurcherlaw03.SetsCases'. -/
def setsCasesCard : Claim7 := { stood := { row := setsCasesRow, standIns := [], harness := (true, "74acdd2d2ad1b5c5817ee0afd6d8fc6f8c1b2add0ae103df107dd1b16859aec3"), looks := false }, kinds := [], alts := [], laidByText := true, laidKinds := [.data], laidTests := true, laidLooks := .later }
def SetsCasesCardSaid : Prop := Claim7.holds Tryd.pinned (.plain (OpenSpec.ofChange setsCasesSpec)) setsCasesCard

/-- THE TIED CARD OF 'lurcherlaw03.SetsLaws'. -/
def setsLawsCard : Claim7 := { stood := { row := setsLawsRow, standIns := [], harness := (true, "74acdd2d2ad1b5c5817ee0afd6d8fc6f8c1b2add0ae103df107dd1b16859aec3"), looks := false }, kinds := [], alts := [], laidByText := true, laidKinds := [.data], laidTests := true, laidLooks := .later }
def SetsLawsCardSaid : Prop := Claim7.holds Tryd.pinned (.plain (OpenSpec.ofChange setsLawsSpec)) setsLawsCard

/-- THE TIED CARD OF 'lurcherlaw03.SetsFew'. -/
def setsFewCard : Claim7 := { stood := { row := setsFewRow, standIns := [], harness := (true, "74acdd2d2ad1b5c5817ee0afd6d8fc6f8c1b2add0ae103df107dd1b16859aec3"), looks := false }, kinds := [], alts := [], laidByText := true, laidKinds := [.data], laidTests := true, laidLooks := .later }
def SetsFewCardSaid : Prop := Claim7.holds Tryd.pinned (.plain (OpenSpec.ofChange setsFewSpec)) setsFewCard

/-- THE TIED CARD OF 'lurcherlaw03.SetsHas'. -/
def setsHasCard : Claim7 := { stood := { row := setsHasRow, standIns := [], harness := (true, "74acdd2d2ad1b5c5817ee0afd6d8fc6f8c1b2add0ae103df107dd1b16859aec3"), looks := false }, kinds := [], alts := [], laidByText := true, laidKinds := [.data], laidTests := true, laidLooks := .later }
def SetsHasCardSaid : Prop := Claim7.holds Tryd.pinned (.plain (OpenSpec.ofChange setsHasSpec)) setsHasCard

/-- THE TIED CARD OF 'lurcherlaw03.SetsParts'. -/
def setsPartsCard : Claim7 := { stood := { row := setsPartsRow, standIns := [], harness := (true, "74acdd2d2ad1b5c5817ee0afd6d8fc6f8c1b2add0ae103df107dd1b16859aec3"), looks := false }, kinds := [], alts := [], laidByText := true, laidKinds := [.data], laidTests := true, laidLooks := .later }
def SetsPartsCardSaid : Prop := Claim7.holds Tryd.pinned (.plain (OpenSpec.ofChange setsPartsSpec)) setsPartsCard

/-- THE SECOND FORM's CARD OF 'lurcherlaw03.SetsMakes'. -/
def setsMakesUptoCard : Claim7 := { stood := { row := setsMakesUptoRow, standIns := [], harness := (true, "74acdd2d2ad1b5c5817ee0afd6d8fc6f8c1b2add0ae103df107dd1b16859aec3"), looks := false }, kinds := [], alts := [], laidByText := true, laidKinds := [.data], laidTests := true, laidLooks := .later }
def SetsMakesUptoCardSaid : Prop := Claim7.holds Tryd.pinned (.plain (OpenSpec.upto setsMakesSpec)) setsMakesUptoCard

/-- THE SECOND FORM's CARD OF 'lurcherlaw03.SetsJoins'. -/
def setsJoinsUptoCard : Claim7 := { stood := { row := setsJoinsUptoRow, standIns := [], harness := (true, "74acdd2d2ad1b5c5817ee0afd6d8fc6f8c1b2add0ae103df107dd1b16859aec3"), looks := false }, kinds := [], alts := [], laidByText := true, laidKinds := [.data], laidTests := true, laidLooks := .later }
def SetsJoinsUptoCardSaid : Prop := Claim7.holds Tryd.pinned (.plain (OpenSpec.upto setsJoinsSpec)) setsJoinsUptoCard

/-- THE SECOND FORM's CARD OF 'lurcherlaw03.SetsCases'. -/
def setsCasesUptoCard : Claim7 := { stood := { row := setsCasesUptoRow, standIns := [], harness := (true, "74acdd2d2ad1b5c5817ee0afd6d8fc6f8c1b2add0ae103df107dd1b16859aec3"), looks := false }, kinds := [], alts := [], laidByText := true, laidKinds := [.data], laidTests := true, laidLooks := .later }
def SetsCasesUptoCardSaid : Prop := Claim7.holds Tryd.pinned (.plain (OpenSpec.upto setsCasesSpec)) setsCasesUptoCard

/-- THE SECOND FORM's CARD OF 'lurcherlaw03.SetsLaws'. -/
def setsLawsUptoCard : Claim7 := { stood := { row := setsLawsUptoRow, standIns := [], harness := (true, "74acdd2d2ad1b5c5817ee0afd6d8fc6f8c1b2add0ae103df107dd1b16859aec3"), looks := false }, kinds := [], alts := [], laidByText := true, laidKinds := [.data], laidTests := true, laidLooks := .later }
def SetsLawsUptoCardSaid : Prop := Claim7.holds Tryd.pinned (.plain (OpenSpec.upto setsLawsSpec)) setsLawsUptoCard

/-- THE SECOND FORM's CARD OF 'lurcherlaw03.SetsFew'. -/
def setsFewUptoCard : Claim7 := { stood := { row := setsFewUptoRow, standIns := [], harness := (true, "74acdd2d2ad1b5c5817ee0afd6d8fc6f8c1b2add0ae103df107dd1b16859aec3"), looks := false }, kinds := [], alts := [], laidByText := true, laidKinds := [.data], laidTests := true, laidLooks := .later }
def SetsFewUptoCardSaid : Prop := Claim7.holds Tryd.pinned (.plain (OpenSpec.upto setsFewSpec)) setsFewUptoCard

/-- THE SECOND FORM's CARD OF 'lurcherlaw03.SetsHas'. -/
def setsHasUptoCard : Claim7 := { stood := { row := setsHasUptoRow, standIns := [], harness := (true, "74acdd2d2ad1b5c5817ee0afd6d8fc6f8c1b2add0ae103df107dd1b16859aec3"), looks := false }, kinds := [], alts := [], laidByText := true, laidKinds := [.data], laidTests := true, laidLooks := .later }
def SetsHasUptoCardSaid : Prop := Claim7.holds Tryd.pinned (.plain (OpenSpec.upto setsHasSpec)) setsHasUptoCard

/-- THE SECOND FORM's CARD OF 'lurcherlaw03.SetsParts'. -/
def setsPartsUptoCard : Claim7 := { stood := { row := setsPartsUptoRow, standIns := [], harness := (true, "74acdd2d2ad1b5c5817ee0afd6d8fc6f8c1b2add0ae103df107dd1b16859aec3"), looks := false }, kinds := [], alts := [], laidByText := true, laidKinds := [.data], laidTests := true, laidLooks := .later }
def SetsPartsUptoCardSaid : Prop := Claim7.holds Tryd.pinned (.plain (OpenSpec.upto setsPartsSpec)) setsPartsUptoCard
end Rows
end Go.Proofs.YtemdleocdllmfaaDoor

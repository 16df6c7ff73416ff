/-
  DERIVED. GIVEN WITH THE SEED: THE CARDS: each row of YtnmppacgjjkpcaaDoorRows.lean that lists a variable, with what it lists TIED to the program's text (the seventh form; the later family's looks); each row that meets fmt, with fmt's text TOLD by the authors' own Lean function (tested against real Go, not proved from fmt's source: count such statements apart). THE CARD IS WHAT COUNTS. Prove the row's statement (the work); the ties are given (YtnmppacgjjkpcaaDoorTie.lean); close each card by the builder's one call (the guide's Derived/Test/ToyasCard.lean, 'card_holds'). Laid BY PROGRAM, IN A SANDBOX (cutbox-door.mjs). By AI agents, Wed Nov 11 2026. No macro, syntax, notation, axiom, sorry.
-/
import Derived.Test.YtnmppacgjjkpcaaDoorRows
import GoSem.ClaimSeven
namespace Go.Proofs.YtnmppacgjjkpcaaDoor
namespace Rows

/-- THE TIED CARD OF 'lurcherlaw02.UcdSays'. -/
def ucdSaysCard : Claim7 := { stood := { row := ucdSaysRow, standIns := [], harness := (true, "07e34e7a12ffad7c95ad0fe9951308b41fbaacf49dae4594a0f0349a2c109510"), looks := false }, kinds := [], alts := [], laidByText := true, laidKinds := [.data], laidTests := true, laidLooks := .later }
def UcdSaysCardSaid : Prop := Claim7.holds Tryd.pinned (.plain (OpenSpec.ofChange ucdSaysSpec)) ucdSaysCard

/-- THE TIED CARD OF 'lurcherlaw02.UcdRows'. -/
def ucdRowsCard : Claim7 := { stood := { row := ucdRowsRow, standIns := [], harness := (true, "07e34e7a12ffad7c95ad0fe9951308b41fbaacf49dae4594a0f0349a2c109510"), looks := false }, kinds := [], alts := [], laidByText := true, laidKinds := [.data], laidTests := true, laidLooks := .later }
def UcdRowsCardSaid : Prop := Claim7.holds Tryd.pinned (.plain (OpenSpec.ofChange ucdRowsSpec)) ucdRowsCard

/-- THE TIED CARD OF 'lurcherlaw02.UcdTurns'. -/
def ucdTurnsCard : Claim7 := { stood := { row := ucdTurnsRow, standIns := [], harness := (true, "07e34e7a12ffad7c95ad0fe9951308b41fbaacf49dae4594a0f0349a2c109510"), looks := false }, kinds := [], alts := [], laidByText := true, laidKinds := [.data], laidTests := true, laidLooks := .later }
def UcdTurnsCardSaid : Prop := Claim7.holds Tryd.pinned (.plain (OpenSpec.ofChange ucdTurnsSpec)) ucdTurnsCard

/-- THE TIED CARD OF 'lurcherlaw02.UcdLetters'. -/
def ucdLettersCard : Claim7 := { stood := { row := ucdLettersRow, standIns := [], harness := (true, "07e34e7a12ffad7c95ad0fe9951308b41fbaacf49dae4594a0f0349a2c109510"), looks := false }, kinds := [], alts := [], laidByText := true, laidKinds := [.data], laidTests := true, laidLooks := .later }
def UcdLettersCardSaid : Prop := Claim7.holds Tryd.pinned (.plain (OpenSpec.ofChange ucdLettersSpec)) ucdLettersCard

/-- THE TIED CARD OF 'lurcherlaw02.UcdAscii'. -/
def ucdAsciiCard : Claim7 := { stood := { row := ucdAsciiRow, standIns := [], harness := (true, "07e34e7a12ffad7c95ad0fe9951308b41fbaacf49dae4594a0f0349a2c109510"), looks := false }, kinds := [], alts := [], laidByText := true, laidKinds := [.data], laidTests := true, laidLooks := .later }
def UcdAsciiCardSaid : Prop := Claim7.holds Tryd.pinned (.plain (OpenSpec.ofChange ucdAsciiSpec)) ucdAsciiCard

/-- THE TIED CARD OF 'lurcherlaw02.UcdBeyond'. -/
def ucdBeyondCard : Claim7 := { stood := { row := ucdBeyondRow, standIns := [], harness := (true, "07e34e7a12ffad7c95ad0fe9951308b41fbaacf49dae4594a0f0349a2c109510"), looks := false }, kinds := [], alts := [], laidByText := true, laidKinds := [.data], laidTests := true, laidLooks := .later }
def UcdBeyondCardSaid : Prop := Claim7.holds Tryd.pinned (.plain (OpenSpec.ofChange ucdBeyondSpec)) ucdBeyondCard

/-- THE SECOND FORM's CARD OF 'lurcherlaw02.UcdSays'. -/
def ucdSaysUptoCard : Claim7 := { stood := { row := ucdSaysUptoRow, standIns := [], harness := (true, "07e34e7a12ffad7c95ad0fe9951308b41fbaacf49dae4594a0f0349a2c109510"), looks := false }, kinds := [], alts := [], laidByText := true, laidKinds := [.data], laidTests := true, laidLooks := .later }
def UcdSaysUptoCardSaid : Prop := Claim7.holds Tryd.pinned (.plain (OpenSpec.upto ucdSaysSpec)) ucdSaysUptoCard

/-- THE SECOND FORM's CARD OF 'lurcherlaw02.UcdRows'. -/
def ucdRowsUptoCard : Claim7 := { stood := { row := ucdRowsUptoRow, standIns := [], harness := (true, "07e34e7a12ffad7c95ad0fe9951308b41fbaacf49dae4594a0f0349a2c109510"), looks := false }, kinds := [], alts := [], laidByText := true, laidKinds := [.data], laidTests := true, laidLooks := .later }
def UcdRowsUptoCardSaid : Prop := Claim7.holds Tryd.pinned (.plain (OpenSpec.upto ucdRowsSpec)) ucdRowsUptoCard

/-- THE SECOND FORM's CARD OF 'lurcherlaw02.UcdTurns'. -/
def ucdTurnsUptoCard : Claim7 := { stood := { row := ucdTurnsUptoRow, standIns := [], harness := (true, "07e34e7a12ffad7c95ad0fe9951308b41fbaacf49dae4594a0f0349a2c109510"), looks := false }, kinds := [], alts := [], laidByText := true, laidKinds := [.data], laidTests := true, laidLooks := .later }
def UcdTurnsUptoCardSaid : Prop := Claim7.holds Tryd.pinned (.plain (OpenSpec.upto ucdTurnsSpec)) ucdTurnsUptoCard

/-- THE SECOND FORM's CARD OF 'lurcherlaw02.UcdLetters'. -/
def ucdLettersUptoCard : Claim7 := { stood := { row := ucdLettersUptoRow, standIns := [], harness := (true, "07e34e7a12ffad7c95ad0fe9951308b41fbaacf49dae4594a0f0349a2c109510"), looks := false }, kinds := [], alts := [], laidByText := true, laidKinds := [.data], laidTests := true, laidLooks := .later }
def UcdLettersUptoCardSaid : Prop := Claim7.holds Tryd.pinned (.plain (OpenSpec.upto ucdLettersSpec)) ucdLettersUptoCard

/-- THE SECOND FORM's CARD OF 'lurcherlaw02.UcdAscii'. -/
def ucdAsciiUptoCard : Claim7 := { stood := { row := ucdAsciiUptoRow, standIns := [], harness := (true, "07e34e7a12ffad7c95ad0fe9951308b41fbaacf49dae4594a0f0349a2c109510"), looks := false }, kinds := [], alts := [], laidByText := true, laidKinds := [.data], laidTests := true, laidLooks := .later }
def UcdAsciiUptoCardSaid : Prop := Claim7.holds Tryd.pinned (.plain (OpenSpec.upto ucdAsciiSpec)) ucdAsciiUptoCard

/-- THE SECOND FORM's CARD OF 'lurcherlaw02.UcdBeyond'. -/
def ucdBeyondUptoCard : Claim7 := { stood := { row := ucdBeyondUptoRow, standIns := [], harness := (true, "07e34e7a12ffad7c95ad0fe9951308b41fbaacf49dae4594a0f0349a2c109510"), looks := false }, kinds := [], alts := [], laidByText := true, laidKinds := [.data], laidTests := true, laidLooks := .later }
def UcdBeyondUptoCardSaid : Prop := Claim7.holds Tryd.pinned (.plain (OpenSpec.upto ucdBeyondSpec)) ucdBeyondUptoCard
end Rows
end Go.Proofs.YtnmppacgjjkpcaaDoor

/-
  DERIVED. GIVEN WITH THE SEED: THE CARDS: each row of YtkcmjcgjfjfimaaGreatDoorRows.lean that lists a variable, with what it lists TIED to the program's text (the seventh form; the later family's looks); each row that meets fmt, with fmt's text TOLD by the authors' own Lean function (tested against real Go, not proved from fmt's source: count such statements apart). THE CARD IS WHAT COUNTS. Prove the row's statement (the work); the ties are given (YtkcmjcgjfjfimaaGreatDoorTie.lean); close each card by the builder's one call (the guide's Derived/Test/ToyasCard.lean, 'card_holds'). Laid BY PROGRAM, IN A SANDBOX (cutbox-door.mjs). By AI agents, Wed Nov 11 2026. No macro, syntax, notation, axiom, sorry.
-/
import Derived.Test.YtkcmjcgjfjfimaaGreatDoorRows
import GoSem.ClaimSeven
namespace Go.Proofs.YtkcmjcgjfjfimaaGreatDoor
namespace Rows

/-- THE TIED CARD OF 'lurcherlaw05.TokensQuote'. -/
def tokensQuoteCard : Claim7 := { stood := { row := tokensQuoteRow, standIns := [], harness := (true, "59a27ad9bd83f62ecdc37cc30d9ca73177d26ea4337adae80da39eb8930ac27b"), looks := true }, kinds := [], alts := [], laidByText := true, laidKinds := [.data, .data, .data, .sentinel, .sentinel, .data, .data, .data, .data, .data, .data, .data], laidTests := true, laidLooks := .later }
def TokensQuoteCardSaid : Prop := Claim7.holds Tryz.pinned (.plain (OpenSpec.ofChange tokensQuoteSpec)) tokensQuoteCard

/-- THE TIED CARD OF 'lurcherlaw05.TokensBlank'. -/
def tokensBlankCard : Claim7 := { stood := { row := tokensBlankRow, standIns := [], harness := (true, "59a27ad9bd83f62ecdc37cc30d9ca73177d26ea4337adae80da39eb8930ac27b"), looks := true }, kinds := [], alts := [], laidByText := true, laidKinds := [.data, .data, .data, .sentinel, .sentinel, .data, .data, .data, .data, .data, .data, .data], laidTests := true, laidLooks := .later }
def TokensBlankCardSaid : Prop := Claim7.holds Tryz.pinned (.plain (OpenSpec.ofChange tokensBlankSpec)) tokensBlankCard

/-- THE TIED CARD OF 'lurcherlaw05.TokensSays'. -/
def tokensSaysCard : Claim7 := { stood := { row := tokensSaysRow, standIns := [], harness := (true, "59a27ad9bd83f62ecdc37cc30d9ca73177d26ea4337adae80da39eb8930ac27b"), looks := true }, kinds := [], alts := [], laidByText := true, laidKinds := [.data, .data, .data, .sentinel, .sentinel, .data, .data, .data, .data, .data, .data, .data], laidTests := true, laidLooks := .later }
def TokensSaysCardSaid : Prop := Claim7.holds Tryz.pinned (.plain (OpenSpec.ofChange tokensSaysSpec)) tokensSaysCard

/-- THE SECOND FORM's CARD OF 'lurcherlaw05.TokensQuote'. -/
def tokensQuoteUptoCard : Claim7 := { stood := { row := tokensQuoteUptoRow, standIns := [], harness := (true, "59a27ad9bd83f62ecdc37cc30d9ca73177d26ea4337adae80da39eb8930ac27b"), looks := true }, kinds := [], alts := [], laidByText := true, laidKinds := [.data, .data, .data, .sentinel, .sentinel, .data, .data, .data, .data, .data, .data, .data], laidTests := true, laidLooks := .later }
def TokensQuoteUptoCardSaid : Prop := Claim7.holds Tryz.pinned (.plain (OpenSpec.upto tokensQuoteSpec)) tokensQuoteUptoCard

/-- THE SECOND FORM's CARD OF 'lurcherlaw05.TokensBlank'. -/
def tokensBlankUptoCard : Claim7 := { stood := { row := tokensBlankUptoRow, standIns := [], harness := (true, "59a27ad9bd83f62ecdc37cc30d9ca73177d26ea4337adae80da39eb8930ac27b"), looks := true }, kinds := [], alts := [], laidByText := true, laidKinds := [.data, .data, .data, .sentinel, .sentinel, .data, .data, .data, .data, .data, .data, .data], laidTests := true, laidLooks := .later }
def TokensBlankUptoCardSaid : Prop := Claim7.holds Tryz.pinned (.plain (OpenSpec.upto tokensBlankSpec)) tokensBlankUptoCard

/-- THE SECOND FORM's CARD OF 'lurcherlaw05.TokensSays'. -/
def tokensSaysUptoCard : Claim7 := { stood := { row := tokensSaysUptoRow, standIns := [], harness := (true, "59a27ad9bd83f62ecdc37cc30d9ca73177d26ea4337adae80da39eb8930ac27b"), looks := true }, kinds := [], alts := [], laidByText := true, laidKinds := [.data, .data, .data, .sentinel, .sentinel, .data, .data, .data, .data, .data, .data, .data], laidTests := true, laidLooks := .later }
def TokensSaysUptoCardSaid : Prop := Claim7.holds Tryz.pinned (.plain (OpenSpec.upto tokensSaysSpec)) tokensSaysUptoCard
end Rows
end Go.Proofs.YtkcmjcgjfjfimaaGreatDoor

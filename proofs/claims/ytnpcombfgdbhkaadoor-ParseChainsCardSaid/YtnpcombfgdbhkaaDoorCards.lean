/-
  DERIVED. GIVEN WITH THE SEED: THE CARDS: each row of YtnpcombfgdbhkaaDoorRows.lean that lists a variable, with what it lists TIED to the program's text (the seventh form; the later family's looks); each row that meets fmt, with fmt's text TOLD by the authors' own Lean function (tested against real Go, not proved from fmt's source: count such statements apart). THE CARD IS WHAT COUNTS. Prove the row's statement (the work); the ties are given (YtnpcombfgdbhkaaDoorTie.lean); close each card by the builder's one call (the guide's Derived/Test/ToyasCard.lean, 'card_holds'). Laid BY PROGRAM, IN A SANDBOX (cutbox-door.mjs). By AI agents, Wed Nov 11 2026. No macro, syntax, notation, axiom, sorry.
-/
import Derived.Test.YtnpcombfgdbhkaaDoorRows
import GoSem.ClaimSeven
namespace Go.Proofs.YtnpcombfgdbhkaaDoor
namespace Rows

/-- THE TIED CARD OF 'lurcherlaw07.ParseSays'. -/
def parseSaysCard : Claim7 := { stood := { row := parseSaysRow, standIns := [], harness := (true, "30b8a63302f023fe7e8c90bc84ff58dd2b34434e352535a31c6fbf7081cfcee1"), looks := false }, kinds := [], alts := [], laidByText := true, laidKinds := [.data, .data], laidTests := true, laidLooks := .later }
def ParseSaysCardSaid : Prop := Claim7.holds Tryd.pinned (.plain (OpenSpec.ofChange parseSaysSpec)) parseSaysCard

/-- THE TIED CARD OF 'lurcherlaw07.ParseMay'. -/
def parseMayCard : Claim7 := { stood := { row := parseMayRow, standIns := [], harness := (true, "30b8a63302f023fe7e8c90bc84ff58dd2b34434e352535a31c6fbf7081cfcee1"), looks := false }, kinds := [], alts := [], laidByText := true, laidKinds := [.data, .data], laidTests := true, laidLooks := .later }
def ParseMayCardSaid : Prop := Claim7.holds Tryd.pinned (.plain (OpenSpec.ofChange parseMaySpec)) parseMayCard

/-- THE TIED CARD OF 'lurcherlaw07.ParseWithin'. -/
def parseWithinCard : Claim7 := { stood := { row := parseWithinRow, standIns := [], harness := (true, "30b8a63302f023fe7e8c90bc84ff58dd2b34434e352535a31c6fbf7081cfcee1"), looks := false }, kinds := [], alts := [], laidByText := true, laidKinds := [.data, .data], laidTests := true, laidLooks := .later }
def ParseWithinCardSaid : Prop := Claim7.holds Tryd.pinned (.plain (OpenSpec.ofChange parseWithinSpec)) parseWithinCard

/-- THE TIED CARD OF 'lurcherlaw07.ParseDeep'. -/
def parseDeepCard : Claim7 := { stood := { row := parseDeepRow, standIns := [], harness := (true, "30b8a63302f023fe7e8c90bc84ff58dd2b34434e352535a31c6fbf7081cfcee1"), looks := false }, kinds := [], alts := [], laidByText := true, laidKinds := [.data, .data], laidTests := true, laidLooks := .later }
def ParseDeepCardSaid : Prop := Claim7.holds Tryd.pinned (.plain (OpenSpec.ofChange parseDeepSpec)) parseDeepCard

/-- THE TIED CARD OF 'lurcherlaw07.ParseJoins'. -/
def parseJoinsCard : Claim7 := { stood := { row := parseJoinsRow, standIns := [], harness := (true, "30b8a63302f023fe7e8c90bc84ff58dd2b34434e352535a31c6fbf7081cfcee1"), looks := false }, kinds := [], alts := [], laidByText := true, laidKinds := [.data, .data], laidTests := true, laidLooks := .later }
def ParseJoinsCardSaid : Prop := Claim7.holds Tryd.pinned (.plain (OpenSpec.ofChange parseJoinsSpec)) parseJoinsCard

/-- THE TIED CARD OF 'lurcherlaw07.ParseChains'. -/
def parseChainsCard : Claim7 := { stood := { row := parseChainsRow, standIns := [], harness := (true, "30b8a63302f023fe7e8c90bc84ff58dd2b34434e352535a31c6fbf7081cfcee1"), looks := false }, kinds := [], alts := [], laidByText := true, laidKinds := [.data, .data], laidTests := true, laidLooks := .later }
def ParseChainsCardSaid : Prop := Claim7.holds Tryd.pinned (.plain (OpenSpec.ofChange parseChainsSpec)) parseChainsCard

/-- THE SECOND FORM's CARD OF 'lurcherlaw07.ParseSays'. -/
def parseSaysUptoCard : Claim7 := { stood := { row := parseSaysUptoRow, standIns := [], harness := (true, "30b8a63302f023fe7e8c90bc84ff58dd2b34434e352535a31c6fbf7081cfcee1"), looks := false }, kinds := [], alts := [], laidByText := true, laidKinds := [.data, .data], laidTests := true, laidLooks := .later }
def ParseSaysUptoCardSaid : Prop := Claim7.holds Tryd.pinned (.plain (OpenSpec.upto parseSaysSpec)) parseSaysUptoCard

/-- THE SECOND FORM's CARD OF 'lurcherlaw07.ParseMay'. -/
def parseMayUptoCard : Claim7 := { stood := { row := parseMayUptoRow, standIns := [], harness := (true, "30b8a63302f023fe7e8c90bc84ff58dd2b34434e352535a31c6fbf7081cfcee1"), looks := false }, kinds := [], alts := [], laidByText := true, laidKinds := [.data, .data], laidTests := true, laidLooks := .later }
def ParseMayUptoCardSaid : Prop := Claim7.holds Tryd.pinned (.plain (OpenSpec.upto parseMaySpec)) parseMayUptoCard

/-- THE SECOND FORM's CARD OF 'lurcherlaw07.ParseWithin'. -/
def parseWithinUptoCard : Claim7 := { stood := { row := parseWithinUptoRow, standIns := [], harness := (true, "30b8a63302f023fe7e8c90bc84ff58dd2b34434e352535a31c6fbf7081cfcee1"), looks := false }, kinds := [], alts := [], laidByText := true, laidKinds := [.data, .data], laidTests := true, laidLooks := .later }
def ParseWithinUptoCardSaid : Prop := Claim7.holds Tryd.pinned (.plain (OpenSpec.upto parseWithinSpec)) parseWithinUptoCard

/-- THE SECOND FORM's CARD OF 'lurcherlaw07.ParseDeep'. -/
def parseDeepUptoCard : Claim7 := { stood := { row := parseDeepUptoRow, standIns := [], harness := (true, "30b8a63302f023fe7e8c90bc84ff58dd2b34434e352535a31c6fbf7081cfcee1"), looks := false }, kinds := [], alts := [], laidByText := true, laidKinds := [.data, .data], laidTests := true, laidLooks := .later }
def ParseDeepUptoCardSaid : Prop := Claim7.holds Tryd.pinned (.plain (OpenSpec.upto parseDeepSpec)) parseDeepUptoCard

/-- THE SECOND FORM's CARD OF 'lurcherlaw07.ParseJoins'. -/
def parseJoinsUptoCard : Claim7 := { stood := { row := parseJoinsUptoRow, standIns := [], harness := (true, "30b8a63302f023fe7e8c90bc84ff58dd2b34434e352535a31c6fbf7081cfcee1"), looks := false }, kinds := [], alts := [], laidByText := true, laidKinds := [.data, .data], laidTests := true, laidLooks := .later }
def ParseJoinsUptoCardSaid : Prop := Claim7.holds Tryd.pinned (.plain (OpenSpec.upto parseJoinsSpec)) parseJoinsUptoCard

/-- THE SECOND FORM's CARD OF 'lurcherlaw07.ParseChains'. -/
def parseChainsUptoCard : Claim7 := { stood := { row := parseChainsUptoRow, standIns := [], harness := (true, "30b8a63302f023fe7e8c90bc84ff58dd2b34434e352535a31c6fbf7081cfcee1"), looks := false }, kinds := [], alts := [], laidByText := true, laidKinds := [.data, .data], laidTests := true, laidLooks := .later }
def ParseChainsUptoCardSaid : Prop := Claim7.holds Tryd.pinned (.plain (OpenSpec.upto parseChainsSpec)) parseChainsUptoCard
end Rows
end Go.Proofs.YtnpcombfgdbhkaaDoor

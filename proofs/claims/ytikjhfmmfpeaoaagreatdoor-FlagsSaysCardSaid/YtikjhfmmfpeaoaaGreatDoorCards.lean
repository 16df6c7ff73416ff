/-
  DERIVED. GIVEN WITH THE SEED: THE CARDS: each row of YtikjhfmmfpeaoaaGreatDoorRows.lean that lists a variable, with what it lists TIED to the program's text (the seventh form; the later family's looks); each row that meets fmt, with fmt's text TOLD by the authors' own Lean function (tested against real Go, not proved from fmt's source: count such statements apart). THE CARD IS WHAT COUNTS. Prove the row's statement (the work); the ties are given (YtikjhfmmfpeaoaaGreatDoorTie.lean); close each card by the builder's one call (the guide's Derived/Test/ToyasCard.lean, 'card_holds'). Laid BY PROGRAM, IN A SANDBOX (cutbox-door.mjs). By AI agents, Wed Nov 11 2026. No macro, syntax, notation, axiom, sorry.
-/
import Derived.Test.YtikjhfmmfpeaoaaGreatDoorRows
import GoSem.ClaimSeven
namespace Go.Proofs.YtikjhfmmfpeaoaaGreatDoor
namespace Rows

/-- THE TIED CARD OF 'lurcherlaw08.FlagsSays'. -/
def flagsSaysCard : Claim7 := { stood := { row := flagsSaysRow, standIns := [], harness := (true, "0f2f80abb9265ff3263b8e0625dbb804844f97b1d07d262e303a17494ff628c4"), looks := false }, kinds := [], alts := [], laidByText := true, laidKinds := [.data], laidTests := true, laidLooks := .later }
def FlagsSaysCardSaid : Prop := Claim7.holds Tryz.pinned (.plain (OpenSpec.ofChange flagsSaysSpec)) flagsSaysCard

/-- THE TIED CARD OF 'lurcherlaw08.FlagsClean'. -/
def flagsCleanCard : Claim7 := { stood := { row := flagsCleanRow, standIns := [], harness := (true, "0f2f80abb9265ff3263b8e0625dbb804844f97b1d07d262e303a17494ff628c4"), looks := false }, kinds := [], alts := [], laidByText := true, laidKinds := [.data], laidTests := true, laidLooks := .later }
def FlagsCleanCardSaid : Prop := Claim7.holds Tryz.pinned (.plain (OpenSpec.ofChange flagsCleanSpec)) flagsCleanCard

/-- THE TIED CARD OF 'lurcherlaw08.FlagsGroup'. -/
def flagsGroupCard : Claim7 := { stood := { row := flagsGroupRow, standIns := [], harness := (true, "0f2f80abb9265ff3263b8e0625dbb804844f97b1d07d262e303a17494ff628c4"), looks := false }, kinds := [], alts := [], laidByText := true, laidKinds := [.data], laidTests := true, laidLooks := .later }
def FlagsGroupCardSaid : Prop := Claim7.holds Tryz.pinned (.plain (OpenSpec.ofChange flagsGroupSpec)) flagsGroupCard

/-- THE TIED CARD OF 'lurcherlaw08.FlagsOwn'. -/
def flagsOwnCard : Claim7 := { stood := { row := flagsOwnRow, standIns := [], harness := (true, "0f2f80abb9265ff3263b8e0625dbb804844f97b1d07d262e303a17494ff628c4"), looks := false }, kinds := [], alts := [], laidByText := true, laidKinds := [.data], laidTests := true, laidLooks := .later }
def FlagsOwnCardSaid : Prop := Claim7.holds Tryz.pinned (.plain (OpenSpec.ofChange flagsOwnSpec)) flagsOwnCard

/-- THE TIED CARD OF 'lurcherlaw08.FlagsCases'. -/
def flagsCasesCard : Claim7 := { stood := { row := flagsCasesRow, standIns := [], harness := (true, "0f2f80abb9265ff3263b8e0625dbb804844f97b1d07d262e303a17494ff628c4"), looks := false }, kinds := [], alts := [], laidByText := true, laidKinds := [.data], laidTests := true, laidLooks := .later }
def FlagsCasesCardSaid : Prop := Claim7.holds Tryz.pinned (.plain (OpenSpec.ofChange flagsCasesSpec)) flagsCasesCard

/-- THE SECOND FORM's CARD OF 'lurcherlaw08.FlagsSays'. -/
def flagsSaysUptoCard : Claim7 := { stood := { row := flagsSaysUptoRow, standIns := [], harness := (true, "0f2f80abb9265ff3263b8e0625dbb804844f97b1d07d262e303a17494ff628c4"), looks := false }, kinds := [], alts := [], laidByText := true, laidKinds := [.data], laidTests := true, laidLooks := .later }
def FlagsSaysUptoCardSaid : Prop := Claim7.holds Tryz.pinned (.plain (OpenSpec.upto flagsSaysSpec)) flagsSaysUptoCard

/-- THE SECOND FORM's CARD OF 'lurcherlaw08.FlagsClean'. -/
def flagsCleanUptoCard : Claim7 := { stood := { row := flagsCleanUptoRow, standIns := [], harness := (true, "0f2f80abb9265ff3263b8e0625dbb804844f97b1d07d262e303a17494ff628c4"), looks := false }, kinds := [], alts := [], laidByText := true, laidKinds := [.data], laidTests := true, laidLooks := .later }
def FlagsCleanUptoCardSaid : Prop := Claim7.holds Tryz.pinned (.plain (OpenSpec.upto flagsCleanSpec)) flagsCleanUptoCard

/-- THE SECOND FORM's CARD OF 'lurcherlaw08.FlagsGroup'. -/
def flagsGroupUptoCard : Claim7 := { stood := { row := flagsGroupUptoRow, standIns := [], harness := (true, "0f2f80abb9265ff3263b8e0625dbb804844f97b1d07d262e303a17494ff628c4"), looks := false }, kinds := [], alts := [], laidByText := true, laidKinds := [.data], laidTests := true, laidLooks := .later }
def FlagsGroupUptoCardSaid : Prop := Claim7.holds Tryz.pinned (.plain (OpenSpec.upto flagsGroupSpec)) flagsGroupUptoCard

/-- THE SECOND FORM's CARD OF 'lurcherlaw08.FlagsOwn'. -/
def flagsOwnUptoCard : Claim7 := { stood := { row := flagsOwnUptoRow, standIns := [], harness := (true, "0f2f80abb9265ff3263b8e0625dbb804844f97b1d07d262e303a17494ff628c4"), looks := false }, kinds := [], alts := [], laidByText := true, laidKinds := [.data], laidTests := true, laidLooks := .later }
def FlagsOwnUptoCardSaid : Prop := Claim7.holds Tryz.pinned (.plain (OpenSpec.upto flagsOwnSpec)) flagsOwnUptoCard

/-- THE SECOND FORM's CARD OF 'lurcherlaw08.FlagsCases'. -/
def flagsCasesUptoCard : Claim7 := { stood := { row := flagsCasesUptoRow, standIns := [], harness := (true, "0f2f80abb9265ff3263b8e0625dbb804844f97b1d07d262e303a17494ff628c4"), looks := false }, kinds := [], alts := [], laidByText := true, laidKinds := [.data], laidTests := true, laidLooks := .later }
def FlagsCasesUptoCardSaid : Prop := Claim7.holds Tryz.pinned (.plain (OpenSpec.upto flagsCasesSpec)) flagsCasesUptoCard
end Rows
end Go.Proofs.YtikjhfmmfpeaoaaGreatDoor

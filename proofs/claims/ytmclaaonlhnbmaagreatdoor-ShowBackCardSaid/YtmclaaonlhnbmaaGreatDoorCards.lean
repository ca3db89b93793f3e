/-
  DERIVED. GIVEN WITH THE SEED: THE CARDS: each row of YtmclaaonlhnbmaaGreatDoorRows.lean that lists a variable, with what it lists TIED to the program's text (the seventh form; the later family's looks); each row that meets fmt, with fmt's text TOLD by the authors' own Lean function (tested against real Go, not proved from fmt's source: count such statements apart). THE CARD IS WHAT COUNTS. Prove the row's statement (the work); the ties are given (YtmclaaonlhnbmaaGreatDoorTie.lean); close each card by the builder's one call (the guide's Derived/Test/ToyasCard.lean, 'card_holds'). Laid BY PROGRAM, IN A SANDBOX (cutbox-door.mjs). By AI agents, Wed Nov 11 2026. No macro, syntax, notation, axiom, sorry.
-/
import Derived.Test.YtmclaaonlhnbmaaGreatDoorRows
import GoSem.ClaimSeven
namespace Go.Proofs.YtmclaaonlhnbmaaGreatDoor
namespace Rows

/-- THE TIED CARD OF 'boltholelaw10.ParseDecl'. -/
def parseDeclCard : Claim7 := { stood := { row := parseDeclRow, standIns := [], harness := (true, "1908342e05a982b471a853551569860c2187946be09ef5a74e7ec37c1fdd7676"), looks := true }, kinds := [], alts := [], laidByText := true, laidKinds := [.data, .data, .pinned], laidTests := true, laidLooks := .later }
def ParseDeclCardSaid : Prop := Claim7.holds Tryz.pinned (.plain (OpenSpec.ofChange parseDeclSpec)) parseDeclCard

/-- THE TIED CARD OF 'boltholelaw11.ShowBack'. -/
def showBackCard : Claim7 := { stood := { row := showBackRow, standIns := [], harness := (true, "1908342e05a982b471a853551569860c2187946be09ef5a74e7ec37c1fdd7676"), looks := true }, kinds := [], alts := [], laidByText := true, laidKinds := [.data, .data, .pinned], laidTests := true, laidLooks := .later }
def ShowBackCardSaid : Prop := Claim7.holds Tryz.pinned (.plain (OpenSpec.ofChange showBackSpec)) showBackCard

/-- THE TIED CARD OF 'boltholelaw11.ShowBrackets'. -/
def showBracketsCard : Claim7 := { stood := { row := showBracketsRow, standIns := [], harness := (true, "1908342e05a982b471a853551569860c2187946be09ef5a74e7ec37c1fdd7676"), looks := true }, kinds := [], alts := [], laidByText := true, laidKinds := [.data, .data, .pinned], laidTests := true, laidLooks := .later }
def ShowBracketsCardSaid : Prop := Claim7.holds Tryz.pinned (.plain (OpenSpec.ofChange showBracketsSpec)) showBracketsCard

/-- THE TIED CARD OF 'boltholelaw11.ShowAlike'. -/
def showAlikeCard : Claim7 := { stood := { row := showAlikeRow, standIns := [], harness := (true, "1908342e05a982b471a853551569860c2187946be09ef5a74e7ec37c1fdd7676"), looks := true }, kinds := [], alts := [], laidByText := true, laidKinds := [.data, .data, .pinned], laidTests := true, laidLooks := .later }
def ShowAlikeCardSaid : Prop := Claim7.holds Tryz.pinned (.plain (OpenSpec.ofChange showAlikeSpec)) showAlikeCard

/-- THE SECOND FORM's CARD OF 'boltholelaw10.ParseDecl'. -/
def parseDeclUptoCard : Claim7 := { stood := { row := parseDeclUptoRow, standIns := [], harness := (true, "1908342e05a982b471a853551569860c2187946be09ef5a74e7ec37c1fdd7676"), looks := true }, kinds := [], alts := [], laidByText := true, laidKinds := [.data, .data, .pinned], laidTests := true, laidLooks := .later }
def ParseDeclUptoCardSaid : Prop := Claim7.holds Tryz.pinned (.plain (OpenSpec.upto parseDeclSpec)) parseDeclUptoCard

/-- THE SECOND FORM's CARD OF 'boltholelaw11.ShowBack'. -/
def showBackUptoCard : Claim7 := { stood := { row := showBackUptoRow, standIns := [], harness := (true, "1908342e05a982b471a853551569860c2187946be09ef5a74e7ec37c1fdd7676"), looks := true }, kinds := [], alts := [], laidByText := true, laidKinds := [.data, .data, .pinned], laidTests := true, laidLooks := .later }
def ShowBackUptoCardSaid : Prop := Claim7.holds Tryz.pinned (.plain (OpenSpec.upto showBackSpec)) showBackUptoCard

/-- THE SECOND FORM's CARD OF 'boltholelaw11.ShowBrackets'. -/
def showBracketsUptoCard : Claim7 := { stood := { row := showBracketsUptoRow, standIns := [], harness := (true, "1908342e05a982b471a853551569860c2187946be09ef5a74e7ec37c1fdd7676"), looks := true }, kinds := [], alts := [], laidByText := true, laidKinds := [.data, .data, .pinned], laidTests := true, laidLooks := .later }
def ShowBracketsUptoCardSaid : Prop := Claim7.holds Tryz.pinned (.plain (OpenSpec.upto showBracketsSpec)) showBracketsUptoCard

/-- THE SECOND FORM's CARD OF 'boltholelaw11.ShowAlike'. -/
def showAlikeUptoCard : Claim7 := { stood := { row := showAlikeUptoRow, standIns := [], harness := (true, "1908342e05a982b471a853551569860c2187946be09ef5a74e7ec37c1fdd7676"), looks := true }, kinds := [], alts := [], laidByText := true, laidKinds := [.data, .data, .pinned], laidTests := true, laidLooks := .later }
def ShowAlikeUptoCardSaid : Prop := Claim7.holds Tryz.pinned (.plain (OpenSpec.upto showAlikeSpec)) showAlikeUptoCard
end Rows
end Go.Proofs.YtmclaaonlhnbmaaGreatDoor

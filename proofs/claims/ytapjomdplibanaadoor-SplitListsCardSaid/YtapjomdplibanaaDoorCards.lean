/-
  DERIVED. GIVEN WITH THE SEED: THE CARDS: each row of YtapjomdplibanaaDoorRows.lean that lists a variable, with what it lists TIED to the program's text (the seventh form; the later family's looks); each row that meets fmt, with fmt's text TOLD by the authors' own Lean function (tested against real Go, not proved from fmt's source: count such statements apart). THE CARD IS WHAT COUNTS. Prove the row's statement (the work); the ties are given (YtapjomdplibanaaDoorTie.lean); close each card by the builder's one call (the guide's Derived/Test/ToyasCard.lean, 'card_holds'). Laid BY PROGRAM, IN A SANDBOX (cutbox-door.mjs). By AI agents, Wed Nov 11 2026. No macro, syntax, notation, axiom, sorry.
-/
import Derived.Test.YtapjomdplibanaaDoorRows
import GoSem.ClaimSeven
namespace Go.Proofs.YtapjomdplibanaaDoor
namespace Rows

/-- THE TIED CARD OF 'boltholelaw09.SplitPieces'. -/
def splitPiecesCard : Claim7 := { stood := { row := splitPiecesRow, standIns := [], harness := (true, "7081c28b4ef50279c7c5fe52159b01d4ef14562c2d7c3b70d587bd2fae3de889"), looks := false }, kinds := [], alts := [], laidByText := true, laidKinds := [.data, .pinned], laidTests := true, laidLooks := .later }
def SplitPiecesCardSaid : Prop := Claim7.holds Tryd.pinned (.plain (OpenSpec.ofChange splitPiecesSpec)) splitPiecesCard

/-- THE TIED CARD OF 'boltholelaw09.SplitWhole'. -/
def splitWholeCard : Claim7 := { stood := { row := splitWholeRow, standIns := [], harness := (true, "7081c28b4ef50279c7c5fe52159b01d4ef14562c2d7c3b70d587bd2fae3de889"), looks := false }, kinds := [], alts := [], laidByText := true, laidKinds := [.data, .pinned], laidTests := true, laidLooks := .later }
def SplitWholeCardSaid : Prop := Claim7.holds Tryd.pinned (.plain (OpenSpec.ofChange splitWholeSpec)) splitWholeCard

/-- THE TIED CARD OF 'boltholelaw09.SplitEdits'. -/
def splitEditsCard : Claim7 := { stood := { row := splitEditsRow, standIns := [], harness := (true, "7081c28b4ef50279c7c5fe52159b01d4ef14562c2d7c3b70d587bd2fae3de889"), looks := false }, kinds := [], alts := [], laidByText := true, laidKinds := [.data, .pinned], laidTests := true, laidLooks := .later }
def SplitEditsCardSaid : Prop := Claim7.holds Tryd.pinned (.plain (OpenSpec.ofChange splitEditsSpec)) splitEditsCard

/-- THE TIED CARD OF 'boltholelaw09.SplitLists'. -/
def splitListsCard : Claim7 := { stood := { row := splitListsRow, standIns := [], harness := (true, "7081c28b4ef50279c7c5fe52159b01d4ef14562c2d7c3b70d587bd2fae3de889"), looks := false }, kinds := [], alts := [], laidByText := true, laidKinds := [.data, .pinned], laidTests := true, laidLooks := .later }
def SplitListsCardSaid : Prop := Claim7.holds Tryd.pinned (.plain (OpenSpec.ofChange splitListsSpec)) splitListsCard

/-- THE SECOND FORM's CARD OF 'boltholelaw09.SplitPieces'. -/
def splitPiecesUptoCard : Claim7 := { stood := { row := splitPiecesUptoRow, standIns := [], harness := (true, "7081c28b4ef50279c7c5fe52159b01d4ef14562c2d7c3b70d587bd2fae3de889"), looks := false }, kinds := [], alts := [], laidByText := true, laidKinds := [.data, .pinned], laidTests := true, laidLooks := .later }
def SplitPiecesUptoCardSaid : Prop := Claim7.holds Tryd.pinned (.plain (OpenSpec.upto splitPiecesSpec)) splitPiecesUptoCard

/-- THE SECOND FORM's CARD OF 'boltholelaw09.SplitWhole'. -/
def splitWholeUptoCard : Claim7 := { stood := { row := splitWholeUptoRow, standIns := [], harness := (true, "7081c28b4ef50279c7c5fe52159b01d4ef14562c2d7c3b70d587bd2fae3de889"), looks := false }, kinds := [], alts := [], laidByText := true, laidKinds := [.data, .pinned], laidTests := true, laidLooks := .later }
def SplitWholeUptoCardSaid : Prop := Claim7.holds Tryd.pinned (.plain (OpenSpec.upto splitWholeSpec)) splitWholeUptoCard

/-- THE SECOND FORM's CARD OF 'boltholelaw09.SplitEdits'. -/
def splitEditsUptoCard : Claim7 := { stood := { row := splitEditsUptoRow, standIns := [], harness := (true, "7081c28b4ef50279c7c5fe52159b01d4ef14562c2d7c3b70d587bd2fae3de889"), looks := false }, kinds := [], alts := [], laidByText := true, laidKinds := [.data, .pinned], laidTests := true, laidLooks := .later }
def SplitEditsUptoCardSaid : Prop := Claim7.holds Tryd.pinned (.plain (OpenSpec.upto splitEditsSpec)) splitEditsUptoCard

/-- THE SECOND FORM's CARD OF 'boltholelaw09.SplitLists'. -/
def splitListsUptoCard : Claim7 := { stood := { row := splitListsUptoRow, standIns := [], harness := (true, "7081c28b4ef50279c7c5fe52159b01d4ef14562c2d7c3b70d587bd2fae3de889"), looks := false }, kinds := [], alts := [], laidByText := true, laidKinds := [.data, .pinned], laidTests := true, laidLooks := .later }
def SplitListsUptoCardSaid : Prop := Claim7.holds Tryd.pinned (.plain (OpenSpec.upto splitListsSpec)) splitListsUptoCard
end Rows
end Go.Proofs.YtapjomdplibanaaDoor

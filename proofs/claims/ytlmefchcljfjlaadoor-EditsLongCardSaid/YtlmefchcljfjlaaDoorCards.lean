/-
  DERIVED. GIVEN WITH THE SEED: THE CARDS: each row of YtlmefchcljfjlaaDoorRows.lean that lists a variable, with what it lists TIED to the program's text (the seventh form; the later family's looks); each row that meets fmt, with fmt's text TOLD by the authors' own Lean function (tested against real Go, not proved from fmt's source: count such statements apart). THE CARD IS WHAT COUNTS. Prove the row's statement (the work); the ties are given (YtlmefchcljfjlaaDoorTie.lean); close each card by the builder's one call (the guide's Derived/Test/ToyasCard.lean, 'card_holds'). Laid BY PROGRAM, IN A SANDBOX (cutbox-door.mjs). By AI agents, Wed Nov 11 2026. No macro, syntax, notation, axiom, sorry.
-/
import Derived.Test.YtlmefchcljfjlaaDoorRows
import GoSem.ClaimSeven
namespace Go.Proofs.YtlmefchcljfjlaaDoor
namespace Rows

/-- THE TIED CARD OF 'boltholelaw06.EditsApply'. -/
def editsApplyCard : Claim7 := { stood := { row := editsApplyRow, standIns := [], harness := (true, "e5a6ec7bc3954e535cc851e25aed739f88047995430caaf0ca0ebf817025a1e7"), looks := false }, kinds := [], alts := [], laidByText := true, laidKinds := [.data, .pinned], laidTests := true, laidLooks := .later }
def EditsApplyCardSaid : Prop := Claim7.holds Tryd.pinned (.plain (OpenSpec.ofChange editsApplySpec)) editsApplyCard

/-- THE TIED CARD OF 'boltholelaw06.EditsTell'. -/
def editsTellCard : Claim7 := { stood := { row := editsTellRow, standIns := [], harness := (true, "e5a6ec7bc3954e535cc851e25aed739f88047995430caaf0ca0ebf817025a1e7"), looks := false }, kinds := [], alts := [], laidByText := true, laidKinds := [.data, .pinned], laidTests := true, laidLooks := .later }
def EditsTellCardSaid : Prop := Claim7.holds Tryd.pinned (.plain (OpenSpec.ofChange editsTellSpec)) editsTellCard

/-- THE TIED CARD OF 'boltholelaw06.EditsBack'. -/
def editsBackCard : Claim7 := { stood := { row := editsBackRow, standIns := [], harness := (true, "e5a6ec7bc3954e535cc851e25aed739f88047995430caaf0ca0ebf817025a1e7"), looks := false }, kinds := [], alts := [], laidByText := true, laidKinds := [.data, .pinned], laidTests := true, laidLooks := .later }
def EditsBackCardSaid : Prop := Claim7.holds Tryd.pinned (.plain (OpenSpec.ofChange editsBackSpec)) editsBackCard

/-- THE TIED CARD OF 'boltholelaw06.EditsParts'. -/
def editsPartsCard : Claim7 := { stood := { row := editsPartsRow, standIns := [], harness := (true, "e5a6ec7bc3954e535cc851e25aed739f88047995430caaf0ca0ebf817025a1e7"), looks := false }, kinds := [], alts := [], laidByText := true, laidKinds := [.data, .pinned], laidTests := true, laidLooks := .later }
def EditsPartsCardSaid : Prop := Claim7.holds Tryd.pinned (.plain (OpenSpec.ofChange editsPartsSpec)) editsPartsCard

/-- THE TIED CARD OF 'boltholelaw06.EditsLong'. -/
def editsLongCard : Claim7 := { stood := { row := editsLongRow, standIns := [], harness := (true, "e5a6ec7bc3954e535cc851e25aed739f88047995430caaf0ca0ebf817025a1e7"), looks := false }, kinds := [], alts := [], laidByText := true, laidKinds := [.data, .pinned], laidTests := true, laidLooks := .later }
def EditsLongCardSaid : Prop := Claim7.holds Tryd.pinned (.plain (OpenSpec.ofChange editsLongSpec)) editsLongCard

/-- THE SECOND FORM's CARD OF 'boltholelaw06.EditsApply'. -/
def editsApplyUptoCard : Claim7 := { stood := { row := editsApplyUptoRow, standIns := [], harness := (true, "e5a6ec7bc3954e535cc851e25aed739f88047995430caaf0ca0ebf817025a1e7"), looks := false }, kinds := [], alts := [], laidByText := true, laidKinds := [.data, .pinned], laidTests := true, laidLooks := .later }
def EditsApplyUptoCardSaid : Prop := Claim7.holds Tryd.pinned (.plain (OpenSpec.upto editsApplySpec)) editsApplyUptoCard

/-- THE SECOND FORM's CARD OF 'boltholelaw06.EditsTell'. -/
def editsTellUptoCard : Claim7 := { stood := { row := editsTellUptoRow, standIns := [], harness := (true, "e5a6ec7bc3954e535cc851e25aed739f88047995430caaf0ca0ebf817025a1e7"), looks := false }, kinds := [], alts := [], laidByText := true, laidKinds := [.data, .pinned], laidTests := true, laidLooks := .later }
def EditsTellUptoCardSaid : Prop := Claim7.holds Tryd.pinned (.plain (OpenSpec.upto editsTellSpec)) editsTellUptoCard

/-- THE SECOND FORM's CARD OF 'boltholelaw06.EditsBack'. -/
def editsBackUptoCard : Claim7 := { stood := { row := editsBackUptoRow, standIns := [], harness := (true, "e5a6ec7bc3954e535cc851e25aed739f88047995430caaf0ca0ebf817025a1e7"), looks := false }, kinds := [], alts := [], laidByText := true, laidKinds := [.data, .pinned], laidTests := true, laidLooks := .later }
def EditsBackUptoCardSaid : Prop := Claim7.holds Tryd.pinned (.plain (OpenSpec.upto editsBackSpec)) editsBackUptoCard

/-- THE SECOND FORM's CARD OF 'boltholelaw06.EditsParts'. -/
def editsPartsUptoCard : Claim7 := { stood := { row := editsPartsUptoRow, standIns := [], harness := (true, "e5a6ec7bc3954e535cc851e25aed739f88047995430caaf0ca0ebf817025a1e7"), looks := false }, kinds := [], alts := [], laidByText := true, laidKinds := [.data, .pinned], laidTests := true, laidLooks := .later }
def EditsPartsUptoCardSaid : Prop := Claim7.holds Tryd.pinned (.plain (OpenSpec.upto editsPartsSpec)) editsPartsUptoCard

/-- THE SECOND FORM's CARD OF 'boltholelaw06.EditsLong'. -/
def editsLongUptoCard : Claim7 := { stood := { row := editsLongUptoRow, standIns := [], harness := (true, "e5a6ec7bc3954e535cc851e25aed739f88047995430caaf0ca0ebf817025a1e7"), looks := false }, kinds := [], alts := [], laidByText := true, laidKinds := [.data, .pinned], laidTests := true, laidLooks := .later }
def EditsLongUptoCardSaid : Prop := Claim7.holds Tryd.pinned (.plain (OpenSpec.upto editsLongSpec)) editsLongUptoCard
end Rows
end Go.Proofs.YtlmefchcljfjlaaDoor

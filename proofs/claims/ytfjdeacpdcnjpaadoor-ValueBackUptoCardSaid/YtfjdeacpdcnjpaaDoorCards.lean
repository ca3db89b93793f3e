/-
  DERIVED. GIVEN WITH THE SEED: THE CARDS: each row of YtfjdeacpdcnjpaaDoorRows.lean that lists a variable, with what it lists TIED to the program's text (the seventh form; the later family's looks); each row that meets fmt, with fmt's text TOLD by the authors' own Lean function (tested against real Go, not proved from fmt's source: count such statements apart). THE CARD IS WHAT COUNTS. Prove the row's statement (the work); the ties are given (YtfjdeacpdcnjpaaDoorTie.lean); close each card by the builder's one call (the guide's Derived/Test/ToyasCard.lean, 'card_holds'). Laid BY PROGRAM, IN A SANDBOX (cutbox-door.mjs). By AI agents, Wed Nov 11 2026. No macro, syntax, notation, axiom, sorry.
-/
import Derived.Test.YtfjdeacpdcnjpaaDoorRows
import GoSem.ClaimSeven
namespace Go.Proofs.YtfjdeacpdcnjpaaDoor
namespace Rows

/-- THE TIED CARD OF 'boltholelaw02.ValueBack'. -/
def valueBackCard : Claim7 := { stood := { row := valueBackRow, standIns := [], harness := (true, "5ab12d7cee9c328a936e921b6085ac32552106d2f0066bfd42b32f0f2f98fcf1"), looks := true }, kinds := [], alts := [], laidByText := true, laidKinds := [.data, .data, .data, .data, .sentinel, .sentinel, .pinned], laidTests := true, laidLooks := .later }
def ValueBackCardSaid : Prop := Claim7.holds Tryd.pinned (.plain (OpenSpec.ofChange valueBackSpec)) valueBackCard

/-- THE TIED CARD OF 'boltholelaw02.ValueAgain'. -/
def valueAgainCard : Claim7 := { stood := { row := valueAgainRow, standIns := [], harness := (true, "5ab12d7cee9c328a936e921b6085ac32552106d2f0066bfd42b32f0f2f98fcf1"), looks := true }, kinds := [], alts := [], laidByText := true, laidKinds := [.data, .data, .data, .data, .sentinel, .sentinel, .pinned], laidTests := true, laidLooks := .later }
def ValueAgainCardSaid : Prop := Claim7.holds Tryd.pinned (.plain (OpenSpec.ofChange valueAgainSpec)) valueAgainCard

/-- THE TIED CARD OF 'boltholelaw02.ValueDeep'. -/
def valueDeepCard : Claim7 := { stood := { row := valueDeepRow, standIns := [], harness := (true, "5ab12d7cee9c328a936e921b6085ac32552106d2f0066bfd42b32f0f2f98fcf1"), looks := true }, kinds := [], alts := [], laidByText := true, laidKinds := [.data, .data, .data, .data, .sentinel, .sentinel, .pinned], laidTests := true, laidLooks := .later }
def ValueDeepCardSaid : Prop := Claim7.holds Tryd.pinned (.plain (OpenSpec.ofChange valueDeepSpec)) valueDeepCard

/-- THE SECOND FORM's CARD OF 'boltholelaw02.ValueBack'. -/
def valueBackUptoCard : Claim7 := { stood := { row := valueBackUptoRow, standIns := [], harness := (true, "5ab12d7cee9c328a936e921b6085ac32552106d2f0066bfd42b32f0f2f98fcf1"), looks := true }, kinds := [], alts := [], laidByText := true, laidKinds := [.data, .data, .data, .data, .sentinel, .sentinel, .pinned], laidTests := true, laidLooks := .later }
def ValueBackUptoCardSaid : Prop := Claim7.holds Tryd.pinned (.plain (OpenSpec.upto valueBackSpec)) valueBackUptoCard

/-- THE SECOND FORM's CARD OF 'boltholelaw02.ValueAgain'. -/
def valueAgainUptoCard : Claim7 := { stood := { row := valueAgainUptoRow, standIns := [], harness := (true, "5ab12d7cee9c328a936e921b6085ac32552106d2f0066bfd42b32f0f2f98fcf1"), looks := true }, kinds := [], alts := [], laidByText := true, laidKinds := [.data, .data, .data, .data, .sentinel, .sentinel, .pinned], laidTests := true, laidLooks := .later }
def ValueAgainUptoCardSaid : Prop := Claim7.holds Tryd.pinned (.plain (OpenSpec.upto valueAgainSpec)) valueAgainUptoCard

/-- THE SECOND FORM's CARD OF 'boltholelaw02.ValueDeep'. -/
def valueDeepUptoCard : Claim7 := { stood := { row := valueDeepUptoRow, standIns := [], harness := (true, "5ab12d7cee9c328a936e921b6085ac32552106d2f0066bfd42b32f0f2f98fcf1"), looks := true }, kinds := [], alts := [], laidByText := true, laidKinds := [.data, .data, .data, .data, .sentinel, .sentinel, .pinned], laidTests := true, laidLooks := .later }
def ValueDeepUptoCardSaid : Prop := Claim7.holds Tryd.pinned (.plain (OpenSpec.upto valueDeepSpec)) valueDeepUptoCard
end Rows
end Go.Proofs.YtfjdeacpdcnjpaaDoor

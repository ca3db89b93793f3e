/-
  DERIVED. GIVEN WITH THE SEED: THE CARDS: each row of YtojoahlpgmnbnaaGreatDoorRows.lean that lists a variable, with what it lists TIED to the program's text (the seventh form; the later family's looks); each row that meets fmt, with fmt's text TOLD by the authors' own Lean function (tested against real Go, not proved from fmt's source: count such statements apart). THE CARD IS WHAT COUNTS. Prove the row's statement (the work); the ties are given (YtojoahlpgmnbnaaGreatDoorTie.lean); close each card by the builder's one call (the guide's Derived/Test/ToyasCard.lean, 'card_holds'). Laid BY PROGRAM, IN A SANDBOX (cutbox-door.mjs). By AI agents, Wed Nov 11 2026. No macro, syntax, notation, axiom, sorry.
-/
import Derived.Test.YtojoahlpgmnbnaaGreatDoorRows
import GoSem.ClaimSeven
namespace Go.Proofs.YtojoahlpgmnbnaaGreatDoor
namespace Rows

/-- THE TIED CARD OF 'boltholelaw12.UnitDecls'. -/
def unitDeclsCard : Claim7 := { stood := { row := unitDeclsRow, standIns := [], harness := (true, "ff81374342607a8da8bd180f1fe329a253458849c772122a2f28e9abb53eeada"), looks := true }, kinds := [], alts := [], laidByText := true, laidKinds := [.data, .data, .pinned], laidTests := true, laidLooks := .later }
def UnitDeclsCardSaid : Prop := Claim7.holds Tryz.pinned (.plain (OpenSpec.ofChange unitDeclsSpec)) unitDeclsCard

/-- THE TIED CARD OF 'boltholelaw12.UnitFresh'. -/
def unitFreshCard : Claim7 := { stood := { row := unitFreshRow, standIns := [], harness := (true, "ff81374342607a8da8bd180f1fe329a253458849c772122a2f28e9abb53eeada"), looks := true }, kinds := [], alts := [], laidByText := true, laidKinds := [.data, .data, .pinned], laidTests := true, laidLooks := .later }
def UnitFreshCardSaid : Prop := Claim7.holds Tryz.pinned (.plain (OpenSpec.ofChange unitFreshSpec)) unitFreshCard

/-- THE TIED CARD OF 'boltholelaw12.UnitSame'. -/
def unitSameCard : Claim7 := { stood := { row := unitSameRow, standIns := [], harness := (true, "ff81374342607a8da8bd180f1fe329a253458849c772122a2f28e9abb53eeada"), looks := true }, kinds := [], alts := [], laidByText := true, laidKinds := [.data, .data, .pinned], laidTests := true, laidLooks := .later }
def UnitSameCardSaid : Prop := Claim7.holds Tryz.pinned (.plain (OpenSpec.ofChange unitSameSpec)) unitSameCard

/-- THE TIED CARD OF 'boltholelaw12.UnitOwn'. -/
def unitOwnCard : Claim7 := { stood := { row := unitOwnRow, standIns := [], harness := (true, "ff81374342607a8da8bd180f1fe329a253458849c772122a2f28e9abb53eeada"), looks := true }, kinds := [], alts := [], laidByText := true, laidKinds := [.data, .data, .pinned], laidTests := true, laidLooks := .later }
def UnitOwnCardSaid : Prop := Claim7.holds Tryz.pinned (.plain (OpenSpec.ofChange unitOwnSpec)) unitOwnCard

/-- THE SECOND FORM's CARD OF 'boltholelaw12.UnitDecls'. -/
def unitDeclsUptoCard : Claim7 := { stood := { row := unitDeclsUptoRow, standIns := [], harness := (true, "ff81374342607a8da8bd180f1fe329a253458849c772122a2f28e9abb53eeada"), looks := true }, kinds := [], alts := [], laidByText := true, laidKinds := [.data, .data, .pinned], laidTests := true, laidLooks := .later }
def UnitDeclsUptoCardSaid : Prop := Claim7.holds Tryz.pinned (.plain (OpenSpec.upto unitDeclsSpec)) unitDeclsUptoCard

/-- THE SECOND FORM's CARD OF 'boltholelaw12.UnitFresh'. -/
def unitFreshUptoCard : Claim7 := { stood := { row := unitFreshUptoRow, standIns := [], harness := (true, "ff81374342607a8da8bd180f1fe329a253458849c772122a2f28e9abb53eeada"), looks := true }, kinds := [], alts := [], laidByText := true, laidKinds := [.data, .data, .pinned], laidTests := true, laidLooks := .later }
def UnitFreshUptoCardSaid : Prop := Claim7.holds Tryz.pinned (.plain (OpenSpec.upto unitFreshSpec)) unitFreshUptoCard

/-- THE SECOND FORM's CARD OF 'boltholelaw12.UnitSame'. -/
def unitSameUptoCard : Claim7 := { stood := { row := unitSameUptoRow, standIns := [], harness := (true, "ff81374342607a8da8bd180f1fe329a253458849c772122a2f28e9abb53eeada"), looks := true }, kinds := [], alts := [], laidByText := true, laidKinds := [.data, .data, .pinned], laidTests := true, laidLooks := .later }
def UnitSameUptoCardSaid : Prop := Claim7.holds Tryz.pinned (.plain (OpenSpec.upto unitSameSpec)) unitSameUptoCard

/-- THE SECOND FORM's CARD OF 'boltholelaw12.UnitOwn'. -/
def unitOwnUptoCard : Claim7 := { stood := { row := unitOwnUptoRow, standIns := [], harness := (true, "ff81374342607a8da8bd180f1fe329a253458849c772122a2f28e9abb53eeada"), looks := true }, kinds := [], alts := [], laidByText := true, laidKinds := [.data, .data, .pinned], laidTests := true, laidLooks := .later }
def UnitOwnUptoCardSaid : Prop := Claim7.holds Tryz.pinned (.plain (OpenSpec.upto unitOwnSpec)) unitOwnUptoCard
end Rows
end Go.Proofs.YtojoahlpgmnbnaaGreatDoor

/-
  NARROWER THAN 'FOR EVERY INPUT', by the rows' own cells (each row's printed sentence says how): UnitDecls: laid · UnitFresh: laid · UnitSame: laid · UnitOwn: laid.
  DERIVED. THE GIVEN ROWS OF THIS SEAT. 4 by the template 'for every input the law returns true; each argument reads behind the call as it read before'; 0 by the template 'total and deterministic' (their statements: YtojoahlpgmnbnaaGreatDoorTotals.lean).
  GIVEN WITH THE SEED: the statements are not yours to turn. If you find one false, say at which input.
  Laid BY PROGRAM, IN A SANDBOX (cutbox-rows.mjs): the forced cells as the released guide's own fill.sh prints them over the translation 1c3e34a7db00d7ca… (all of the seat's roots in one cut). By AI agents, Wed Nov 11 2026. No macro, syntax, notation, axiom, sorry.
-/
import Derived.Test.YtojoahlpgmnbnaaGreatDoorChecked
import GoSem.PinnedTables
import GoSem.Claim
import GoSem.ClaimJoined
import GoSem.ClaimMapViews
import Derived.JoinedTies
import Derived.KernelRfl
namespace Go.Proofs.YtojoahlpgmnbnaaGreatDoor
/- THE CELL 'sum', in the pinned program and in every row, IS THE sha256 OF THE DUMP (.gsa) THAT YtojoahlpgmnbnaaGreatDoorProg.lean LOADS. Nothing in Lean hashes anything: it is a label: what it is worth is what the hold of that sum in a sandbox is worth. -/
noncomputable def Tryz.pinned : Pinned := { name := "ytojoahlpgmnbnaagreatdoor", sum := "1c3e34a7db00d7caa35ea965312cdda217b2e0903fc417f83c1644d3c6d70b87", checked := Tryz.checked }
namespace Rows
def none {H : Type} : Left H := { results := [], args := [] }

/- WHAT THE LISTED PACKAGE-LEVEL VARIABLES READ AS WHEN THE CALL BEGINS. Each datum BY PROGRAM (the guide's laid-datum.mjs) off the statement by which the dump's own 'gosem.cut.vars' lays the variable. In a bare row this is a premise. The card (YtojoahlpgmnbnaaGreatDoorCards.lean) ties it to the program's text. -/
def laid_unicode_utf8_acceptRanges {H : Type} : DataW H := .agg [.agg [.lit (.int .u8 128), .lit (.int .u8 191)], .agg [.lit (.int .u8 160), .lit (.int .u8 191)], .agg [.lit (.int .u8 128), .lit (.int .u8 159)], .agg [.lit (.int .u8 144), .lit (.int .u8 191)], .agg [.lit (.int .u8 128), .lit (.int .u8 143)], .agg [.lit (.int .u8 0), .lit (.int .u8 0)], .agg [.lit (.int .u8 0), .lit (.int .u8 0)], .agg [.lit (.int .u8 0), .lit (.int .u8 0)], .agg [.lit (.int .u8 0), .lit (.int .u8 0)], .agg [.lit (.int .u8 0), .lit (.int .u8 0)], .agg [.lit (.int .u8 0), .lit (.int .u8 0)], .agg [.lit (.int .u8 0), .lit (.int .u8 0)], .agg [.lit (.int .u8 0), .lit (.int .u8 0)], .agg [.lit (.int .u8 0), .lit (.int .u8 0)], .agg [.lit (.int .u8 0), .lit (.int .u8 0)], .agg [.lit (.int .u8 0), .lit (.int .u8 0)]]
def laid_bolthole_parse_marks {H : Type} : DataW H := .agg [.agg [.lit (.string [124, 124]), .lit (.int .i64 1)], .agg [.lit (.string [38, 38]), .lit (.int .i64 2)], .agg [.lit (.string [61, 61]), .lit (.int .i64 3)], .agg [.lit (.string [33, 61]), .lit (.int .i64 3)], .agg [.lit (.string [60]), .lit (.int .i64 3)], .agg [.lit (.string [60, 61]), .lit (.int .i64 3)], .agg [.lit (.string [62]), .lit (.int .i64 3)], .agg [.lit (.string [62, 61]), .lit (.int .i64 3)], .agg [.lit (.string [43]), .lit (.int .i64 4)], .agg [.lit (.string [45]), .lit (.int .i64 4)], .agg [.lit (.string [42]), .lit (.int .i64 5)], .agg [.lit (.string [47]), .lit (.int .i64 5)], .agg [.lit (.string [37]), .lit (.int .i64 5)]]
/-- One of Go's own tables, pinned by name: the form's constant. -/
def laid_unicode_utf8_first : DataW Unit := Go.Pinned.utf8First

/-- 'boltholelaw12.UnitDecls': WHATEVER THE INPUT: true; the input reads as it did. -/
def unitDeclsSpec : ChangeSpec := { name := "unitDecls", fn := fun _ => fun
  | [d1, d2] => { results := [.lit (.bool true)], args := [d1, d2] }
  | _ => none }
def unitDeclsRow : OpenClaim := { program := "ytojoahlpgmnbnaagreatdoor", sum := "1c3e34a7db00d7caa35ea965312cdda217b2e0903fc417f83c1644d3c6d70b87", func := "bolthole/boltholelaw12.UnitDecls", spec := "unitDecls", unfollowed := true, recurses := true, named := ["unicode/utf8.first", "unicode/utf8.acceptRanges", "bolthole/parse.marks"], apart := false, laid := [("unicode/utf8.acceptRanges", laid_unicode_utf8_acceptRanges), ("bolthole/parse.marks", laid_bolthole_parse_marks), ("unicode/utf8.first", laid_unicode_utf8_first)] }
def UnitDeclsSaid : Prop := unitDeclsRow.holds Tryz.pinned (OpenSpec.ofChange unitDeclsSpec)

/-- ITS FALSE NEIGHBOUR: 'it returns false'. Refute it at one input. -/
def unitDeclsWrong : ChangeSpec := { name := "unitDecls", fn := fun _ => fun
  | [d1, d2] => { results := [.lit (.bool false)], args := [d1, d2] }
  | _ => none }
def UnitDeclsWrongFalsely : Prop := unitDeclsRow.holds Tryz.pinned (OpenSpec.ofChange unitDeclsWrong)

/-- 'boltholelaw12.UnitFresh': WHATEVER THE INPUT: true; the input reads as it did. -/
def unitFreshSpec : ChangeSpec := { name := "unitFresh", fn := fun _ => fun
  | [d] => { results := [.lit (.bool true)], args := [d] }
  | _ => none }
def unitFreshRow : OpenClaim := { program := "ytojoahlpgmnbnaagreatdoor", sum := "1c3e34a7db00d7caa35ea965312cdda217b2e0903fc417f83c1644d3c6d70b87", func := "bolthole/boltholelaw12.UnitFresh", spec := "unitFresh", unfollowed := true, recurses := true, named := ["unicode/utf8.first", "unicode/utf8.acceptRanges", "bolthole/parse.marks"], apart := false, laid := [("unicode/utf8.acceptRanges", laid_unicode_utf8_acceptRanges), ("bolthole/parse.marks", laid_bolthole_parse_marks), ("unicode/utf8.first", laid_unicode_utf8_first)] }
def UnitFreshSaid : Prop := unitFreshRow.holds Tryz.pinned (OpenSpec.ofChange unitFreshSpec)

/-- ITS FALSE NEIGHBOUR: 'it returns false'. Refute it at one input. -/
def unitFreshWrong : ChangeSpec := { name := "unitFresh", fn := fun _ => fun
  | [d] => { results := [.lit (.bool false)], args := [d] }
  | _ => none }
def UnitFreshWrongFalsely : Prop := unitFreshRow.holds Tryz.pinned (OpenSpec.ofChange unitFreshWrong)

/-- 'boltholelaw12.UnitSame': WHATEVER THE INPUT: true; the input reads as it did. -/
def unitSameSpec : ChangeSpec := { name := "unitSame", fn := fun _ => fun
  | [d1, d2, d3] => { results := [.lit (.bool true)], args := [d1, d2, d3] }
  | _ => none }
def unitSameRow : OpenClaim := { program := "ytojoahlpgmnbnaagreatdoor", sum := "1c3e34a7db00d7caa35ea965312cdda217b2e0903fc417f83c1644d3c6d70b87", func := "bolthole/boltholelaw12.UnitSame", spec := "unitSame", unfollowed := true, recurses := true, named := ["unicode/utf8.first", "unicode/utf8.acceptRanges", "bolthole/parse.marks"], apart := false, laid := [("unicode/utf8.acceptRanges", laid_unicode_utf8_acceptRanges), ("bolthole/parse.marks", laid_bolthole_parse_marks), ("unicode/utf8.first", laid_unicode_utf8_first)] }
def UnitSameSaid : Prop := unitSameRow.holds Tryz.pinned (OpenSpec.ofChange unitSameSpec)

/-- ITS FALSE NEIGHBOUR: 'it returns false'. Refute it at one input. -/
def unitSameWrong : ChangeSpec := { name := "unitSame", fn := fun _ => fun
  | [d1, d2, d3] => { results := [.lit (.bool false)], args := [d1, d2, d3] }
  | _ => none }
def UnitSameWrongFalsely : Prop := unitSameRow.holds Tryz.pinned (OpenSpec.ofChange unitSameWrong)

/-- 'boltholelaw12.UnitOwn': WHATEVER THE INPUT: true; the input reads as it did. -/
def unitOwnSpec : ChangeSpec := { name := "unitOwn", fn := fun _ => fun
  | [d] => { results := [.lit (.bool true)], args := [d] }
  | _ => none }
def unitOwnRow : OpenClaim := { program := "ytojoahlpgmnbnaagreatdoor", sum := "1c3e34a7db00d7caa35ea965312cdda217b2e0903fc417f83c1644d3c6d70b87", func := "bolthole/boltholelaw12.UnitOwn", spec := "unitOwn", unfollowed := true, recurses := true, named := ["unicode/utf8.first", "unicode/utf8.acceptRanges", "bolthole/parse.marks"], apart := false, laid := [("unicode/utf8.acceptRanges", laid_unicode_utf8_acceptRanges), ("bolthole/parse.marks", laid_bolthole_parse_marks), ("unicode/utf8.first", laid_unicode_utf8_first)] }
def UnitOwnSaid : Prop := unitOwnRow.holds Tryz.pinned (OpenSpec.ofChange unitOwnSpec)

/-- ITS FALSE NEIGHBOUR: 'it returns false'. Refute it at one input. -/
def unitOwnWrong : ChangeSpec := { name := "unitOwn", fn := fun _ => fun
  | [d] => { results := [.lit (.bool false)], args := [d] }
  | _ => none }
def UnitOwnWrongFalsely : Prop := unitOwnRow.holds Tryz.pinned (OpenSpec.ofChange unitOwnWrong)

/- THE SECOND FORM. 'bulk': how many values and letters a reading holds, each counted each time it is reached (what is shared counts as often as it is met; a slice's spare places count too). A statement '..UptoSaid' is the law's where the arguments, and the package variables that the reading takes, are together of bulk at most 1048576: NARROWER than '..Said'. Prove '..Said' where nothing that the law and all that it calls make is longer than what came in: it says more and counts as full. Else prove '..UptoSaid'. A law counts once. -/
mutual
def uptoBulk {H : Type} : DataW H → Nat
  | .lit (.string bytes) => bytes.length + 1
  | .lit _ => 1
  | .nil => 1
  | .ptr d => uptoBulk d + 1
  | .slice elems spare => uptoBulkAll elems + uptoBulkAll spare + 1
  | .agg parts => uptoBulkAll parts + 1
  | .iface _ d => uptoBulk d + 1
  | .map entries => uptoBulkEntries entries + 1
  | .held _ => 1
def uptoBulkAll {H : Type} : List (DataW H) → Nat
  | [] => 0
  | d :: r => uptoBulk d + uptoBulkAll r
def uptoBulkEntries {H : Type} : List (Lit × DataW H) → Nat
  | [] => 0
  | x :: r => uptoBulkEntry x + uptoBulkEntries r
def uptoBulkEntry {H : Type} : Lit × DataW H → Nat
  | (.string bytes, d) => bytes.length + uptoBulk d + 1
  | (_, d) => uptoBulk d + 1
 end
def uptoSmall : (H : Type) → List (DataW H) → Bool := fun _ ds => decide (uptoBulkAll ds ≤ 1048576)
def OpenSpec.upto (s : _root_.Go.ChangeSpec) : _root_.Go.OpenSpec := { _root_.Go.OpenSpec.ofChange s with cond := some uptoSmall }

/-- 'boltholelaw12.UnitDecls', WHERE WHAT IT READS IS OF BULK AT MOST 1048576: true; the input reads as it did. -/
def unitDeclsUptoRow : OpenClaim := { program := "ytojoahlpgmnbnaagreatdoor", sum := "1c3e34a7db00d7caa35ea965312cdda217b2e0903fc417f83c1644d3c6d70b87", func := "bolthole/boltholelaw12.UnitDecls", spec := "unitDecls", unfollowed := true, recurses := true, named := ["unicode/utf8.first", "unicode/utf8.acceptRanges", "bolthole/parse.marks"], apart := false, laid := [("unicode/utf8.acceptRanges", laid_unicode_utf8_acceptRanges), ("bolthole/parse.marks", laid_bolthole_parse_marks), ("unicode/utf8.first", laid_unicode_utf8_first)], narrowed := true }
def UnitDeclsUptoSaid : Prop := unitDeclsUptoRow.holds Tryz.pinned (OpenSpec.upto unitDeclsSpec)

/-- 'boltholelaw12.UnitFresh', WHERE WHAT IT READS IS OF BULK AT MOST 1048576: true; the input reads as it did. -/
def unitFreshUptoRow : OpenClaim := { program := "ytojoahlpgmnbnaagreatdoor", sum := "1c3e34a7db00d7caa35ea965312cdda217b2e0903fc417f83c1644d3c6d70b87", func := "bolthole/boltholelaw12.UnitFresh", spec := "unitFresh", unfollowed := true, recurses := true, named := ["unicode/utf8.first", "unicode/utf8.acceptRanges", "bolthole/parse.marks"], apart := false, laid := [("unicode/utf8.acceptRanges", laid_unicode_utf8_acceptRanges), ("bolthole/parse.marks", laid_bolthole_parse_marks), ("unicode/utf8.first", laid_unicode_utf8_first)], narrowed := true }
def UnitFreshUptoSaid : Prop := unitFreshUptoRow.holds Tryz.pinned (OpenSpec.upto unitFreshSpec)

/-- 'boltholelaw12.UnitSame', WHERE WHAT IT READS IS OF BULK AT MOST 1048576: true; the input reads as it did. -/
def unitSameUptoRow : OpenClaim := { program := "ytojoahlpgmnbnaagreatdoor", sum := "1c3e34a7db00d7caa35ea965312cdda217b2e0903fc417f83c1644d3c6d70b87", func := "bolthole/boltholelaw12.UnitSame", spec := "unitSame", unfollowed := true, recurses := true, named := ["unicode/utf8.first", "unicode/utf8.acceptRanges", "bolthole/parse.marks"], apart := false, laid := [("unicode/utf8.acceptRanges", laid_unicode_utf8_acceptRanges), ("bolthole/parse.marks", laid_bolthole_parse_marks), ("unicode/utf8.first", laid_unicode_utf8_first)], narrowed := true }
def UnitSameUptoSaid : Prop := unitSameUptoRow.holds Tryz.pinned (OpenSpec.upto unitSameSpec)

/-- 'boltholelaw12.UnitOwn', WHERE WHAT IT READS IS OF BULK AT MOST 1048576: true; the input reads as it did. -/
def unitOwnUptoRow : OpenClaim := { program := "ytojoahlpgmnbnaagreatdoor", sum := "1c3e34a7db00d7caa35ea965312cdda217b2e0903fc417f83c1644d3c6d70b87", func := "bolthole/boltholelaw12.UnitOwn", spec := "unitOwn", unfollowed := true, recurses := true, named := ["unicode/utf8.first", "unicode/utf8.acceptRanges", "bolthole/parse.marks"], apart := false, laid := [("unicode/utf8.acceptRanges", laid_unicode_utf8_acceptRanges), ("bolthole/parse.marks", laid_bolthole_parse_marks), ("unicode/utf8.first", laid_unicode_utf8_first)], narrowed := true }
def UnitOwnUptoSaid : Prop := unitOwnUptoRow.holds Tryz.pinned (OpenSpec.upto unitOwnSpec)

end Rows
end Go.Proofs.YtojoahlpgmnbnaaGreatDoor

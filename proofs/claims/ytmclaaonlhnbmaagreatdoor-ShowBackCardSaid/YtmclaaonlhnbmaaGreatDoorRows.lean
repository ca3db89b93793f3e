/-
  NARROWER THAN 'FOR EVERY INPUT', by the rows' own cells (each row's printed sentence says how): ParseDecl: laid · ShowBack: laid · ShowBrackets: laid · ShowAlike: loops, laid.
  DERIVED. THE GIVEN ROWS OF THIS SEAT. 4 by the template 'for every input the law returns true; each argument reads behind the call as it read before'; 0 by the template 'total and deterministic' (their statements: YtmclaaonlhnbmaaGreatDoorTotals.lean).
  GIVEN WITH THE SEED: the statements are not yours to turn. If you find one false, say at which input.
  Laid BY PROGRAM, IN A SANDBOX (cutbox-rows.mjs): the forced cells as the released guide's own fill.sh prints them over the translation aa8be3639e49e511… (all of the seat's roots in one cut). By AI agents, Wed Nov 11 2026. No macro, syntax, notation, axiom, sorry.
-/
import Derived.Test.YtmclaaonlhnbmaaGreatDoorChecked
import GoSem.PinnedTables
import GoSem.Claim
import GoSem.ClaimJoined
import GoSem.ClaimMapViews
import Derived.JoinedTies
import Derived.KernelRfl
namespace Go.Proofs.YtmclaaonlhnbmaaGreatDoor
/- THE CELL 'sum', in the pinned program and in every row, IS THE sha256 OF THE DUMP (.gsa) THAT YtmclaaonlhnbmaaGreatDoorProg.lean LOADS. Nothing in Lean hashes anything: it is a label: what it is worth is what the hold of that sum in a sandbox is worth. -/
noncomputable def Tryz.pinned : Pinned := { name := "ytmclaaonlhnbmaagreatdoor", sum := "aa8be3639e49e5113e77cebb1a2e1aad008f9e919399b9371e047c4fda163c95", checked := Tryz.checked }
namespace Rows
def none {H : Type} : Left H := { results := [], args := [] }

/- WHAT THE LISTED PACKAGE-LEVEL VARIABLES READ AS WHEN THE CALL BEGINS. Each datum BY PROGRAM (the guide's laid-datum.mjs) off the statement by which the dump's own 'gosem.cut.vars' lays the variable. In a bare row this is a premise. The card (YtmclaaonlhnbmaaGreatDoorCards.lean) ties it to the program's text. -/
def laid_unicode_utf8_acceptRanges {H : Type} : DataW H := .agg [.agg [.lit (.int .u8 128), .lit (.int .u8 191)], .agg [.lit (.int .u8 160), .lit (.int .u8 191)], .agg [.lit (.int .u8 128), .lit (.int .u8 159)], .agg [.lit (.int .u8 144), .lit (.int .u8 191)], .agg [.lit (.int .u8 128), .lit (.int .u8 143)], .agg [.lit (.int .u8 0), .lit (.int .u8 0)], .agg [.lit (.int .u8 0), .lit (.int .u8 0)], .agg [.lit (.int .u8 0), .lit (.int .u8 0)], .agg [.lit (.int .u8 0), .lit (.int .u8 0)], .agg [.lit (.int .u8 0), .lit (.int .u8 0)], .agg [.lit (.int .u8 0), .lit (.int .u8 0)], .agg [.lit (.int .u8 0), .lit (.int .u8 0)], .agg [.lit (.int .u8 0), .lit (.int .u8 0)], .agg [.lit (.int .u8 0), .lit (.int .u8 0)], .agg [.lit (.int .u8 0), .lit (.int .u8 0)], .agg [.lit (.int .u8 0), .lit (.int .u8 0)]]
def laid_bolthole_parse_marks {H : Type} : DataW H := .agg [.agg [.lit (.string [124, 124]), .lit (.int .i64 1)], .agg [.lit (.string [38, 38]), .lit (.int .i64 2)], .agg [.lit (.string [61, 61]), .lit (.int .i64 3)], .agg [.lit (.string [33, 61]), .lit (.int .i64 3)], .agg [.lit (.string [60]), .lit (.int .i64 3)], .agg [.lit (.string [60, 61]), .lit (.int .i64 3)], .agg [.lit (.string [62]), .lit (.int .i64 3)], .agg [.lit (.string [62, 61]), .lit (.int .i64 3)], .agg [.lit (.string [43]), .lit (.int .i64 4)], .agg [.lit (.string [45]), .lit (.int .i64 4)], .agg [.lit (.string [42]), .lit (.int .i64 5)], .agg [.lit (.string [47]), .lit (.int .i64 5)], .agg [.lit (.string [37]), .lit (.int .i64 5)]]
/-- One of Go's own tables, pinned by name: the form's constant. -/
def laid_unicode_utf8_first : DataW Unit := Go.Pinned.utf8First

/-- 'boltholelaw10.ParseDecl': WHATEVER THE INPUT: true; the input reads as it did. -/
def parseDeclSpec : ChangeSpec := { name := "parseDecl", fn := fun _ => fun
  | [d] => { results := [.lit (.bool true)], args := [d] }
  | _ => none }
def parseDeclRow : OpenClaim := { program := "ytmclaaonlhnbmaagreatdoor", sum := "aa8be3639e49e5113e77cebb1a2e1aad008f9e919399b9371e047c4fda163c95", func := "bolthole/boltholelaw10.ParseDecl", spec := "parseDecl", unfollowed := true, recurses := true, named := ["unicode/utf8.first", "unicode/utf8.acceptRanges", "bolthole/parse.marks"], apart := false, laid := [("unicode/utf8.acceptRanges", laid_unicode_utf8_acceptRanges), ("bolthole/parse.marks", laid_bolthole_parse_marks), ("unicode/utf8.first", laid_unicode_utf8_first)] }
def ParseDeclSaid : Prop := parseDeclRow.holds Tryz.pinned (OpenSpec.ofChange parseDeclSpec)

/-- ITS FALSE NEIGHBOUR: 'it returns false'. Refute it at one input. -/
def parseDeclWrong : ChangeSpec := { name := "parseDecl", fn := fun _ => fun
  | [d] => { results := [.lit (.bool false)], args := [d] }
  | _ => none }
def ParseDeclWrongFalsely : Prop := parseDeclRow.holds Tryz.pinned (OpenSpec.ofChange parseDeclWrong)

/-- 'boltholelaw11.ShowBack': WHATEVER THE INPUT: true; the input reads as it did. -/
def showBackSpec : ChangeSpec := { name := "showBack", fn := fun _ => fun
  | [d] => { results := [.lit (.bool true)], args := [d] }
  | _ => none }
def showBackRow : OpenClaim := { program := "ytmclaaonlhnbmaagreatdoor", sum := "aa8be3639e49e5113e77cebb1a2e1aad008f9e919399b9371e047c4fda163c95", func := "bolthole/boltholelaw11.ShowBack", spec := "showBack", inPlace := ["internal/abi.NoEscape", "internal/bytealg.MakeNoZero"], unfollowed := true, recurses := true, named := ["unicode/utf8.first", "unicode/utf8.acceptRanges", "bolthole/parse.marks"], apart := false, laid := [("unicode/utf8.acceptRanges", laid_unicode_utf8_acceptRanges), ("bolthole/parse.marks", laid_bolthole_parse_marks), ("unicode/utf8.first", laid_unicode_utf8_first)] }
def ShowBackSaid : Prop := showBackRow.holds Tryz.pinned (OpenSpec.ofChange showBackSpec)

/-- ITS FALSE NEIGHBOUR: 'it returns false'. Refute it at one input. -/
def showBackWrong : ChangeSpec := { name := "showBack", fn := fun _ => fun
  | [d] => { results := [.lit (.bool false)], args := [d] }
  | _ => none }
def ShowBackWrongFalsely : Prop := showBackRow.holds Tryz.pinned (OpenSpec.ofChange showBackWrong)

/-- 'boltholelaw11.ShowBrackets': WHATEVER THE INPUT: true; the input reads as it did. -/
def showBracketsSpec : ChangeSpec := { name := "showBrackets", fn := fun _ => fun
  | [d1, d2, d3] => { results := [.lit (.bool true)], args := [d1, d2, d3] }
  | _ => none }
def showBracketsRow : OpenClaim := { program := "ytmclaaonlhnbmaagreatdoor", sum := "aa8be3639e49e5113e77cebb1a2e1aad008f9e919399b9371e047c4fda163c95", func := "bolthole/boltholelaw11.ShowBrackets", spec := "showBrackets", inPlace := ["internal/abi.NoEscape", "internal/bytealg.MakeNoZero"], unfollowed := true, recurses := true, named := ["unicode/utf8.first", "unicode/utf8.acceptRanges", "bolthole/parse.marks"], apart := false, laid := [("unicode/utf8.acceptRanges", laid_unicode_utf8_acceptRanges), ("bolthole/parse.marks", laid_bolthole_parse_marks), ("unicode/utf8.first", laid_unicode_utf8_first)] }
def ShowBracketsSaid : Prop := showBracketsRow.holds Tryz.pinned (OpenSpec.ofChange showBracketsSpec)

/-- ITS FALSE NEIGHBOUR: 'it returns false'. Refute it at one input. -/
def showBracketsWrong : ChangeSpec := { name := "showBrackets", fn := fun _ => fun
  | [d1, d2, d3] => { results := [.lit (.bool false)], args := [d1, d2, d3] }
  | _ => none }
def ShowBracketsWrongFalsely : Prop := showBracketsRow.holds Tryz.pinned (OpenSpec.ofChange showBracketsWrong)

/-- 'boltholelaw11.ShowAlike': WHATEVER THE INPUT: true; the input reads as it did. -/
def showAlikeSpec : ChangeSpec := { name := "showAlike", fn := fun _ => fun
  | [d1, d2, d3] => { results := [.lit (.bool true)], args := [d1, d2, d3] }
  | _ => none }
def showAlikeRow : OpenClaim := { program := "ytmclaaonlhnbmaagreatdoor", sum := "aa8be3639e49e5113e77cebb1a2e1aad008f9e919399b9371e047c4fda163c95", func := "bolthole/boltholelaw11.ShowAlike", spec := "showAlike", inPlace := ["internal/abi.NoEscape", "internal/bytealg.MakeNoZero"], unfollowed := true, recurses := true, named := ["unicode/utf8.first", "unicode/utf8.acceptRanges", "bolthole/parse.marks"], loops := true, apart := false, laid := [("unicode/utf8.acceptRanges", laid_unicode_utf8_acceptRanges), ("bolthole/parse.marks", laid_bolthole_parse_marks), ("unicode/utf8.first", laid_unicode_utf8_first)] }
def ShowAlikeSaid : Prop := showAlikeRow.holds Tryz.pinned (OpenSpec.ofChange showAlikeSpec)

/-- ITS FALSE NEIGHBOUR: 'it returns false'. Refute it at one input. -/
def showAlikeWrong : ChangeSpec := { name := "showAlike", fn := fun _ => fun
  | [d1, d2, d3] => { results := [.lit (.bool false)], args := [d1, d2, d3] }
  | _ => none }
def ShowAlikeWrongFalsely : Prop := showAlikeRow.holds Tryz.pinned (OpenSpec.ofChange showAlikeWrong)

/- THE SECOND FORM. 'bulk': how many values and letters a reading holds, each counted each time it is reached (what is shared counts as often as it is met; a slice's spare places count too). A statement '..UptoSaid' is the law's where the arguments, and the package variables that the reading takes, are together of bulk at most 1048576: NARROWER than '..Said'. Prove '..Said' where nothing that the law and all that it calls make is longer than what came in: it says more and counts as full. Else prove '..UptoSaid'. A law counts once. -/
mutual
def uptoBulk {H : Type} : DataW H → Nat
  | .lit (.string bytes) => bytes.length + 1
  | .lit _ => 1
  | .nil => 1
  | .ptr d => uptoBulk d + 1
  | .slice elems spare => uptoBulkAll elems + uptoBulkAll spare + 1
  | .agg parts => uptoBulkAll parts + 1
  | .iface _ d => uptoBulk d + 1
  | .map entries => uptoBulkEntries entries + 1
  | .held _ => 1
def uptoBulkAll {H : Type} : List (DataW H) → Nat
  | [] => 0
  | d :: r => uptoBulk d + uptoBulkAll r
def uptoBulkEntries {H : Type} : List (Lit × DataW H) → Nat
  | [] => 0
  | x :: r => uptoBulkEntry x + uptoBulkEntries r
def uptoBulkEntry {H : Type} : Lit × DataW H → Nat
  | (.string bytes, d) => bytes.length + uptoBulk d + 1
  | (_, d) => uptoBulk d + 1
 end
def uptoSmall : (H : Type) → List (DataW H) → Bool := fun _ ds => decide (uptoBulkAll ds ≤ 1048576)
def OpenSpec.upto (s : _root_.Go.ChangeSpec) : _root_.Go.OpenSpec := { _root_.Go.OpenSpec.ofChange s with cond := some uptoSmall }

/-- 'boltholelaw10.ParseDecl', WHERE WHAT IT READS IS OF BULK AT MOST 1048576: true; the input reads as it did. -/
def parseDeclUptoRow : OpenClaim := { program := "ytmclaaonlhnbmaagreatdoor", sum := "aa8be3639e49e5113e77cebb1a2e1aad008f9e919399b9371e047c4fda163c95", func := "bolthole/boltholelaw10.ParseDecl", spec := "parseDecl", unfollowed := true, recurses := true, named := ["unicode/utf8.first", "unicode/utf8.acceptRanges", "bolthole/parse.marks"], apart := false, laid := [("unicode/utf8.acceptRanges", laid_unicode_utf8_acceptRanges), ("bolthole/parse.marks", laid_bolthole_parse_marks), ("unicode/utf8.first", laid_unicode_utf8_first)], narrowed := true }
def ParseDeclUptoSaid : Prop := parseDeclUptoRow.holds Tryz.pinned (OpenSpec.upto parseDeclSpec)

/-- 'boltholelaw11.ShowBack', WHERE WHAT IT READS IS OF BULK AT MOST 1048576: true; the input reads as it did. -/
def showBackUptoRow : OpenClaim := { program := "ytmclaaonlhnbmaagreatdoor", sum := "aa8be3639e49e5113e77cebb1a2e1aad008f9e919399b9371e047c4fda163c95", func := "bolthole/boltholelaw11.ShowBack", spec := "showBack", inPlace := ["internal/abi.NoEscape", "internal/bytealg.MakeNoZero"], unfollowed := true, recurses := true, named := ["unicode/utf8.first", "unicode/utf8.acceptRanges", "bolthole/parse.marks"], apart := false, laid := [("unicode/utf8.acceptRanges", laid_unicode_utf8_acceptRanges), ("bolthole/parse.marks", laid_bolthole_parse_marks), ("unicode/utf8.first", laid_unicode_utf8_first)], narrowed := true }
def ShowBackUptoSaid : Prop := showBackUptoRow.holds Tryz.pinned (OpenSpec.upto showBackSpec)

/-- 'boltholelaw11.ShowBrackets', WHERE WHAT IT READS IS OF BULK AT MOST 1048576: true; the input reads as it did. -/
def showBracketsUptoRow : OpenClaim := { program := "ytmclaaonlhnbmaagreatdoor", sum := "aa8be3639e49e5113e77cebb1a2e1aad008f9e919399b9371e047c4fda163c95", func := "bolthole/boltholelaw11.ShowBrackets", spec := "showBrackets", inPlace := ["internal/abi.NoEscape", "internal/bytealg.MakeNoZero"], unfollowed := true, recurses := true, named := ["unicode/utf8.first", "unicode/utf8.acceptRanges", "bolthole/parse.marks"], apart := false, laid := [("unicode/utf8.acceptRanges", laid_unicode_utf8_acceptRanges), ("bolthole/parse.marks", laid_bolthole_parse_marks), ("unicode/utf8.first", laid_unicode_utf8_first)], narrowed := true }
def ShowBracketsUptoSaid : Prop := showBracketsUptoRow.holds Tryz.pinned (OpenSpec.upto showBracketsSpec)

/-- 'boltholelaw11.ShowAlike', WHERE WHAT IT READS IS OF BULK AT MOST 1048576: true; the input reads as it did. -/
def showAlikeUptoRow : OpenClaim := { program := "ytmclaaonlhnbmaagreatdoor", sum := "aa8be3639e49e5113e77cebb1a2e1aad008f9e919399b9371e047c4fda163c95", func := "bolthole/boltholelaw11.ShowAlike", spec := "showAlike", inPlace := ["internal/abi.NoEscape", "internal/bytealg.MakeNoZero"], unfollowed := true, recurses := true, named := ["unicode/utf8.first", "unicode/utf8.acceptRanges", "bolthole/parse.marks"], loops := true, apart := false, laid := [("unicode/utf8.acceptRanges", laid_unicode_utf8_acceptRanges), ("bolthole/parse.marks", laid_bolthole_parse_marks), ("unicode/utf8.first", laid_unicode_utf8_first)], narrowed := true }
def ShowAlikeUptoSaid : Prop := showAlikeUptoRow.holds Tryz.pinned (OpenSpec.upto showAlikeSpec)

end Rows
end Go.Proofs.YtmclaaonlhnbmaaGreatDoor

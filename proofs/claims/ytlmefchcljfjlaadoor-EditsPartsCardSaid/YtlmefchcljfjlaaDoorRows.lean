/-
  NARROWER THAN 'FOR EVERY INPUT', by the rows' own cells (each row's printed sentence says how): EditsApply: laid · EditsTell: laid · EditsBack: laid · EditsParts: laid · EditsLong: laid.
  DERIVED. THE GIVEN ROWS OF THIS SEAT. 5 by the template 'for every input the law returns true; each argument reads behind the call as it read before'; 0 by the template 'total and deterministic' (their statements: YtlmefchcljfjlaaDoorTotals.lean).
  GIVEN WITH THE SEED: the statements are not yours to turn. If you find one false, say at which input.
  Laid BY PROGRAM, IN A SANDBOX (cutbox-rows.mjs): the forced cells as the released guide's own fill.sh prints them over the translation d50d4cd6361b6906… (all of the seat's roots in one cut). By AI agents, Wed Nov 11 2026. No macro, syntax, notation, axiom, sorry.
-/
import Derived.Test.YtlmefchcljfjlaaDoorChecked
import GoSem.PinnedTables
import GoSem.Claim
import GoSem.ClaimJoined
import GoSem.ClaimMapViews
import Derived.JoinedTies
import Derived.KernelRfl
namespace Go.Proofs.YtlmefchcljfjlaaDoor
/- THE CELL 'sum', in the pinned program and in every row, IS THE sha256 OF THE DUMP (.gsa) THAT YtlmefchcljfjlaaDoorProg.lean LOADS. Nothing in Lean hashes anything: it is a label: what it is worth is what the hold of that sum in a sandbox is worth. -/
noncomputable def Tryd.pinned : Pinned := { name := "ytlmefchcljfjlaadoor", sum := "d50d4cd6361b69068dffb3cfee85ae8c0949f09ad6e5bc7347dd2787dede65b4", checked := Tryd.checked }
namespace Rows
def none {H : Type} : Left H := { results := [], args := [] }

/- WHAT THE LISTED PACKAGE-LEVEL VARIABLES READ AS WHEN THE CALL BEGINS. Each datum BY PROGRAM (the guide's laid-datum.mjs) off the statement by which the dump's own 'gosem.cut.vars' lays the variable. In a bare row this is a premise. The card (YtlmefchcljfjlaaDoorCards.lean) ties it to the program's text. -/
def laid_unicode_utf8_acceptRanges {H : Type} : DataW H := .agg [.agg [.lit (.int .u8 128), .lit (.int .u8 191)], .agg [.lit (.int .u8 160), .lit (.int .u8 191)], .agg [.lit (.int .u8 128), .lit (.int .u8 159)], .agg [.lit (.int .u8 144), .lit (.int .u8 191)], .agg [.lit (.int .u8 128), .lit (.int .u8 143)], .agg [.lit (.int .u8 0), .lit (.int .u8 0)], .agg [.lit (.int .u8 0), .lit (.int .u8 0)], .agg [.lit (.int .u8 0), .lit (.int .u8 0)], .agg [.lit (.int .u8 0), .lit (.int .u8 0)], .agg [.lit (.int .u8 0), .lit (.int .u8 0)], .agg [.lit (.int .u8 0), .lit (.int .u8 0)], .agg [.lit (.int .u8 0), .lit (.int .u8 0)], .agg [.lit (.int .u8 0), .lit (.int .u8 0)], .agg [.lit (.int .u8 0), .lit (.int .u8 0)], .agg [.lit (.int .u8 0), .lit (.int .u8 0)], .agg [.lit (.int .u8 0), .lit (.int .u8 0)]]
/-- One of Go's own tables, pinned by name: the form's constant. -/
def laid_unicode_utf8_first : DataW Unit := Go.Pinned.utf8First

/-- 'boltholelaw06.EditsApply': WHATEVER THE INPUT: true; the input reads as it did. -/
def editsApplySpec : ChangeSpec := { name := "editsApply", fn := fun _ => fun
  | [d1, d2] => { results := [.lit (.bool true)], args := [d1, d2] }
  | _ => none }
def editsApplyRow : OpenClaim := { program := "ytlmefchcljfjlaadoor", sum := "d50d4cd6361b69068dffb3cfee85ae8c0949f09ad6e5bc7347dd2787dede65b4", func := "bolthole/boltholelaw06.EditsApply", spec := "editsApply", unfollowed := true, recurses := true, named := ["unicode/utf8.first", "unicode/utf8.acceptRanges"], apart := false, laid := [("unicode/utf8.acceptRanges", laid_unicode_utf8_acceptRanges), ("unicode/utf8.first", laid_unicode_utf8_first)] }
def EditsApplySaid : Prop := editsApplyRow.holds Tryd.pinned (OpenSpec.ofChange editsApplySpec)

/-- ITS FALSE NEIGHBOUR: 'it returns false'. Refute it at one input. -/
def editsApplyWrong : ChangeSpec := { name := "editsApply", fn := fun _ => fun
  | [d1, d2] => { results := [.lit (.bool false)], args := [d1, d2] }
  | _ => none }
def EditsApplyWrongFalsely : Prop := editsApplyRow.holds Tryd.pinned (OpenSpec.ofChange editsApplyWrong)

/-- 'boltholelaw06.EditsTell': WHATEVER THE INPUT: true; the input reads as it did. -/
def editsTellSpec : ChangeSpec := { name := "editsTell", fn := fun _ => fun
  | [d1, d2, d3] => { results := [.lit (.bool true)], args := [d1, d2, d3] }
  | _ => none }
def editsTellRow : OpenClaim := { program := "ytlmefchcljfjlaadoor", sum := "d50d4cd6361b69068dffb3cfee85ae8c0949f09ad6e5bc7347dd2787dede65b4", func := "bolthole/boltholelaw06.EditsTell", spec := "editsTell", unfollowed := true, recurses := true, named := ["unicode/utf8.first", "unicode/utf8.acceptRanges"], apart := false, laid := [("unicode/utf8.acceptRanges", laid_unicode_utf8_acceptRanges), ("unicode/utf8.first", laid_unicode_utf8_first)] }
def EditsTellSaid : Prop := editsTellRow.holds Tryd.pinned (OpenSpec.ofChange editsTellSpec)

/-- ITS FALSE NEIGHBOUR: 'it returns false'. Refute it at one input. -/
def editsTellWrong : ChangeSpec := { name := "editsTell", fn := fun _ => fun
  | [d1, d2, d3] => { results := [.lit (.bool false)], args := [d1, d2, d3] }
  | _ => none }
def EditsTellWrongFalsely : Prop := editsTellRow.holds Tryd.pinned (OpenSpec.ofChange editsTellWrong)

/-- 'boltholelaw06.EditsBack': WHATEVER THE INPUT: true; the input reads as it did. -/
def editsBackSpec : ChangeSpec := { name := "editsBack", fn := fun _ => fun
  | [d1, d2] => { results := [.lit (.bool true)], args := [d1, d2] }
  | _ => none }
def editsBackRow : OpenClaim := { program := "ytlmefchcljfjlaadoor", sum := "d50d4cd6361b69068dffb3cfee85ae8c0949f09ad6e5bc7347dd2787dede65b4", func := "bolthole/boltholelaw06.EditsBack", spec := "editsBack", unfollowed := true, recurses := true, named := ["unicode/utf8.first", "unicode/utf8.acceptRanges"], apart := false, laid := [("unicode/utf8.acceptRanges", laid_unicode_utf8_acceptRanges), ("unicode/utf8.first", laid_unicode_utf8_first)] }
def EditsBackSaid : Prop := editsBackRow.holds Tryd.pinned (OpenSpec.ofChange editsBackSpec)

/-- ITS FALSE NEIGHBOUR: 'it returns false'. Refute it at one input. -/
def editsBackWrong : ChangeSpec := { name := "editsBack", fn := fun _ => fun
  | [d1, d2] => { results := [.lit (.bool false)], args := [d1, d2] }
  | _ => none }
def EditsBackWrongFalsely : Prop := editsBackRow.holds Tryd.pinned (OpenSpec.ofChange editsBackWrong)

/-- 'boltholelaw06.EditsParts': WHATEVER THE INPUT: true; the input reads as it did. -/
def editsPartsSpec : ChangeSpec := { name := "editsParts", fn := fun _ => fun
  | [d1, d2, d3] => { results := [.lit (.bool true)], args := [d1, d2, d3] }
  | _ => none }
def editsPartsRow : OpenClaim := { program := "ytlmefchcljfjlaadoor", sum := "d50d4cd6361b69068dffb3cfee85ae8c0949f09ad6e5bc7347dd2787dede65b4", func := "bolthole/boltholelaw06.EditsParts", spec := "editsParts", unfollowed := true, recurses := true, named := ["unicode/utf8.first", "unicode/utf8.acceptRanges"], apart := false, laid := [("unicode/utf8.acceptRanges", laid_unicode_utf8_acceptRanges), ("unicode/utf8.first", laid_unicode_utf8_first)] }
def EditsPartsSaid : Prop := editsPartsRow.holds Tryd.pinned (OpenSpec.ofChange editsPartsSpec)

/-- ITS FALSE NEIGHBOUR: 'it returns false'. Refute it at one input. -/
def editsPartsWrong : ChangeSpec := { name := "editsParts", fn := fun _ => fun
  | [d1, d2, d3] => { results := [.lit (.bool false)], args := [d1, d2, d3] }
  | _ => none }
def EditsPartsWrongFalsely : Prop := editsPartsRow.holds Tryd.pinned (OpenSpec.ofChange editsPartsWrong)

/-- 'boltholelaw06.EditsLong': WHATEVER THE INPUT: true; the input reads as it did. -/
def editsLongSpec : ChangeSpec := { name := "editsLong", fn := fun _ => fun
  | [d] => { results := [.lit (.bool true)], args := [d] }
  | _ => none }
def editsLongRow : OpenClaim := { program := "ytlmefchcljfjlaadoor", sum := "d50d4cd6361b69068dffb3cfee85ae8c0949f09ad6e5bc7347dd2787dede65b4", func := "bolthole/boltholelaw06.EditsLong", spec := "editsLong", unfollowed := true, recurses := true, named := ["unicode/utf8.first", "unicode/utf8.acceptRanges"], apart := false, laid := [("unicode/utf8.acceptRanges", laid_unicode_utf8_acceptRanges), ("unicode/utf8.first", laid_unicode_utf8_first)] }
def EditsLongSaid : Prop := editsLongRow.holds Tryd.pinned (OpenSpec.ofChange editsLongSpec)

/-- ITS FALSE NEIGHBOUR: 'it returns false'. Refute it at one input. -/
def editsLongWrong : ChangeSpec := { name := "editsLong", fn := fun _ => fun
  | [d] => { results := [.lit (.bool false)], args := [d] }
  | _ => none }
def EditsLongWrongFalsely : Prop := editsLongRow.holds Tryd.pinned (OpenSpec.ofChange editsLongWrong)

/- THE SECOND FORM. 'bulk': how many values and letters a reading holds, each counted each time it is reached (what is shared counts as often as it is met; a slice's spare places count too). A statement '..UptoSaid' is the law's where the arguments, and the package variables that the reading takes, are together of bulk at most 1048576: NARROWER than '..Said'. Prove '..Said' where nothing that the law and all that it calls make is longer than what came in: it says more and counts as full. Else prove '..UptoSaid'. A law counts once. -/
mutual
def uptoBulk {H : Type} : DataW H → Nat
  | .lit (.string bytes) => bytes.length + 1
  | .lit _ => 1
  | .nil => 1
  | .ptr d => uptoBulk d + 1
  | .slice elems spare => uptoBulkAll elems + uptoBulkAll spare + 1
  | .agg parts => uptoBulkAll parts + 1
  | .iface _ d => uptoBulk d + 1
  | .map entries => uptoBulkEntries entries + 1
  | .held _ => 1
def uptoBulkAll {H : Type} : List (DataW H) → Nat
  | [] => 0
  | d :: r => uptoBulk d + uptoBulkAll r
def uptoBulkEntries {H : Type} : List (Lit × DataW H) → Nat
  | [] => 0
  | x :: r => uptoBulkEntry x + uptoBulkEntries r
def uptoBulkEntry {H : Type} : Lit × DataW H → Nat
  | (.string bytes, d) => bytes.length + uptoBulk d + 1
  | (_, d) => uptoBulk d + 1
 end
def uptoSmall : (H : Type) → List (DataW H) → Bool := fun _ ds => decide (uptoBulkAll ds ≤ 1048576)
def OpenSpec.upto (s : _root_.Go.ChangeSpec) : _root_.Go.OpenSpec := { _root_.Go.OpenSpec.ofChange s with cond := some uptoSmall }

/-- 'boltholelaw06.EditsApply', WHERE WHAT IT READS IS OF BULK AT MOST 1048576: true; the input reads as it did. -/
def editsApplyUptoRow : OpenClaim := { program := "ytlmefchcljfjlaadoor", sum := "d50d4cd6361b69068dffb3cfee85ae8c0949f09ad6e5bc7347dd2787dede65b4", func := "bolthole/boltholelaw06.EditsApply", spec := "editsApply", unfollowed := true, recurses := true, named := ["unicode/utf8.first", "unicode/utf8.acceptRanges"], apart := false, laid := [("unicode/utf8.acceptRanges", laid_unicode_utf8_acceptRanges), ("unicode/utf8.first", laid_unicode_utf8_first)], narrowed := true }
def EditsApplyUptoSaid : Prop := editsApplyUptoRow.holds Tryd.pinned (OpenSpec.upto editsApplySpec)

/-- 'boltholelaw06.EditsTell', WHERE WHAT IT READS IS OF BULK AT MOST 1048576: true; the input reads as it did. -/
def editsTellUptoRow : OpenClaim := { program := "ytlmefchcljfjlaadoor", sum := "d50d4cd6361b69068dffb3cfee85ae8c0949f09ad6e5bc7347dd2787dede65b4", func := "bolthole/boltholelaw06.EditsTell", spec := "editsTell", unfollowed := true, recurses := true, named := ["unicode/utf8.first", "unicode/utf8.acceptRanges"], apart := false, laid := [("unicode/utf8.acceptRanges", laid_unicode_utf8_acceptRanges), ("unicode/utf8.first", laid_unicode_utf8_first)], narrowed := true }
def EditsTellUptoSaid : Prop := editsTellUptoRow.holds Tryd.pinned (OpenSpec.upto editsTellSpec)

/-- 'boltholelaw06.EditsBack', WHERE WHAT IT READS IS OF BULK AT MOST 1048576: true; the input reads as it did. -/
def editsBackUptoRow : OpenClaim := { program := "ytlmefchcljfjlaadoor", sum := "d50d4cd6361b69068dffb3cfee85ae8c0949f09ad6e5bc7347dd2787dede65b4", func := "bolthole/boltholelaw06.EditsBack", spec := "editsBack", unfollowed := true, recurses := true, named := ["unicode/utf8.first", "unicode/utf8.acceptRanges"], apart := false, laid := [("unicode/utf8.acceptRanges", laid_unicode_utf8_acceptRanges), ("unicode/utf8.first", laid_unicode_utf8_first)], narrowed := true }
def EditsBackUptoSaid : Prop := editsBackUptoRow.holds Tryd.pinned (OpenSpec.upto editsBackSpec)

/-- 'boltholelaw06.EditsParts', WHERE WHAT IT READS IS OF BULK AT MOST 1048576: true; the input reads as it did. -/
def editsPartsUptoRow : OpenClaim := { program := "ytlmefchcljfjlaadoor", sum := "d50d4cd6361b69068dffb3cfee85ae8c0949f09ad6e5bc7347dd2787dede65b4", func := "bolthole/boltholelaw06.EditsParts", spec := "editsParts", unfollowed := true, recurses := true, named := ["unicode/utf8.first", "unicode/utf8.acceptRanges"], apart := false, laid := [("unicode/utf8.acceptRanges", laid_unicode_utf8_acceptRanges), ("unicode/utf8.first", laid_unicode_utf8_first)], narrowed := true }
def EditsPartsUptoSaid : Prop := editsPartsUptoRow.holds Tryd.pinned (OpenSpec.upto editsPartsSpec)

/-- 'boltholelaw06.EditsLong', WHERE WHAT IT READS IS OF BULK AT MOST 1048576: true; the input reads as it did. -/
def editsLongUptoRow : OpenClaim := { program := "ytlmefchcljfjlaadoor", sum := "d50d4cd6361b69068dffb3cfee85ae8c0949f09ad6e5bc7347dd2787dede65b4", func := "bolthole/boltholelaw06.EditsLong", spec := "editsLong", unfollowed := true, recurses := true, named := ["unicode/utf8.first", "unicode/utf8.acceptRanges"], apart := false, laid := [("unicode/utf8.acceptRanges", laid_unicode_utf8_acceptRanges), ("unicode/utf8.first", laid_unicode_utf8_first)], narrowed := true }
def EditsLongUptoSaid : Prop := editsLongUptoRow.holds Tryd.pinned (OpenSpec.upto editsLongSpec)

end Rows
end Go.Proofs.YtlmefchcljfjlaaDoor

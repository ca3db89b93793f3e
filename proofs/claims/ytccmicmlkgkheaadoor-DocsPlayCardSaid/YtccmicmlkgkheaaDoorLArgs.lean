/- Places that come in as arguments: how they read, before and behind. -/
import Derived.Test.YtccmicmlkgkheaaDoorLNil
import Derived.WalkKit
import Derived.ProofKit
import Derived.OpenShut
import Derived.ChangeSame
import Derived.WideKeyPair
import Derived.Lib.LaidU8T
import Derived.PinnedBridge
import Derived.Lay
import Derived.LaidOnce
import Derived.SevenTiedAt
import Derived.Deep.DeepHandedRow
namespace Go.Proofs.YtccmicmlkgkheaaDoor.L
open Go.Proofs Go.Shelf Go.RowKit Go.ChangeShapes Go.WideShapes Go.ChangeAt
open Go.WideMaps (ArrKey open_pair shut_pair)
open Go.Proofs.YtccmicmlkgkheaaDoor.U

theorem range_of {a : Int} (h : (Lit.int .i64 a).wf = true) : -9223372036854775808 ≤ a ∧ a < 9223372036854775808 := by
  simp only [Lit.wf, Bool.and_eq_true, decide_eq_true_eq] at h
  have h1 : IntKind.i64.min = -9223372036854775808 := by decide
  have h2 : IntKind.i64.max = 9223372036854775807 := by decide
  omega
theorem two_list {α : Type} {l : List α} (h : l.length = 2) : ∃ a0 a1, l = [a0, a1] := by
  match l, h with
  | [a0, a1], _ => exact ⟨a0, a1, rfl⟩
set_option maxRecDepth 20000 in
theorem openPlace {H : Type} {enc : TypeId × Value → H} {W : World} {sp : Nat → Bool} {held : Bool} {base b0 : Nat} {r : Reach} {v : Value} {d : DataW H} {ps : List MemPlace} (hval : Value.okWide Tryd.prog W r b0 54 v) (hd : DataW.Trod enc Tryd.prog W base sp held 54 v d ps) :
    ∃ a b : Int, v = .agg #[.int .i64 a, .int .i64 b] ∧ d = .agg [.lit (.int .i64 a), .lit (.int .i64 b)] ∧ ps = [] ∧ (Lit.int .i64 a).wf = true ∧ (Lit.int .i64 b).wf = true := by
  obtain ⟨cs, rfl, _⟩ := okWide_struct Tryd.underlying54 hval
  obtain ⟨fuel, hf⟩ := hd
  obtain ⟨y0, y1, n, hx, hl, g0, g1⟩ := Go.ChangeShapes.trod_struct2 Tryd.underlying54 hf
  rw [show Tryd.prog.cellsOf 54 = 2 by kernel_rfl] at hl
  obtain ⟨c0, c1, hc⟩ := two_list hl
  rw [hc] at g0 g1
  replace g0 : DataW.trod enc Tryd.prog W base sp held n 3 (([c0, c1].drop 0).take (Tryd.prog.cellsOf 3)) = some y0 := g0
  replace g1 : DataW.trod enc Tryd.prog W base sp held n 3 (([c0, c1].drop 1).take (Tryd.prog.cellsOf 3)) = some y1 := g1
  rw [show Tryd.prog.cellsOf 3 = 1 by kernel_rfl] at g0 g1
  replace g0 : DataW.trod enc Tryd.prog W base sp held n 3 [c0] = some y0 := g0
  replace g1 : DataW.trod enc Tryd.prog W base sp held n 3 [c1] = some y1 := g1
  obtain ⟨a, h0, rfl, wa⟩ := DataW.trod_int Tryd.underlying3 g0
  obtain ⟨b, h1, rfl, wb⟩ := DataW.trod_int Tryd.underlying3 g1
  cases h0; cases h1
  simp only [Prod.mk.injEq] at hx
  obtain ⟨rfl, rfl⟩ := hx
  refine ⟨a, b, ?_, rfl, rfl, wa, wb⟩
  have : cs.toList = [.int .i64 a, .int .i64 b] := hc
  rw [← this]
set_option maxRecDepth 20000 in
theorem shutPlace {H : Type} {enc : TypeId × Value → H} {W : World} {sp : Nat → Bool} {held : Bool} {base : Nat} {a b : Int} (wa : (Lit.int .i64 a).wf = true) (wb : (Lit.int .i64 b).wf = true) :
    DataW.Trod enc Tryd.prog W base sp held 54 (.agg #[.int .i64 a, .int .i64 b]) (.agg [.lit (.int .i64 a), .lit (.int .i64 b)]) [] := by
  refine ⟨3, ?_⟩
  have h := fun x (wx : (Lit.int .i64 x).wf = true) => Go.ChangeShapes.trod_int_mk (enc := enc) (w := W) (base := base) (spare := sp) (held := held) 1 Tryd.underlying3 wx
  refine Go.ChangeShapes.trod_struct2_mk (n := 2) (y0 := (.lit (.int .i64 a), [])) (y1 := (.lit (.int .i64 b), [])) Tryd.underlying54 ?_ ?_ ?_
  · rw [show Tryd.prog.cellsOf 54 = 2 by kernel_rfl]; rfl
  · show DataW.trod enc Tryd.prog W base sp held 2 3 (([Value.int .i64 a, Value.int .i64 b].drop 0).take (Tryd.prog.cellsOf 3)) = _
    rw [show Tryd.prog.cellsOf 3 = 1 by kernel_rfl]
    exact h a wa
  · show DataW.trod enc Tryd.prog W base sp held 2 3 (([Value.int .i64 a, Value.int .i64 b].drop 1).take (Tryd.prog.cellsOf 3)) = _
    rw [show Tryd.prog.cellsOf 3 = 1 by kernel_rfl]
    exact h b wb
set_option maxRecDepth 20000 in
theorem own : ownKnob Tryd.prog.godebug = none := by kernel_rfl
end Go.Proofs.YtccmicmlkgkheaaDoor.L

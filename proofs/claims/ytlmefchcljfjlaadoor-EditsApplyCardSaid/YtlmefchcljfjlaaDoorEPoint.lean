/- An edit and a byte as one argument: how it lies. -/
import Derived.Test.YtlmefchcljfjlaaDoorEArgs
namespace Go.Proofs.YtlmefchcljfjlaaDoor.E
open Go.Proofs Go.Shelf Go.RowKit Go.ChangeShapes Go.WideShapes Go.ChangeAt
open Go.Proofs.YtlmefchcljfjlaaDoor.U Go.Proofs.YtlmefchcljfjlaaDoor.L

theorem six_list {α : Type} {l : List α} (h : l.length = 6) : ∃ a0 a1 a2 a3 a4 a5, l = [a0, a1, a2, a3, a4, a5] := by
  match l, h with
  | [a0, a1, a2, a3, a4, a5], _ => exact ⟨a0, a1, a2, a3, a4, a5, rfl⟩
theorem point_of {H : Type} {enc : TypeId × Value → H} {W : World} {held : Bool} {fuel : Nat} {cs : List Value} {x : DataW H × List MemPlace} (h : DataW.trod enc Tryd.prog W 0 (fun _ => true) held fuel 34 cs = some x) :
    ∃ (e : EdP) (n : Int), cs = edC e ++ [.int .i64 n] := by
  obtain ⟨xs, n, rfl, rfl, hcl, hxl, hfd⟩ := DataW.trod_struct Tryd.underlying34 h
  rw [show Tryd.prog.cellsOf 34 = 6 by kernel_rfl] at hcl
  obtain ⟨c0, c1, c2, c3, c4, c5, rfl⟩ := six_list hcl
  obtain ⟨y0, y1, rfl⟩ := two_list (hxl.trans rfl)
  have f0 := hfd 0 _ rfl
  have g0 : DataW.trod enc Tryd.prog W 0 (fun _ => true) held n 32 (([c0, c1, c2, c3, c4, c5].drop 0).take (Tryd.prog.cellsOf 32)) = some y0 := f0
  rw [show Tryd.prog.cellsOf 32 = 5 by kernel_rfl] at g0
  replace g0 : DataW.trod enc Tryd.prog W 0 (fun _ => true) held n 32 [c0, c1, c2, c3, c4] = some y0 := g0
  clear f0
  have f1 := hfd 1 _ rfl
  have g1 : DataW.trod enc Tryd.prog W 0 (fun _ => true) held n 3 (([c0, c1, c2, c3, c4, c5].drop 5).take (Tryd.prog.cellsOf 3)) = some y1 := f1
  rw [show Tryd.prog.cellsOf 3 = 1 by kernel_rfl] at g1
  replace g1 : DataW.trod enc Tryd.prog W 0 (fun _ => true) held n 3 [c5] = some y1 := g1
  clear f1
  obtain ⟨e, h0, _, _⟩ := edit_of g0
  obtain ⟨a, h1, _, _⟩ := DataW.trod_int Tryd.underlying3 g1
  cases h1
  refine ⟨e, a, ?_⟩
  rw [← h0]; rfl
/-- A point, as an argument. -/
theorem openPoint {H : Type} {enc : TypeId × Value → H} {W : World} {held : Bool} {b0 : Nat} {r : Reach} {v : Value} {d : DataW H} {ps : List MemPlace} (hval : Value.okWide Tryd.prog W r b0 34 v) (hd : DataW.Trod enc Tryd.prog W 0 (fun _ => true) held 34 v d ps) :
    ∃ (e : EdP) (x : Int), v = .agg #[.int .i64 e.fl, .int .i64 e.fu, .int .i64 e.tl, .int .i64 e.tu, .string e.t, .int .i64 x] := by
  obtain ⟨cs, rfl, _⟩ := okWide_struct Tryd.underlying34 hval
  obtain ⟨fuel, hf⟩ := hd
  obtain ⟨e, x, h⟩ := point_of (cs := cs.toList) hf
  refine ⟨e, x, ?_⟩
  have : cs = (edC e ++ [Value.int .i64 x]).toArray := by rw [← h]
  rw [this]; rfl
/-- Edits, as an argument. -/
theorem openEds {H : Type} {enc : TypeId × Value → H} {W : World} {held : Bool} {b0 : Nat} {r : Reach} {v : Value} {d : DataW H} {ps : List MemPlace} (hval : Value.okWide Tryd.prog W r b0 22 v) (hd : DataW.Trod enc Tryd.prog W 0 (fun _ => true) held 22 v d ps) :
    ∃ (l : List EdP) (a : Option Addr) (cap : Nat), v = .slice a l.length cap ∧ l.length ≤ cap ∧ EdsIn W l (.slice a l.length cap) ∧ (∀ e ∈ l, e.t.size ∈ DataW.weights Tryd.prog 22 d) ∧ (l = [] ∨ ∃ r, (l.length + r) * 48 ∈ DataW.weights Tryd.prog 22 d) := by
  obtain ⟨a, n, cap, rfl⟩ := okWide_slice Tryd.underlying22 hval
  obtain ⟨fuel, hf⟩ := hd
  obtain ⟨l, a', cap', hc, h1, h2, _, h4, h5⟩ := eds_of (c := .slice a n cap) hf
  exact ⟨l, a', cap', hc, h1, by rw [← hc]; exact h2, h4, h5⟩
end Go.Proofs.YtlmefchcljfjlaaDoor.E

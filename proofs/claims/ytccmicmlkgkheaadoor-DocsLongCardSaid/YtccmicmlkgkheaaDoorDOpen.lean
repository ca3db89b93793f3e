/- Acts, and an act, as arguments: how they lie, and how great they are. -/
import Derived.Test.YtccmicmlkgkheaaDoorDArgs
namespace Go.Proofs.YtccmicmlkgkheaaDoor.D
open Go.Proofs Go.Shelf Go.RowKit Go.ChangeShapes Go.WideShapes Go.ChangeAt
open Go.Proofs.YtccmicmlkgkheaaDoor.U Go.Proofs.YtccmicmlkgkheaaDoor.L Go.Proofs.YtccmicmlkgkheaaDoor.E

theorem reach_le {n : Nat} (h : decide (n ≤ reachBytes) = true) : n ≤ 281474976710656 := by
  have : n ≤ reachBytes := by simpa using h
  simp only [reachBytes] at this
  omega
set_option maxRecDepth 20000 in
theorem openActs {H : Type} {enc : TypeId × Value → H} {W : World} {held : Bool} {b0 : Nat} {r : Reach} {v : Value} {d : DataW H} {ps : List MemPlace} (hval : Value.okWide Tryd.prog W r b0 22 v) (hd : DataW.Trod enc Tryd.prog W 0 (fun _ => true) held 22 v d ps)
    (hB : ∀ n ∈ DataW.weights Tryd.prog 22 d, n ≤ 281474976710656) : ∃ l : List ActP, ActsIn W l v ∧ (∀ a ∈ l, ActFit 281474976710656 a) ∧ l.length ≤ 281474976710656 := by
  obtain ⟨a, n, cap, rfl⟩ := okWide_slice Tryd.underlying22 hval
  obtain ⟨fuel, hf⟩ := hd
  exact acts_of (c := .slice a n cap) hf hB
set_option maxRecDepth 20000 in
theorem openAct {H : Type} {enc : TypeId × Value → H} {W : World} {held : Bool} {b0 : Nat} {r : Reach} {v : Value} {d : DataW H} {ps : List MemPlace} (hval : Value.okWide Tryd.prog W r b0 33 v) (hd : DataW.Trod enc Tryd.prog W 0 (fun _ => true) held 33 v d ps)
    (hB : ∀ n ∈ DataW.weights Tryd.prog 33 d, n ≤ 281474976710656) : ∃ (a : ActP) (ev : Value), v = .agg #[.int .i64 a.k, .string a.d.n, .int .i64 a.d.v, .string a.d.t, ev] ∧ EdsIn W a.es ev ∧ ActFit 281474976710656 a := by
  obtain ⟨cs, rfl, _⟩ := okWide_struct Tryd.underlying33 hval
  obtain ⟨fuel, hf⟩ := hd
  obtain ⟨a, ev, h, h2, h3⟩ := act_of (cs := cs.toList) hf hB
  refine ⟨a, ev, ?_, h2, h3⟩
  have : cs = (actC a ev).toArray := by rw [← h]
  rw [this]; rfl
end Go.Proofs.YtccmicmlkgkheaaDoor.D

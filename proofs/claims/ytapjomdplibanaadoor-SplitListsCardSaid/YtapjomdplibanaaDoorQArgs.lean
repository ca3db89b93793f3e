/- Numbers, and pairs of numbers, that come in as arguments: how they lie, and how great they are. -/
import Derived.Test.YtapjomdplibanaaDoorRows
import Derived.Test.YtapjomdplibanaaDoorQLists
import Derived.ChangeAt
import Derived.ProofKit
import Derived.OpenShut
import Derived.ChangeSame
import Derived.WideKeyPair
import Derived.Lib.LaidU8T
import Derived.PinnedBridge
import Derived.Lay
import Derived.LaidOnce
import Derived.SevenTiedAt
import Derived.Deep.DeepHandedRow
namespace Go.Proofs.YtapjomdplibanaaDoor.Q
open Go.Proofs Go.Shelf Go.RowKit Go.ChangeShapes Go.WideShapes Go.ChangeAt
open Go.WideMaps (ArrKey open_pair shut_pair)
open Go.Proofs.YtapjomdplibanaaDoor.U Go.Proofs.YtapjomdplibanaaDoor.S

theorem own : ownKnob Tryd.prog.godebug = none := by kernel_rfl
theorem reach_le {n : Nat} (h : decide (n ≤ reachBytes) = true) : n ≤ 281474976710656 := by
  have : n ≤ reachBytes := by simpa using h
  simp only [reachBytes] at this
  omega
theorem pairKey : ArrKey Tryd.prog 39 3 2 := ⟨Tryd.underlying39, by kernel_rfl, by kernel_rfl, by kernel_rfl⟩
theorem openPair {H : Type} {enc : TypeId × Value → H} {W : World} {sp : Nat → Bool} {held : Bool} {base b0 : Nat} {r : Reach} {v : Value} {d : DataW H} {ps : List MemPlace} (hval : Value.okWide Tryd.prog W r b0 39 v) (hd : DataW.Trod enc Tryd.prog W base sp held 39 v d ps) :
    ∃ a b : Int, v = .agg #[.int .i64 a, .int .i64 b] ∧ d = .agg [.lit (.int .i64 a), .lit (.int .i64 b)] ∧ ps = [] ∧ (Lit.int .i64 a).wf = true ∧ (Lit.int .i64 b).wf = true := open_pair pairKey Tryd.underlying3 hval hd
theorem shutPair {H : Type} {enc : TypeId × Value → H} {W : World} {sp : Nat → Bool} {held : Bool} {base : Nat} {a b : Int} (wa : (Lit.int .i64 a).wf = true) (wb : (Lit.int .i64 b).wf = true) :
    DataW.Trod enc Tryd.prog W base sp held 39 (.agg #[.int .i64 a, .int .i64 b]) (.agg [.lit (.int .i64 a), .lit (.int .i64 b)]) [] := shut_pair pairKey Tryd.underlying3 wa wb
set_option maxRecDepth 20000 in
theorem openInts {H : Type} {enc : TypeId × Value → H} {W : World} {held : Bool} {b0 : Nat} {r : Reach} {v : Value} {d : DataW H} {ps : List MemPlace} (hval : Value.okWide Tryd.prog W r b0 41 v) (hd : DataW.Trod enc Tryd.prog W 0 (fun _ => true) held 41 v d ps)
    (hB : ∀ n ∈ DataW.weights Tryd.prog 41 d, n ≤ 281474976710656) : ∃ zs : List Int, IntsIn W zs v ∧ zs.length ≤ 281474976710656 := by
  obtain ⟨a, n, cap, rfl⟩ := okWide_slice Tryd.underlying41 hval
  obtain ⟨fuel, hf⟩ := hd
  rcases open_ints Tryd.underlying41 Tryd.underlying3 (by kernel_rfl) hf with ⟨hcs, hx⟩ | ⟨a', len', cap', zs, hcs, _, hl, hm, hz, hx, hcell, _⟩
  · simp [Value.cells] at hcs
    obtain ⟨rfl, rfl, rfl⟩ := hcs
    exact ⟨[], ⟨none, 0, rfl, .inl rfl⟩, by simp⟩
  · simp [Value.cells] at hcs
    obtain ⟨rfl, rfl, rfl⟩ := hcs
    simp only [Prod.mk.injEq] at hx
    obtain ⟨rfl, rfl⟩ := hx
    simp only [if_true] at hz
    have htl : (zs.take n).length = n := by rw [List.length_take]; omega
    have hb : n ≤ 281474976710656 := by
      have h1 := hB ((n + (cap - n)) * 8) (by
        simp only [DataW.weights, Tryd.underlying41, List.mem_cons, lits, List.length_map]
        rw [show Tryd.prog.bytesOf 3 = 8 by kernel_rfl, htl, List.length_drop, hz]
        exact .inl rfl)
      omega
    refine ⟨zs.take n, ⟨some a', cap, by rw [htl], ?_⟩, by rw [htl]; exact hb⟩
    by_cases h0 : n = 0
    · exact .inl (List.length_eq_zero_iff.1 (by rw [htl]; exact h0))
    · obtain ⟨g, off, spot⟩ := a'
      have hspot : spot = none := by simpa [Addr.add] using World.cell?_spot (hcell 0 (by omega))
      subst hspot
      have hc : ∀ i (h : i < (zs.take n).length), W.cell? ⟨g, off + i, none⟩ = some (.int .i64 (zs.take n)[i]) := fun i hi => by
        rw [htl] at hi
        have h1 := hcell i (by omega)
        rw [Addr.add_lit] at h1
        rw [h1, List.getElem_take]
        have hi2 : i < zs.length := by omega
        simp [hi2]
      exact .inr ⟨g, off, rfl, World.block_lt_of_cell? W ⟨g, off + 0, none⟩ (hc 0 (by omega)), hc⟩
end Go.Proofs.YtapjomdplibanaaDoor.Q

/- Words that come in as an argument: how they lie, and how great they are. -/
import Derived.Test.YtnpmlnjkjijdpaaDoorRows
import Derived.Test.YtnpmlnjkjijdpaaDoorSTok
import Derived.ChangeAt
import Derived.ProofKit
import Derived.OpenShut
import Derived.ChangeSame
import Derived.WideKeyPair
import Derived.Lib.LaidU8T
import Derived.PinnedBridge
import Derived.Lay
import Derived.LaidOnce
import Derived.SevenTiedAt
import Derived.Deep.DeepHandedRow
namespace Go.Proofs.YtnpmlnjkjijdpaaDoor.S
open Go.Proofs Go.Shelf Go.RowKit Go.ChangeShapes Go.WideShapes Go.ChangeAt
open Go.Proofs.YtnpmlnjkjijdpaaDoor.U Go.Proofs.YtnpmlnjkjijdpaaDoor.L

theorem own : ownKnob Tryd.prog.godebug = none := by kernel_rfl
theorem four_list {α : Type} {l : List α} (h : l.length = 4) : ∃ a0 a1 a2 a3, l = [a0, a1, a2, a3] := by
  match l, h with
  | [a0, a1, a2, a3], _ => exact ⟨a0, a1, a2, a3, rfl⟩
theorem tokCs_snoc (l : List TokP) (t : TokP) : tokCs (l ++ [t]) = tokCs l ++ tokC t := by rw [tokCs_app]; simp [tokCs]
set_option maxRecDepth 20000 in
theorem tok_of {H : Type} {enc : TypeId × Value → H} {W : World} {held : Bool} {fuel : Nat} {cs : List Value} {x : DataW H × List MemPlace} (h : DataW.trod enc Tryd.prog W 0 (fun _ => true) held fuel 30 cs = some x) :
    ∃ e : TokP, cs = tokC e ∧ e.t.length ∈ DataW.weights Tryd.prog 30 x.1 := by
  obtain ⟨xs, n, rfl, rfl, hcl, hxl, hfd⟩ := DataW.trod_struct Tryd.underlying30 h
  rw [show Tryd.prog.cellsOf 30 = 4 by kernel_rfl] at hcl
  obtain ⟨c0, c1, c2, c3, rfl⟩ := four_list hcl
  obtain ⟨y0, y1, y2, y3, rfl⟩ := four_list (hxl.trans rfl)
  have f0 := hfd 0 _ rfl
  have g0 : DataW.trod enc Tryd.prog W 0 (fun _ => true) held n 28 (([c0, c1, c2, c3].drop 0).take (Tryd.prog.cellsOf 28)) = some y0 := f0
  rw [show Tryd.prog.cellsOf 28 = 1 by kernel_rfl] at g0
  replace g0 : DataW.trod enc Tryd.prog W 0 (fun _ => true) held n 28 [c0] = some y0 := g0
  clear f0
  have f1 := hfd 1 _ rfl
  have g1 : DataW.trod enc Tryd.prog W 0 (fun _ => true) held n 9 (([c0, c1, c2, c3].drop 1).take (Tryd.prog.cellsOf 9)) = some y1 := f1
  rw [show Tryd.prog.cellsOf 9 = 1 by kernel_rfl] at g1
  replace g1 : DataW.trod enc Tryd.prog W 0 (fun _ => true) held n 9 [c1] = some y1 := g1
  clear f1
  have f2 := hfd 2 _ rfl
  have g2 : DataW.trod enc Tryd.prog W 0 (fun _ => true) held n 3 (([c0, c1, c2, c3].drop 2).take (Tryd.prog.cellsOf 3)) = some y2 := f2
  rw [show Tryd.prog.cellsOf 3 = 1 by kernel_rfl] at g2
  replace g2 : DataW.trod enc Tryd.prog W 0 (fun _ => true) held n 3 [c2] = some y2 := g2
  clear f2
  have f3 := hfd 3 _ rfl
  have g3 : DataW.trod enc Tryd.prog W 0 (fun _ => true) held n 3 (([c0, c1, c2, c3].drop 3).take (Tryd.prog.cellsOf 3)) = some y3 := f3
  rw [show Tryd.prog.cellsOf 3 = 1 by kernel_rfl] at g3
  replace g3 : DataW.trod enc Tryd.prog W 0 (fun _ => true) held n 3 [c3] = some y3 := g3
  clear f3
  obtain ⟨a, h0, _, _⟩ := DataW.trod_int Tryd.underlying28 g0
  obtain ⟨ts, h1, e1, _⟩ := DataW.trod_string Tryd.underlying9 g1
  obtain ⟨b, h2, _, _⟩ := DataW.trod_int Tryd.underlying3 g2
  obtain ⟨c, h3, _, _⟩ := DataW.trod_int Tryd.underlying3 g3
  cases h0; cases h1; cases h2; cases h3
  subst e1
  refine ⟨⟨a, ts.toList, b, c⟩, by simp only [tokC, tl_mk], ?_⟩
  rw [tl_len]
  have hl : ts.data.toList.length = ts.size := by simp
  simp [DataW.weights, DataW.weightsEach, Tryd.underlying30]
/-- What is weighed of one is weighed of all. -/
theorem mem_weights {H : Type} {P : Program} {e : TypeId} {n : Nat} : ∀ {ds : List (DataW H)} {d : DataW H}, d ∈ ds → n ∈ DataW.weights P e d → n ∈ DataW.weightsAll P e ds
  | x :: r, d, hd, hn => by
    simp only [DataW.weightsAll, List.mem_append]
    rcases List.mem_cons.1 hd with rfl | hd
    · exact .inl hn
    · exact .inr (mem_weights hd hn)
set_option maxRecDepth 20000 in
/-- Words that lie one behind the other. -/
theorem toks_list {H : Type} {W : World} {g off : Nat} (E : List (DataW H × List MemPlace)) : ∀ m, m ≤ E.length → (∀ i (h : i < m) (hE : i < E.length), ∃ e : TokP, (∀ j u, (tokC e)[j]? = some u → W.cell? ⟨g, off + i * 4 + j, none⟩ = some u) ∧ e.t.length ∈ DataW.weights Tryd.prog 30 E[i].1) →
    ∃ l : List TokP, l.length = m ∧ ToksAt W g off l ∧ ∀ e ∈ l, e.t.length ∈ DataW.weightsAll Tryd.prog 30 (E.map (·.1))
  | 0, _, _ => ⟨[], rfl, fun j u hj => by simp [tokCs] at hj, fun e he => by simp at he⟩
  | m + 1, hm, h => by
    obtain ⟨l, h1, h2, h8⟩ := toks_list E m (by omega) (fun i hi hE => h i (by omega) hE)
    obtain ⟨e, h5, h9⟩ := h m (by omega) (by omega)
    have hlen := tokCs_length l
    refine ⟨l ++ [e], by simp [h1], ?_, fun x hx => ?_⟩
    · unfold ToksAt
      rw [tokCs_snoc]
      intro j u hj
      by_cases hj2 : j < (tokCs l).length
      · rw [List.getElem?_append_left hj2] at hj
        exact h2 j u hj
      · rw [List.getElem?_append_right (by omega)] at hj
        have := h5 _ u hj
        rw [show off + m * 4 + (j - (tokCs l).length) = off + j by omega] at this
        exact this
    · rcases List.mem_append.1 hx with hx | hx
      · exact h8 x hx
      · rw [List.mem_singleton.1 hx]
        exact mem_weights (List.mem_map.2 ⟨E[m], List.getElem_mem _, rfl⟩) h9
set_option maxRecDepth 20000 in
theorem toks_of {H : Type} {enc : TypeId × Value → H} {W : World} {held : Bool} {fuel : Nat} {c : Value} {x : DataW H × List MemPlace} (h : DataW.trod enc Tryd.prog W 0 (fun _ => true) held fuel 23 [c] = some x) :
    ∃ (l : List TokP), ToksIn 0 W l c ∧ (∀ e ∈ l, e.t.length ∈ DataW.weights Tryd.prog 23 x.1) ∧ (l = [] ∨ ∃ r, (l.length + r) * 40 ∈ DataW.weights Tryd.prog 23 x.1) := by
  rcases DataW.trod_slice Tryd.underlying23 h with ⟨hc, rfl⟩ | ⟨a, len, cap, elems, rest, m, hnm, hc, rfl, _, hl, hm, hlen, hel, _, _⟩
  · cases hc
    exact ⟨[], ⟨none, 0, rfl, Nat.le_refl _, .inl rfl⟩, by simp, .inl rfl⟩
  · cases hc
    by_cases h0 : len = 0
    · exact ⟨[], ⟨some a, cap, by simp [h0], Nat.zero_le _, .inl rfl⟩, by simp, .inl rfl⟩
    · obtain ⟨g, off, spot⟩ := a
      have hgo : ∀ i (h : i < len) (hE : i < elems.length), ∃ ci, W.cells? 0 ((⟨g, off, spot⟩ : Addr).add (i * 4)) 4 = some ci ∧ DataW.trod enc Tryd.prog W 0 (fun _ => true) held m 30 ci = some elems[i] := by
        intro i hi hE
        have h1 := hel i hi
        rw [show Tryd.prog.cellsOf 30 = 4 by kernel_rfl, List.getElem?_eq_getElem hE] at h1
        exact Option.bind_eq_some_iff.1 h1
      have hspot : spot = none := by
        obtain ⟨ci, hc1, _⟩ := hgo 0 (by omega) (by omega)
        obtain ⟨_, hcl, hcc⟩ := World.cells?_some hc1
        have h2 := hcc 0 (by omega)
        rw [List.getElem?_eq_getElem (by omega)] at h2
        simpa [Addr.add] using World.cell?_spot h2
      subst hspot
      obtain ⟨l, h1, h2, h8⟩ := toks_list (W := W) (g := g) (off := off) elems len (by omega) (fun i hi hE => by
        obtain ⟨ci, hc1, hc2⟩ := hgo i hi hE
        obtain ⟨e, rfl, hw2⟩ := tok_of hc2
        obtain ⟨_, hcl, hcc⟩ := World.cells?_some hc1
        refine ⟨e, fun j u hj => ?_, hw2⟩
        have hj4 : j < 4 := by
          have := (List.getElem?_eq_some_iff.1 hj).1
          simpa [tokC] using this
        have := hcc j hj4
        rw [Addr.add_lit, Addr.add_lit, hj] at this
        exact this)
      have hg : g < W.heap.size := by
        have h3 := h2 0 ((tokCs l)[0]'(by rw [tokCs_length]; omega)) (List.getElem?_eq_getElem _)
        exact World.block_lt_of_cell? W ⟨g, off + 0, none⟩ h3
      refine ⟨l, ⟨some ⟨g, off, none⟩, cap, by rw [h1], by omega, .inr ⟨g, off, rfl, Nat.zero_le _, hg, h2⟩⟩, fun e he => ?_, .inr ⟨rest.length, ?_⟩⟩
      · simp only [DataW.weights, Tryd.underlying23, List.mem_cons, List.mem_append]
        exact .inr (.inl (h8 e he))
      · simp only [DataW.weights, Tryd.underlying23, List.mem_cons, List.length_map]
        rw [show Tryd.prog.bytesOf 30 = 40 by kernel_rfl, h1, hlen]
        exact .inl rfl
theorem reach_le {n : Nat} (h : decide (n ≤ reachBytes) = true) : n ≤ 281474976710656 := by
  have : n ≤ reachBytes := by simpa using h
  simp only [reachBytes] at this
  omega
set_option maxRecDepth 20000 in
theorem openToks {H : Type} {enc : TypeId × Value → H} {W : World} {held : Bool} {b0 : Nat} {r : Reach} {v : Value} {d : DataW H} {ps : List MemPlace} (hval : Value.okWide Tryd.prog W r b0 23 v) (hd : DataW.Trod enc Tryd.prog W 0 (fun _ => true) held 23 v d ps)
    (hB : ∀ n ∈ DataW.weights Tryd.prog 23 d, n ≤ 281474976710656) : ∃ l : List TokP, ToksIn 0 W l v ∧ (∀ t ∈ l, t.t.length ≤ 281474976710656) ∧ l.length ≤ 281474976710656 := by
  obtain ⟨a, n, cap, rfl⟩ := okWide_slice Tryd.underlying23 hval
  obtain ⟨fuel, hf⟩ := hd
  obtain ⟨l, h1, h2, h3⟩ := toks_of (c := .slice a n cap) hf
  refine ⟨l, h1, fun t ht => hB _ (h2 t ht), ?_⟩
  rcases h3 with rfl | ⟨k, h3⟩
  · exact Nat.zero_le _
  · have := hB _ h3
    omega
end Go.Proofs.YtnpmlnjkjijdpaaDoor.S

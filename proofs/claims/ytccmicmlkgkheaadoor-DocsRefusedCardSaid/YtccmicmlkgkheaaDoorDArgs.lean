/- Acts of a script that come in as arguments: how they lie, and how long their texts are. -/
import Derived.Test.YtccmicmlkgkheaaDoorDRep
namespace Go.Proofs.YtccmicmlkgkheaaDoor.D
open Go.Proofs Go.Shelf Go.RowKit Go.ChangeShapes Go.WideShapes Go.ChangeAt
open Go.Lib hiding intOf
open Go.Proofs.YtccmicmlkgkheaaDoor.U Go.Proofs.YtccmicmlkgkheaaDoor.L Go.Proofs.YtccmicmlkgkheaaDoor.E

/-- An act's cells; ev: where its edits lie. -/
def actC (a : ActP) (ev : Value) : List Value := [.int .i64 a.k, .string a.d.n, .int .i64 a.d.v, .string a.d.t, ev]
/-- How long an act's texts are, each: no longer than so much. -/
structure ActFit (B : Nat) (a : ActP) : Prop where
  n : a.d.n.size ≤ B
  t : a.d.t.size ≤ B
  es : ∀ e ∈ a.es, e.t.size ≤ B
  len : a.es.length ≤ B
set_option maxRecDepth 20000 in
theorem doc_of {H : Type} {enc : TypeId × Value → H} {W : World} {held : Bool} {fuel : Nat} {cs : List Value} {x : DataW H × List MemPlace} (h : DataW.trod enc Tryd.prog W 0 (fun _ => true) held fuel 30 cs = some x) :
    ∃ d : DocP, cs = docC d ∧ d.n.size ∈ DataW.weights Tryd.prog 30 x.1 ∧ d.t.size ∈ DataW.weights Tryd.prog 30 x.1 := by
  obtain ⟨xs, n, rfl, rfl, hcl, hxl, hfd⟩ := DataW.trod_struct Tryd.underlying30 h
  rw [show Tryd.prog.cellsOf 30 = 3 by kernel_rfl] at hcl
  obtain ⟨c0, c1, c2, rfl⟩ := three_list hcl
  obtain ⟨y0, y1, y2, rfl⟩ := three_list (hxl.trans rfl)
  have f0 := hfd 0 _ rfl
  have g0 : DataW.trod enc Tryd.prog W 0 (fun _ => true) held n 9 (([c0, c1, c2].drop 0).take (Tryd.prog.cellsOf 9)) = some y0 := f0
  rw [show Tryd.prog.cellsOf 9 = 1 by kernel_rfl] at g0
  replace g0 : DataW.trod enc Tryd.prog W 0 (fun _ => true) held n 9 [c0] = some y0 := g0
  have f1 := hfd 1 _ rfl
  have g1 : DataW.trod enc Tryd.prog W 0 (fun _ => true) held n 3 (([c0, c1, c2].drop 1).take (Tryd.prog.cellsOf 3)) = some y1 := f1
  rw [show Tryd.prog.cellsOf 3 = 1 by kernel_rfl] at g1
  replace g1 : DataW.trod enc Tryd.prog W 0 (fun _ => true) held n 3 [c1] = some y1 := g1
  have f2 := hfd 2 _ rfl
  have g2 : DataW.trod enc Tryd.prog W 0 (fun _ => true) held n 9 (([c0, c1, c2].drop 2).take (Tryd.prog.cellsOf 9)) = some y2 := f2
  rw [show Tryd.prog.cellsOf 9 = 1 by kernel_rfl] at g2
  replace g2 : DataW.trod enc Tryd.prog W 0 (fun _ => true) held n 9 [c2] = some y2 := g2
  obtain ⟨t0, h0, e0, _⟩ := DataW.trod_string Tryd.underlying9 g0
  obtain ⟨v, h1, e1, _⟩ := DataW.trod_int Tryd.underlying3 g1
  obtain ⟨t2, h2, e2, _⟩ := DataW.trod_string Tryd.underlying9 g2
  cases h0; cases h1; cases h2
  subst e0; subst e2
  have hl0 : t0.data.toList.length = t0.size := by simp
  have hl2 : t2.data.toList.length = t2.size := by simp
  refine ⟨⟨t0, v, t2⟩, rfl, ?_, ?_⟩
  · simp [DataW.weights, DataW.weightsEach, Tryd.underlying30]
  · simp [DataW.weights, DataW.weightsEach, Tryd.underlying30]
set_option maxRecDepth 20000 in
/-- One act: its cells, its edits, and that nothing in it is longer than what is weighed. -/
theorem act_of {H : Type} {enc : TypeId × Value → H} {W : World} {held : Bool} {fuel B : Nat} {cs : List Value} {x : DataW H × List MemPlace} (h : DataW.trod enc Tryd.prog W 0 (fun _ => true) held fuel 33 cs = some x) (hB : ∀ n ∈ DataW.weights Tryd.prog 33 x.1, n ≤ B) :
    ∃ (a : ActP) (ev : Value), cs = actC a ev ∧ EdsIn W a.es ev ∧ ActFit B a := by
  obtain ⟨xs, n, rfl, rfl, hcl, hxl, hfd⟩ := DataW.trod_struct Tryd.underlying33 h
  rw [show Tryd.prog.cellsOf 33 = 5 by kernel_rfl] at hcl
  obtain ⟨c0, c1, c2, c3, c4, rfl⟩ := five_list hcl
  obtain ⟨y0, y1, y2, rfl⟩ := three_list (hxl.trans rfl)
  have f0 := hfd 0 _ rfl
  have g0 : DataW.trod enc Tryd.prog W 0 (fun _ => true) held n 3 (([c0, c1, c2, c3, c4].drop 0).take (Tryd.prog.cellsOf 3)) = some y0 := f0
  rw [show Tryd.prog.cellsOf 3 = 1 by kernel_rfl] at g0
  replace g0 : DataW.trod enc Tryd.prog W 0 (fun _ => true) held n 3 [c0] = some y0 := g0
  have f1 := hfd 1 _ rfl
  have g1 : DataW.trod enc Tryd.prog W 0 (fun _ => true) held n 30 (([c0, c1, c2, c3, c4].drop 1).take (Tryd.prog.cellsOf 30)) = some y1 := f1
  rw [show Tryd.prog.cellsOf 30 = 3 by kernel_rfl] at g1
  replace g1 : DataW.trod enc Tryd.prog W 0 (fun _ => true) held n 30 [c1, c2, c3] = some y1 := g1
  have f2 := hfd 2 _ rfl
  have g2 : DataW.trod enc Tryd.prog W 0 (fun _ => true) held n 31 (([c0, c1, c2, c3, c4].drop 4).take (Tryd.prog.cellsOf 31)) = some y2 := f2
  rw [show Tryd.prog.cellsOf 31 = 1 by kernel_rfl] at g2
  replace g2 : DataW.trod enc Tryd.prog W 0 (fun _ => true) held n 31 [c4] = some y2 := g2
  obtain ⟨k, h0, e0, _⟩ := DataW.trod_int Tryd.underlying3 g0
  obtain ⟨d, h1, w1, w2⟩ := doc_of g1
  obtain ⟨es, ea, ec, h2, _, h3, _, w3, w4⟩ := eds_of g2
  cases h0
  simp only [docC, List.cons.injEq, and_true] at h1
  obtain ⟨rfl, rfl, rfl⟩ := h1
  have hw : ∀ n, n ∈ DataW.weights Tryd.prog 30 y1.1 ∨ n ∈ DataW.weights Tryd.prog 31 y2.1 → n ≤ B := fun n hn => hB n (by
    simp only [List.map_cons, List.map_nil, DataW.weights, Tryd.underlying33, DataW.weightsEach, List.mem_append]
    rcases hn with hn | hn
    · exact .inr (.inl (by simpa using hn))
    · exact .inr (.inr (.inl (by simpa using hn))))
  refine ⟨⟨k, d, es⟩, c4, rfl, h3, hw _ (.inl w1), hw _ (.inl w2), fun e he => hw _ (.inr (w3 e he)), ?_⟩
  show es.length ≤ B
  rcases w4 with rfl | ⟨r, hr⟩
  · simp
  · have := hw _ (.inr hr); omega
/-- Acts, one behind the other. -/
def ActsAt (W : World) (g off : Nat) (l : List ActP) : Prop := ∀ i (hi : i < l.length), ∃ ev, (∀ j u, (actC l[i] ev)[j]? = some u → W.cell? ⟨g, off + i * 5 + j, none⟩ = some u) ∧ EdsIn W l[i].es ev
def ActsIn (W : World) (l : List ActP) (v : Value) : Prop := ∃ a cap, v = .slice a l.length cap ∧ (l = [] ∨ ∃ g off, a = some ⟨g, off, none⟩ ∧ g < W.heap.size ∧ ActsAt W g off l)
theorem EdsIn.below {W W' : World} {l : List EdP} {v : Value} (h : EdsIn W l v) (hb : Below W.heap.size W W') : EdsIn W' l v := h.later hb
/-- The act at a place, later on. -/
theorem act_at {W W' : World} {g off : Nat} {l : List ActP} (h : ActsAt W g off l) (hg : g < W.heap.size) (hb : Below W.heap.size W W') (i : Nat) (hi : i < l.length) :
    ∃ ev, EdsIn W' l[i].es ev ∧ W'.cell? ⟨g, off + i * 5, none⟩ = some (.int .i64 l[i].k) ∧ W'.cell? ⟨g, off + i * 5 + 1, none⟩ = some (.string l[i].d.n) ∧ W'.cell? ⟨g, off + i * 5 + 2, none⟩ = some (.int .i64 l[i].d.v) ∧
      W'.cell? ⟨g, off + i * 5 + 3, none⟩ = some (.string l[i].d.t) ∧ W'.cell? ⟨g, off + i * 5 + 4, none⟩ = some ev := by
  obtain ⟨ev, h1, h2⟩ := h i hi
  have hc : ∀ j u, (actC l[i] ev)[j]? = some u → W'.cell? ⟨g, off + i * 5 + j, none⟩ = some u := fun j u hj => (hb.cell (p := ⟨g, off + i * 5 + j, none⟩) hg).trans (h1 j u hj)
  exact ⟨ev, h2.later hb, hc 0 _ rfl, hc 1 _ rfl, hc 2 _ rfl, hc 3 _ rfl, hc 4 _ rfl⟩
set_option maxRecDepth 20000 in
theorem acts_of {H : Type} {enc : TypeId × Value → H} {W : World} {held : Bool} {fuel B : Nat} {c : Value} {x : DataW H × List MemPlace} (h : DataW.trod enc Tryd.prog W 0 (fun _ => true) held fuel 22 [c] = some x) (hB : ∀ n ∈ DataW.weights Tryd.prog 22 x.1, n ≤ B) :
    ∃ l : List ActP, ActsIn W l c ∧ (∀ a ∈ l, ActFit B a) ∧ l.length ≤ B := by
  rcases DataW.trod_slice Tryd.underlying22 h with ⟨hc, rfl⟩ | ⟨a, len, cap, elems, rest, m, hnm, hc, rfl, _, hl, hm, hlen, hel, _, _⟩
  · cases hc
    exact ⟨[], ⟨none, 0, rfl, .inl rfl⟩, by simp, by simp⟩
  · cases hc
    by_cases h0 : len = 0
    · exact ⟨[], ⟨some a, cap, by simp [h0], .inl rfl⟩, by simp, by simp⟩
    · obtain ⟨g, off, spot⟩ := a
      have hgo : ∀ i (h : i < len) (hE : i < elems.length), ∃ ci, W.cells? 0 ((⟨g, off, spot⟩ : Addr).add (i * 5)) 5 = some ci ∧ DataW.trod enc Tryd.prog W 0 (fun _ => true) held m 33 ci = some elems[i] := by
        intro i hi hE
        have h1 := hel i hi
        rw [show Tryd.prog.cellsOf 33 = 5 by kernel_rfl, List.getElem?_eq_getElem hE] at h1
        exact Option.bind_eq_some_iff.1 h1
      have hspot : spot = none := by
        obtain ⟨ci, hc1, _⟩ := hgo 0 (by omega) (by omega)
        obtain ⟨_, hcl, hcc⟩ := World.cells?_some hc1
        have h2 := hcc 0 (by omega)
        rw [List.getElem?_eq_getElem (by omega)] at h2
        simpa [Addr.add] using World.cell?_spot h2
      subst hspot
      have hBe : ∀ i (hE : i < elems.length), ∀ n ∈ DataW.weights Tryd.prog 33 elems[i].1, n ≤ B := fun i hE n hn => hB n (by
        simp only [DataW.weights, Tryd.underlying22, List.mem_cons, List.mem_append]
        exact .inr (.inl (mem_weights (List.mem_map.2 ⟨elems[i], List.getElem_mem _, rfl⟩) hn)))
      have hall : ∀ i (h : i < len), ∃ (a : ActP), (∃ ev, (∀ j u, (actC a ev)[j]? = some u → W.cell? ⟨g, off + i * 5 + j, none⟩ = some u) ∧ EdsIn W a.es ev) ∧ ActFit B a := by
        intro i hi
        obtain ⟨ci, hc1, hc2⟩ := hgo i hi (by omega)
        obtain ⟨a, ev, rfl, he, hf⟩ := act_of hc2 (hBe i (by omega))
        obtain ⟨_, hcl, hcc⟩ := World.cells?_some hc1
        refine ⟨a, ⟨ev, fun j u hj => ?_, he⟩, hf⟩
        have hj5 : j < 5 := by
          have := (List.getElem?_eq_some_iff.1 hj).1
          simpa [actC] using this
        have := hcc j hj5
        rw [Addr.add_lit, Addr.add_lit, hj] at this
        exact this
      have hg : g < W.heap.size := by
        obtain ⟨a, ⟨ev, h1, _⟩, _⟩ := hall 0 (by omega)
        exact World.block_lt_of_cell? W ⟨g, off + 0 * 5 + 0, none⟩ (h1 0 _ rfl)
      have key : ∀ k, k ≤ len → ∃ l : List ActP, l.length = k ∧ ActsAt W g off l ∧ ∀ a ∈ l, ActFit B a := by
        intro k
        induction k with
        | zero => exact fun _ => ⟨[], rfl, fun i hi => by simp at hi, by simp⟩
        | succ k ih =>
          intro hk
          obtain ⟨l, h1, h2, h3⟩ := ih (by omega)
          obtain ⟨a, h4, h5⟩ := hall k (by omega)
          refine ⟨l ++ [a], by simp [h1], fun i hi => ?_, fun x hx => ?_⟩
          · by_cases hik : i < l.length
            · rw [List.getElem_append_left hik]; exact h2 i hik
            · have e : i = k := by simp at hi; omega
              subst e
              rw [List.getElem_append_right (by omega)]
              simp only [h1, Nat.sub_self, List.getElem_cons_zero]
              exact h4
          · rcases List.mem_append.1 hx with hx | hx
            · exact h3 x hx
            · rw [List.mem_singleton.1 hx]; exact h5
      obtain ⟨l, h1, h2, h3⟩ := key len (Nat.le_refl _)
      refine ⟨l, ⟨some ⟨g, off, none⟩, cap, by rw [h1], .inr ⟨g, off, rfl, hg, h2⟩⟩, h3, ?_⟩
      have := hB ((elems.length + rest.length) * Tryd.prog.bytesOf 33) (by
        simp only [DataW.weights, Tryd.underlying22, List.mem_cons, List.length_map]
        first | exact .inl rfl | exact .inl trivial)
      rw [show Tryd.prog.bytesOf 33 = 72 by kernel_rfl] at this
      omega
end Go.Proofs.YtccmicmlkgkheaaDoor.D

/- Edits that come in as arguments: how they lie, and that they weigh no more than what is read; an edit and a byte as one argument. -/
import Derived.Test.YtccmicmlkgkheaaDoorRows
import Derived.Test.YtccmicmlkgkheaaDoorLArgs
import Derived.Test.YtccmicmlkgkheaaDoorEPlain
namespace Go.Proofs.YtccmicmlkgkheaaDoor.E
open Go.Proofs Go.Shelf Go.RowKit Go.ChangeShapes Go.WideShapes Go.ChangeAt
open Go.Proofs.YtccmicmlkgkheaaDoor.U Go.Proofs.YtccmicmlkgkheaaDoor.L

def edC (e : EdP) : List Value := [.int .i64 e.fl, .int .i64 e.fu, .int .i64 e.tl, .int .i64 e.tu, .string e.t]
def edCs : List EdP → List Value
  | [] => []
  | e :: r => edC e ++ edCs r
theorem edCs_length : ∀ (l : List EdP), (edCs l).length = 5 * l.length
  | [] => rfl
  | e :: r => by simp only [edCs, List.length_append, edCs_length r, List.length_cons, edC, List.length_nil]; omega
theorem edCs_snoc : ∀ (l : List EdP) (e : EdP), edCs (l ++ [e]) = edCs l ++ edC e
  | [], e => by simp [edCs]
  | x :: r, e => by simp [edCs, edCs_snoc r e]
/-- How heavy edits are: each 5 and its text. -/
def wtD : List EdP → Nat
  | [] => 0
  | e :: r => 1 + e.t.size + wtD r
theorem wtD_app : ∀ (a b : List EdP), wtD (a ++ b) = wtD a + wtD b
  | [], b => by simp [wtD]
  | e :: r, b => by simp only [List.cons_append, wtD, wtD_app r b]; omega
theorem wtD_len : ∀ (l : List EdP), l.length ≤ wtD l
  | [] => Nat.le_refl _
  | e :: r => by have := wtD_len r; simp only [List.length_cons, wtD]; omega
def EdsAt (W : World) (g off : Nat) (l : List EdP) : Prop := ∀ j u, (edCs l)[j]? = some u → W.cell? ⟨g, off + j, none⟩ = some u
def EdsIn (W : World) (l : List EdP) (v : Value) : Prop := ∃ a cap, v = .slice a l.length cap ∧ (l = [] ∨ ∃ g off, a = some ⟨g, off, none⟩ ∧ g < W.heap.size ∧ EdsAt W g off l)
theorem EdsIn.later {W W' : World} {l : List EdP} {v : Value} (h : EdsIn W l v) (hb : Below W.heap.size W W') : EdsIn W' l v := by
  obtain ⟨a, cap, h1, h2⟩ := h
  refine ⟨a, cap, h1, h2.imp id fun ⟨g, off, h3, h4, h5⟩ => ⟨g, off, h3, by have := hb.size; omega, fun j u hj => ?_⟩⟩
  exact (hb.cell (p := ⟨g, off + j, none⟩) h4).trans (h5 j u hj)
theorem bulkAll_snoc {H : Type} : ∀ (a : List (DataW H)) (d : DataW H), Rows.uptoBulkAll (a ++ [d]) = Rows.uptoBulkAll a + Rows.uptoBulk d
  | [], d => by simp [Rows.uptoBulkAll]
  | x :: r, d => by simp only [List.cons_append, Rows.uptoBulkAll, bulkAll_snoc r d]; omega
theorem three_list {α : Type} {l : List α} (h : l.length = 3) : ∃ a0 a1 a2, l = [a0, a1, a2] := by
  match l, h with
  | [a0, a1, a2], _ => exact ⟨a0, a1, a2, rfl⟩
theorem five_list {α : Type} {l : List α} (h : l.length = 5) : ∃ a0 a1 a2 a3 a4, l = [a0, a1, a2, a3, a4] := by
  match l, h with
  | [a0, a1, a2, a3, a4], _ => exact ⟨a0, a1, a2, a3, a4, rfl⟩
set_option maxRecDepth 20000 in
theorem place_of {H : Type} {enc : TypeId × Value → H} {W : World} {held : Bool} {fuel : Nat} {cs : List Value} {x : DataW H × List MemPlace} (h : DataW.trod enc Tryd.prog W 0 (fun _ => true) held fuel 54 cs = some x) :
    ∃ a b, cs = [.int .i64 a, .int .i64 b] ∧ (Lit.int .i64 a).wf = true ∧ (Lit.int .i64 b).wf = true := by
  obtain ⟨xs, n, rfl, rfl, hcl, hxl, hfd⟩ := DataW.trod_struct Tryd.underlying54 h
  rw [show Tryd.prog.cellsOf 54 = 2 by kernel_rfl] at hcl
  obtain ⟨c0, c1, rfl⟩ := two_list hcl
  obtain ⟨y0, y1, rfl⟩ := two_list (hxl.trans rfl)
  have f0 := hfd 0 _ rfl
  have g0 : DataW.trod enc Tryd.prog W 0 (fun _ => true) held n 3 (([c0, c1].drop 0).take (Tryd.prog.cellsOf 3)) = some y0 := f0
  rw [show Tryd.prog.cellsOf 3 = 1 by kernel_rfl] at g0
  replace g0 : DataW.trod enc Tryd.prog W 0 (fun _ => true) held n 3 [c0] = some y0 := g0
  clear f0
  have f1 := hfd 1 _ rfl
  have g1 : DataW.trod enc Tryd.prog W 0 (fun _ => true) held n 3 (([c0, c1].drop 1).take (Tryd.prog.cellsOf 3)) = some y1 := f1
  rw [show Tryd.prog.cellsOf 3 = 1 by kernel_rfl] at g1
  replace g1 : DataW.trod enc Tryd.prog W 0 (fun _ => true) held n 3 [c1] = some y1 := g1
  clear f1
  obtain ⟨a, h0, _, wa⟩ := DataW.trod_int Tryd.underlying3 g0
  obtain ⟨b, h1, _, wb⟩ := DataW.trod_int Tryd.underlying3 g1
  cases h0; cases h1
  exact ⟨a, b, rfl, wa, wb⟩
set_option maxRecDepth 20000 in
theorem edit_of {H : Type} {enc : TypeId × Value → H} {W : World} {held : Bool} {fuel : Nat} {cs : List Value} {x : DataW H × List MemPlace} (h : DataW.trod enc Tryd.prog W 0 (fun _ => true) held fuel 56 cs = some x) :
    ∃ e : EdP, cs = edC e ∧ 1 + e.t.size ≤ Rows.uptoBulk x.1 ∧ e.t.size ∈ DataW.weights Tryd.prog 56 x.1 := by
  obtain ⟨xs, n, rfl, rfl, hcl, hxl, hfd⟩ := DataW.trod_struct Tryd.underlying56 h
  rw [show Tryd.prog.cellsOf 56 = 5 by kernel_rfl] at hcl
  obtain ⟨c0, c1, c2, c3, c4, rfl⟩ := five_list hcl
  obtain ⟨y0, y1, y2, rfl⟩ := three_list (hxl.trans rfl)
  have f0 := hfd 0 _ rfl
  have g0 : DataW.trod enc Tryd.prog W 0 (fun _ => true) held n 54 (([c0, c1, c2, c3, c4].drop 0).take (Tryd.prog.cellsOf 54)) = some y0 := f0
  rw [show Tryd.prog.cellsOf 54 = 2 by kernel_rfl] at g0
  replace g0 : DataW.trod enc Tryd.prog W 0 (fun _ => true) held n 54 [c0, c1] = some y0 := g0
  clear f0
  have f1 := hfd 1 _ rfl
  have g1 : DataW.trod enc Tryd.prog W 0 (fun _ => true) held n 54 (([c0, c1, c2, c3, c4].drop 2).take (Tryd.prog.cellsOf 54)) = some y1 := f1
  rw [show Tryd.prog.cellsOf 54 = 2 by kernel_rfl] at g1
  replace g1 : DataW.trod enc Tryd.prog W 0 (fun _ => true) held n 54 [c2, c3] = some y1 := g1
  clear f1
  have f2 := hfd 2 _ rfl
  have g2 : DataW.trod enc Tryd.prog W 0 (fun _ => true) held n 9 (([c0, c1, c2, c3, c4].drop 4).take (Tryd.prog.cellsOf 9)) = some y2 := f2
  rw [show Tryd.prog.cellsOf 9 = 1 by kernel_rfl] at g2
  replace g2 : DataW.trod enc Tryd.prog W 0 (fun _ => true) held n 9 [c4] = some y2 := g2
  clear f2
  obtain ⟨a, b, h0, _⟩ := place_of g0
  obtain ⟨c, d, h1, _⟩ := place_of g1
  obtain ⟨ts, h2, e2, _⟩ := DataW.trod_string Tryd.underlying9 g2
  cases h0; cases h1; cases h2
  subst e2
  have hl : ts.data.toList.length = ts.size := by simp
  refine ⟨⟨a, b, c, d, ts⟩, rfl, ?_, ?_⟩
  · simp only [Rows.uptoBulk, Rows.uptoBulkAll, List.map_cons, List.map_nil]
    omega
  · simp [DataW.weights, DataW.weightsEach, Tryd.underlying56]
/-- What is weighed of one is weighed of all. -/
theorem mem_weights {H : Type} {P : Program} {e : TypeId} {n : Nat} : ∀ {ds : List (DataW H)} {d : DataW H}, d ∈ ds → n ∈ DataW.weights P e d → n ∈ DataW.weightsAll P e ds
  | x :: r, d, hd, hn => by
    simp only [DataW.weightsAll, List.mem_append]
    rcases List.mem_cons.1 hd with rfl | hd
    · exact .inl hn
    · exact .inr (mem_weights hd hn)
set_option maxRecDepth 20000 in
/-- Edits that lie one behind the other. -/
theorem edits_of {H : Type} {W : World} {g off : Nat} (E : List (DataW H × List MemPlace)) : ∀ m, m ≤ E.length → (∀ i (h : i < m) (hE : i < E.length), ∃ e : EdP, (∀ j u, (edC e)[j]? = some u → W.cell? ⟨g, off + i * 5 + j, none⟩ = some u) ∧ 1 + e.t.size ≤ Rows.uptoBulk E[i].1 ∧ e.t.size ∈ DataW.weights Tryd.prog 56 E[i].1) →
    ∃ l : List EdP, l.length = m ∧ EdsAt W g off l ∧ wtD l ≤ Rows.uptoBulkAll ((E.take m).map (·.1)) ∧ ∀ e ∈ l, e.t.size ∈ DataW.weightsAll Tryd.prog 56 (E.map (·.1))
  | 0, _, _ => ⟨[], rfl, fun j u hj => by simp [edCs] at hj, by simp [wtD], fun e he => by simp at he⟩
  | m + 1, hm, h => by
    obtain ⟨l, h1, h2, h4, h8⟩ := edits_of E m (by omega) (fun i hi hE => h i (by omega) hE)
    obtain ⟨e, h5, h7, h9⟩ := h m (by omega) (by omega)
    have hlen := edCs_length l
    refine ⟨l ++ [e], by simp [h1], ?_, ?_, fun x hx => ?_⟩
    · unfold EdsAt
      rw [edCs_snoc]
      intro j u hj
      by_cases hj2 : j < (edCs l).length
      · rw [List.getElem?_append_left hj2] at hj
        exact h2 j u hj
      · rw [List.getElem?_append_right (by omega)] at hj
        have := h5 _ u hj
        rw [show off + m * 5 + (j - (edCs l).length) = off + j by omega] at this
        exact this
    · rw [wtD_app, List.take_succ_eq_append_getElem (by omega), List.map_append, List.map_singleton, bulkAll_snoc]
      simp only [wtD]
      omega
    · rcases List.mem_append.1 hx with hx | hx
      · exact h8 x hx
      · rw [List.mem_singleton.1 hx]
        exact mem_weights (List.mem_map.2 ⟨E[m], List.getElem_mem _, rfl⟩) h9
set_option maxRecDepth 20000 in
theorem eds_of {H : Type} {enc : TypeId × Value → H} {W : World} {held : Bool} {fuel : Nat} {c : Value} {x : DataW H × List MemPlace} (h : DataW.trod enc Tryd.prog W 0 (fun _ => true) held fuel 31 [c] = some x) :
    ∃ (l : List EdP) (a : Option Addr) (cap : Nat), c = .slice a l.length cap ∧ l.length ≤ cap ∧ EdsIn W l c ∧ wtD l ≤ Rows.uptoBulk x.1 ∧ (∀ e ∈ l, e.t.size ∈ DataW.weights Tryd.prog 31 x.1) ∧ (l = [] ∨ ∃ r, (l.length + r) * 48 ∈ DataW.weights Tryd.prog 31 x.1) := by
  rcases DataW.trod_slice Tryd.underlying31 h with ⟨hc, rfl⟩ | ⟨a, len, cap, elems, rest, m, hnm, hc, rfl, _, hl, hm, hlen, hel, _, _⟩
  · cases hc
    exact ⟨[], none, 0, rfl, Nat.le_refl _, ⟨none, 0, rfl, .inl rfl⟩, by simp [wtD], by simp, .inl rfl⟩
  · cases hc
    by_cases h0 : len = 0
    · refine ⟨[], some a, cap, by simp [h0], Nat.zero_le _, ⟨some a, cap, by simp [h0], .inl rfl⟩, by simp [wtD], by simp, .inl rfl⟩
    · obtain ⟨g, off, spot⟩ := a
      have hgo : ∀ i (h : i < len) (hE : i < elems.length), ∃ ci, W.cells? 0 ((⟨g, off, spot⟩ : Addr).add (i * 5)) 5 = some ci ∧ DataW.trod enc Tryd.prog W 0 (fun _ => true) held m 56 ci = some elems[i] := by
        intro i hi hE
        have h1 := hel i hi
        rw [show Tryd.prog.cellsOf 56 = 5 by kernel_rfl, List.getElem?_eq_getElem hE] at h1
        exact Option.bind_eq_some_iff.1 h1
      have hspot : spot = none := by
        obtain ⟨ci, hc1, _⟩ := hgo 0 (by omega) (by omega)
        obtain ⟨_, hcl, hcc⟩ := World.cells?_some hc1
        have h2 := hcc 0 (by omega)
        rw [List.getElem?_eq_getElem (by omega)] at h2
        simpa [Addr.add] using World.cell?_spot h2
      subst hspot
      obtain ⟨l, h1, h2, h4, h8⟩ := edits_of (W := W) (g := g) (off := off) elems len (by omega) (fun i hi hE => by
        obtain ⟨ci, hc1, hc2⟩ := hgo i hi hE
        obtain ⟨e, rfl, hw, hw2⟩ := edit_of hc2
        obtain ⟨_, hcl, hcc⟩ := World.cells?_some hc1
        refine ⟨e, fun j u hj => ?_, hw, hw2⟩
        have hj5 : j < 5 := by
          have := (List.getElem?_eq_some_iff.1 hj).1
          simpa [edC] using this
        have := hcc j hj5
        rw [Addr.add_lit, Addr.add_lit, hj] at this
        exact this)
      have hg : g < W.heap.size := by
        have h3 := h2 0 ((edCs l)[0]'(by rw [edCs_length]; omega)) (List.getElem?_eq_getElem _)
        exact World.block_lt_of_cell? W ⟨g, off + 0, none⟩ h3
      refine ⟨l, some ⟨g, off, none⟩, cap, by rw [h1], by omega, ⟨some ⟨g, off, none⟩, cap, by rw [h1], .inr ⟨g, off, rfl, hg, h2⟩⟩, ?_, fun e he => ?_, .inr ⟨rest.length, ?_⟩⟩
      · rw [List.take_of_length_le (by omega)] at h4
        simp only [Rows.uptoBulk]
        omega
      · simp only [DataW.weights, Tryd.underlying31, List.mem_cons, List.mem_append]
        exact .inr (.inl (h8 e he))
      · simp only [DataW.weights, Tryd.underlying31, List.mem_cons, List.length_map]
        rw [show Tryd.prog.bytesOf 56 = 48 by kernel_rfl, h1, hlen]
        exact .inl rfl
end Go.Proofs.YtccmicmlkgkheaaDoor.E

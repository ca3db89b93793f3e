/- A tree that comes in as an argument: how it lies, and that it weighs no more than what is read. -/
import Derived.Test.YtfjdeacpdcnjpaaDoorRows
import Derived.Test.YtfjdeacpdcnjpaaDoorVSize
import Derived.ChangeArms
import Derived.ChangeSlices
import Derived.SliceStrings
namespace Go.Proofs.YtfjdeacpdcnjpaaDoor.V
open Go.Proofs Go.RowKit Go.ChangeShapes Go.WideShapes Go.ChangeAt
open Go.Lib

theorem bulkAll_snoc {H : Type} : ∀ (a : List (DataW H)) (d : DataW H), Rows.uptoBulkAll (a ++ [d]) = Rows.uptoBulkAll a + Rows.uptoBulk d
  | [], d => by simp [Rows.uptoBulkAll]
  | x :: r, d => by simp only [List.cons_append, Rows.uptoBulkAll, bulkAll_snoc r d]; omega

/-- Trees that lie one behind the other. -/
theorem list_of {H : Type} {W : World} {R : Nat → Prop} {g off : Nat} (E : List (DataW H × List MemPlace)) : ∀ m, m ≤ E.length → (∀ i (h : i < m) (hE : i < E.length), ∃ v lv kv, (∀ j u, (six' v lv kv)[j]? = some u → W.cell? ⟨g, off + i * 6 + j, none⟩ = some u) ∧ ValIn W R v lv kv ∧ wt v ≤ Rows.uptoBulk E[i].1) →
    ∃ l xs, l.length = m ∧ CellsAt W g off xs ∧ ListIn W R l xs ∧ wtL l ≤ Rows.uptoBulkAll ((E.take m).map (·.1))
  | 0, _, _ => ⟨[], [], rfl, fun j u hj => by simp at hj, rfl, by simp [wtL]⟩
  | m + 1, hm, h => by
    obtain ⟨l, xs, h1, h2, h3, h4⟩ := list_of E m (by omega) (fun i hi hE => h i (by omega) hE)
    obtain ⟨v, lv, kv, h5, h6, h7⟩ := h m (by omega) (by omega)
    have hlen := ListIn.length h3
    refine ⟨l ++ [v], xs ++ six' v lv kv, by simp [h1], ?_, ListIn.snoc h3 h6, ?_⟩
    · intro j u hj
      by_cases hj2 : j < xs.length
      · rw [List.getElem?_append_left hj2] at hj
        exact h2 j u hj
      · rw [List.getElem?_append_right (by omega)] at hj
        have := h5 _ u hj
        rw [show off + m * 6 + (j - xs.length) = off + j by omega] at this
        exact this
    · rw [wtL_snoc, List.take_succ_eq_append_getElem (by omega), List.map_append, List.map_singleton, bulkAll_snoc]
      omega

theorem strs_bulk {H : Type} : ∀ (es : List ByteArray), sumK (es.map fun s => s.data.toList) ≤ Rows.uptoBulkAll (strs (H := H) es)
  | [] => by simp [sumK]
  | x :: r => by
    have h := strs_bulk (H := H) r
    simp only [sumK, strs, List.map_cons, List.sum_cons, Rows.uptoBulkAll, Rows.uptoBulk] at h ⊢
    omega

theorem cells_t26 : Tryd.prog.cellsOf 26 = 6 := by kernel_rfl
theorem cells_sort : Tryd.prog.cellsOf 22 = 1 := by kernel_rfl
theorem cells_bool : Tryd.prog.cellsOf 4 = 1 := by kernel_rfl
theorem cells_int : Tryd.prog.cellsOf 3 = 1 := by kernel_rfl
theorem cells_str : Tryd.prog.cellsOf 9 = 1 := by kernel_rfl
theorem cells_lst : Tryd.prog.cellsOf 23 = 1 := by kernel_rfl
theorem cells_keys : Tryd.prog.cellsOf 24 = 1 := by kernel_rfl
theorem six_list {α : Type} {l : List α} (h : l.length = 6) : ∃ a b c d e f, l = [a, b, c, d, e, f] := by
  match l, h with
  | [a, b, c, d, e, f], _ => exact ⟨a, b, c, d, e, f, rfl⟩
theorem mk_back (s : ByteArray) : (⟨s.data.toList.toArray⟩ : ByteArray) = s := by
  cases s
  simp

theorem tree_of {H : Type} {enc : TypeId × Value → H} {W : World} {held : Bool} : ∀ (F fuel : Nat) (cs : List Value) (x : DataW H × List MemPlace), fuel ≤ F → DataW.trod enc Tryd.prog W 0 (fun _ => true) held fuel 26 cs = some x →
    ∃ v lv kv, cs = six' v lv kv ∧ ValIn W (fun _ => True) v lv kv ∧ wt v ≤ Rows.uptoBulk x.1 := by
  intro F
  induction F with
  | zero =>
    intro fuel cs x hf h
    obtain ⟨xs, n, rfl, _⟩ := DataW.trod_struct Tryd.underlying26 h
    omega
  | succ F ih =>
    intro fuel cs x hf h
    obtain ⟨xs, n, rfl, rfl, hcl, hxl, hfd⟩ := DataW.trod_struct Tryd.underlying26 h
    rw [cells_t26] at hcl
    obtain ⟨c0, c1, c2, c3, c4, c5, rfl⟩ := six_list hcl
    obtain ⟨y0, y1, y2, y3, y4, y5, rfl⟩ := six_list (hxl.trans rfl)
    have f0 := hfd 0 _ rfl
    have f1 := hfd 1 _ rfl
    have f2 := hfd 2 _ rfl
    have f3 := hfd 3 _ rfl
    have f4 := hfd 4 _ rfl
    have f5 := hfd 5 _ rfl
    have g0 : DataW.trod enc Tryd.prog W 0 (fun _ => true) held n 22 (([c0, c1, c2, c3, c4, c5].drop 0).take (Tryd.prog.cellsOf 22)) = some y0 := f0
    rw [cells_sort] at g0
    replace g0 : DataW.trod enc Tryd.prog W 0 (fun _ => true) held n 22 [c0] = some y0 := g0
    have g1 : DataW.trod enc Tryd.prog W 0 (fun _ => true) held n 4 (([c0, c1, c2, c3, c4, c5].drop 1).take (Tryd.prog.cellsOf 4)) = some y1 := f1
    rw [cells_bool] at g1
    replace g1 : DataW.trod enc Tryd.prog W 0 (fun _ => true) held n 4 [c1] = some y1 := g1
    have g2 : DataW.trod enc Tryd.prog W 0 (fun _ => true) held n 3 (([c0, c1, c2, c3, c4, c5].drop 2).take (Tryd.prog.cellsOf 3)) = some y2 := f2
    rw [cells_int] at g2
    replace g2 : DataW.trod enc Tryd.prog W 0 (fun _ => true) held n 3 [c2] = some y2 := g2
    have g3 : DataW.trod enc Tryd.prog W 0 (fun _ => true) held n 9 (([c0, c1, c2, c3, c4, c5].drop 3).take (Tryd.prog.cellsOf 9)) = some y3 := f3
    rw [cells_str] at g3
    replace g3 : DataW.trod enc Tryd.prog W 0 (fun _ => true) held n 9 [c3] = some y3 := g3
    have g4 : DataW.trod enc Tryd.prog W 0 (fun _ => true) held n 23 (([c0, c1, c2, c3, c4, c5].drop 4).take (Tryd.prog.cellsOf 23)) = some y4 := f4
    rw [cells_lst] at g4
    replace g4 : DataW.trod enc Tryd.prog W 0 (fun _ => true) held n 23 [c4] = some y4 := g4
    have g5 : DataW.trod enc Tryd.prog W 0 (fun _ => true) held n 24 (([c0, c1, c2, c3, c4, c5].drop 5).take (Tryd.prog.cellsOf 24)) = some y5 := f5
    rw [cells_keys] at g5
    replace g5 : DataW.trod enc Tryd.prog W 0 (fun _ => true) held n 24 [c5] = some y5 := g5
    obtain ⟨so, h0, e0, _⟩ := DataW.trod_int Tryd.underlying22 g0
    obtain ⟨on, h1, e1⟩ := DataW.trod_bool Tryd.underlying4 g1
    obtain ⟨nn, h2, e2, _⟩ := DataW.trod_int Tryd.underlying3 g2
    obtain ⟨ts, h3, e3, _⟩ := DataW.trod_string Tryd.underlying9 g3
    cases h0; cases h1; cases h2; cases h3
    subst e0; subst e1; subst e2; subst e3
    clear f0 f1 f2 f3 f4 f5 hfd g0 g1 g2 g3 h hcl hxl
    -- the keys
    have hkeys : ∃ ks, KeysIn W (fun _ => True) ks c5 ∧ sumK ks + 1 ≤ Rows.uptoBulk y5.1 := by
      rcases open_strings Tryd.underlying24 Tryd.underlying9 cells_str g5 with ⟨hc, rfl⟩ | ⟨a, len, cap, ss, hc, _, hl, hm, hz, rfl, hcell, _⟩
      · cases hc
        exact ⟨[], ⟨none, 0, rfl, .inl rfl⟩, by simp [sumK, Rows.uptoBulk]⟩
      · cases hc
        simp only [if_true] at hz
        have hb := strs_bulk (H := H) (ss.take len)
        refine ⟨(ss.take len).map fun s => s.data.toList, ⟨some a, cap, by simp [hz, Nat.min_eq_left hl], ?_⟩, ?_⟩
        · by_cases h0 : len = 0
          · left; subst h0; simp
          · right
            obtain ⟨g, off, spot⟩ := a
            have hspot : spot = none := by simpa [Addr.add] using World.cell?_spot (hcell 0 (by omega))
            subst hspot
            refine ⟨g, off, rfl, trivial, fun j u hj => ?_⟩
            have hj2 : j < len := by
              have := (List.getElem?_eq_some_iff.1 hj).1
              simp at this
              omega
            have hj3 : j < ss.length := by omega
            have hc := hcell j (by omega)
            rw [Addr.add_lit] at hc
            rw [hc]
            simp [hj2, hj3, strCell] at hj ⊢
            exact hj
        · simp only [Rows.uptoBulk]
          omega
    have hlist : ∃ l, (∃ a cap, c4 = .slice a l.length cap ∧ (l = [] ∨ ∃ g off xs, a = some ⟨g, off, none⟩ ∧ True ∧ CellsAt W g off xs ∧ ListIn W (fun _ => True) l xs)) ∧ wtL l + 1 ≤ Rows.uptoBulk y4.1 := by
      rcases DataW.trod_slice Tryd.underlying23 g4 with ⟨hc, rfl⟩ | ⟨a, len, cap, elems, rest, m, hnm, hc, rfl, _, hl, hm, hlen, hel, _, _⟩
      · cases hc
        exact ⟨[], ⟨none, 0, rfl, .inl rfl⟩, by simp [wtL, Rows.uptoBulk]⟩
      · cases hc
        by_cases h0 : len = 0
        · refine ⟨[], ⟨some a, cap, by simp [h0], .inl rfl⟩, by simp [wtL, Rows.uptoBulk]⟩
        · obtain ⟨g, off, spot⟩ := a
          have hgo : ∀ i (h : i < len) (hE : i < elems.length), ∃ ci, W.cells? 0 ((⟨g, off, spot⟩ : Addr).add (i * 6)) 6 = some ci ∧ DataW.trod enc Tryd.prog W 0 (fun _ => true) held m 26 ci = some elems[i] := by
            intro i hi hE
            have h1 := hel i hi
            rw [cells_t26, List.getElem?_eq_getElem hE] at h1
            exact Option.bind_eq_some_iff.1 h1
          have hspot : spot = none := by
            obtain ⟨ci, hc1, _⟩ := hgo 0 (by omega) (by omega)
            obtain ⟨_, hcl, hcc⟩ := World.cells?_some hc1
            have h2 := hcc 0 (by omega)
            rw [List.getElem?_eq_getElem (by omega)] at h2
            simpa [Addr.add] using World.cell?_spot h2
          subst hspot
          obtain ⟨l, xs, h1, h2, h3, h4⟩ := list_of (W := W) (R := fun _ => True) (g := g) (off := off) elems len (by omega) (fun i hi hE => by
            obtain ⟨ci, hc1, hc2⟩ := hgo i hi hE
            obtain ⟨v, lv, kv, rfl, hv, hw⟩ := ih m ci elems[i] (by omega) hc2
            obtain ⟨_, hcl, hcc⟩ := World.cells?_some hc1
            refine ⟨v, lv, kv, fun j u hj => ?_, hv, hw⟩
            have hj6 : j < 6 := by
              have := (List.getElem?_eq_some_iff.1 hj).1
              rw [six_length] at this
              exact this
            have := hcc j hj6
            rw [Addr.add_lit, Addr.add_lit, hj] at this
            exact this)
          refine ⟨l, ⟨some ⟨g, off, none⟩, cap, by rw [h1], .inr ⟨g, off, xs, rfl, trivial, h2, h3⟩⟩, ?_⟩
          rw [List.take_of_length_le (by omega)] at h4
          simp only [Rows.uptoBulk]
          omega
    obtain ⟨ks, hk1, hk2⟩ := hkeys
    obtain ⟨l, hl1, hl2⟩ := hlist
    refine ⟨.mk so on nn ts.data.toList l ks, c4, c5, ?_, ⟨hl1, hk1⟩, ?_⟩
    · simp only [six', six, strCell, mk_back]
    · have e : (ks.map fun k => k.length + 1).sum = sumK ks := rfl
      simp only [wt, e, Rows.uptoBulk, Rows.uptoBulkAll, List.map_cons, List.map_nil] at hk2 hl2 ⊢
      omega
end Go.Proofs.YtfjdeacpdcnjpaaDoor.V

/- The contracts of an index's Lines, Line, begin and end. -/
import Derived.Test.YtccmicmlkgkheaaDoorLIdx
namespace Go.Proofs.YtccmicmlkgkheaaDoor.L
open Go.RowKit
open Go.Lib hiding intOf
open Go.Proofs.YtccmicmlkgkheaaDoor.U

theorem ends_le (s : ByteArray) : (ends s).length ≤ s.size := (rise_ends s).count

theorem lines_any (b : Nat) (s : ByteArray) (v : Value) (w : World) (h : Idx b s v w) (hs : s.size ≤ 1099511627776) :
    Calls Tryd.prog 74 #[.pointer (some ⟨b, 0, none⟩)] w fun e w' => e = .returned (.int .i64 (((ends s).length + 1 : Nat) : Int)) ∧ w = w' := by
  obtain ⟨a, cap, rfl, _⟩ := h.cells
  have h1 := h.blk.c1
  have hl := ends_le s
  clear h
  generalize (ends s).length = L at h1 hl ⊢
  go_enter Tryd.func74, Tryd.ntmps74
  go_wp2_with fail
  go_ret
  exact ⟨by simp, rfl⟩
theorem lines_nil (w : World) : Calls Tryd.prog 74 #[.pointer none] w fun e w' => e = .returned (.int .i64 0) ∧ w = w' := by
  go_enter Tryd.func74, Tryd.ntmps74
  go_wp2_with fail
  go_ret
  exact ⟨rfl, rfl⟩

theorem begin_any (b : Nat) (s : ByteArray) (v : Value) (n : Nat) (w : World) (h : Idx b s v w) (hs : s.size ≤ 1099511627776) (hn : n ≤ (ends s).length) :
    Calls Tryd.prog 65 #[.pointer (some ⟨b, 0, none⟩), .int .i64 n] w fun e w' => e = .returned (.int .i64 (nx (ends s) n : Nat)) ∧ w = w' := by
  obtain ⟨a, cap, rfl, hc⟩ := h.cells
  have h1 := h.blk.c1
  have hr := rise_ends s
  clear h
  cases n with
  | zero =>
    rw [nx_zero]
    clear hc hr h1
    go_enter Tryd.func65, Tryd.ntmps65
    go_wp2_with fail
    go_ret
    exact ⟨rfl, rfl⟩
  | succ n =>
    rw [nx_succ]
    have hlt := hr.at_lt n (by omega)
    have hl2 := ends_le s
    obtain ⟨g, rfl, hcc⟩ : ∃ g, a = some ⟨g, 0, none⟩ ∧ ∀ j, j < (ends s).length → w.cell? ⟨g, j, none⟩ = some (.int .i64 ((ends s).getD j 0 : Nat)) := by
      rcases hc with h0 | hc
      · omega
      · exact hc
    have hcn := hcc n (by omega)
    have hn' : n < (ends s).length := by omega
    clear hc hcc hr hn
    generalize (ends s).getD n 0 = x at hcn hlt ⊢
    generalize (ends s).length = L at h1 hn' hl2 ⊢
    have hz : ¬ ((n : Int) + 1 = 0) := by omega
    have hz2 : (((n : Int) + 1) == 0) = false := by simpa using hz
    have e1 : (((n + 1 : Nat) : Int)) = (n : Int) + 1 := by omega
    rw [e1]
    clear e1
    have e2 : (n : Int) + 1 - 1 = n := by omega
    go_enter Tryd.func65, Tryd.ntmps65
    go_wp2_with fail
    go_ret
    exact ⟨by simp, rfl⟩
theorem end_any (b : Nat) (s : ByteArray) (v : Value) (n : Nat) (w : World) (h : Idx b s v w) (_hs : s.size ≤ 1099511627776) (hn : n ≤ (ends s).length) :
    Calls Tryd.prog 75 #[.pointer (some ⟨b, 0, none⟩), .int .i64 n] w fun e w' => e = .returned (.int .i64 (en (ends s) s.size n : Nat)) ∧ w = w' := by
  obtain ⟨a, cap, rfl, hc⟩ := h.cells
  have h0 := h.blk.c0
  have h1 := h.blk.c1
  have hr := rise_ends s
  have hl := ends_le s
  clear h
  by_cases hz : n = (ends s).length
  · subst hz
    rw [en_last]
    clear hc hr
    generalize (ends s).length = L at h1 hl ⊢
    go_enter Tryd.func75, Tryd.ntmps75
    go_wp2_with fail
    go_ret
    exact ⟨rfl, rfl⟩
  · rw [en_at _ _ _ (by omega)]
    have hlt := hr.at_lt n (by omega)
    obtain ⟨g, rfl, hcc⟩ : ∃ g, a = some ⟨g, 0, none⟩ ∧ ∀ j, j < (ends s).length → w.cell? ⟨g, j, none⟩ = some (.int .i64 ((ends s).getD j 0 : Nat)) := by
      rcases hc with h0 | hc
      · omega
      · exact hc
    have hcn := hcc n (by omega)
    have hn' : n < (ends s).length := by omega
    clear hc hcc hr hn h0
    generalize (ends s).getD n 0 = x at hcn hlt ⊢
    generalize (ends s).length = L at h1 hn' hz hl ⊢
    have hz2 : ((n : Int) == (L : Int)) = false := by simp; omega
    clear hz
    go_enter Tryd.func75, Tryd.ntmps75
    go_wp2_with fail
    go_ret
    exact ⟨rfl, rfl⟩

def TwoSI (p : ByteArray × Int) (w : World) (e : Ending) (w' : World) : Prop := e = .returned (.tuple #[.string p.1, .int .i64 p.2]) ∧ Below w.heap.size w w'
theorem twoSI {p : ByteArray × Int} {t : ByteArray} {c : Int} {w w' : World} (h : p = (t, c)) (hb : Below w.heap.size w w') : TwoSI p w (.returned (.tuple #[.string t, .int .i64 c])) w' := ⟨by rw [h], hb⟩
theorem line_nil (n : Int) (w : World) : Calls Tryd.prog 63 #[.pointer none, .int .i64 n] w (TwoSI (⟨#[]⟩, 1) w) := by
  go_enter Tryd.func63, Tryd.ntmps63
  go_wp2_with fail
  go_ret2
  exact twoSI rfl (Below.refl _ _)
theorem flip' {f : FuncId} {args : Array Value} {w : World} {v : Ending} (c : Calls Tryd.prog f args w fun e w' => e = v ∧ w = w') : Calls Tryd.prog f args w fun e w' => e = v ∧ w' = w := c.mono fun _ _ ⟨h1, h2⟩ => ⟨h1, h2.symm⟩
theorem below_drewN (w : World) : ∀ n, Below w.heap.size w (w.drewN n) := fun _ => ⟨rfl, rfl, rfl, Nat.le_refl _, fun _ _ => rfl⟩
set_option maxRecDepth 20000 in
theorem line_any (b : Nat) (s : ByteArray) (v : Value) (n : Int) (w : World) (h : Idx b s v w) (hs : s.size ≤ 1099511627776) :
    Calls Tryd.prog 63 #[.pointer (some ⟨b, 0, none⟩), .int .i64 n] w (TwoSI (lineL s n) w) := by
  have hl := ends_le s
  have cL := lines_any b s v w h hs
  by_cases h0 : n < 0
  · have hL : lineL s n = (⟨#[]⟩, 51) := by unfold lineL; rw [if_neg (by omega)]
    rw [hL]
    clear hL h cL
    go_enter Tryd.func63, Tryd.ntmps63
    go_wp2_with fail
    go_ret2
    exact twoSI rfl (Below.refl _ _)
  · by_cases h1 : ((ends s).length : Int) < n
    · have hL : lineL s n = (⟨#[]⟩, 51) := by unfold lineL; rw [if_neg (by omega)]
      rw [hL]
      clear hL h
      generalize (ends s).length = L at h1 hl cL ⊢
      have h2 : (((L + 1 : Nat) : Int) ≤ n) := by omega
      go_enter Tryd.func63, Tryd.ntmps63
      go_wp2_with (go_at_call 74; refine cL.mono ?_; rintro e w1 ⟨rfl, rfl⟩)
      go_ret2
      exact twoSI rfl (Below.refl _ _)
    · obtain ⟨m, rfl⟩ : ∃ m : Nat, n = m := ⟨n.toNat, by omega⟩
      have hm : m ≤ (ends s).length := by omega
      have hL : lineL s m = (ln s m, 0) := by unfold lineL; rw [if_pos (by omega)]; simp
      rw [hL]
      have cB := fun k => flip' (begin_any b s v m (w.drewN k) (h.later (below_drewN w k)) hs hm)
      have cE := fun k => flip' (end_any b s v m (w.drewN k) (h.later (below_drewN w k)) hs hm)
      obtain ⟨k1, k2⟩ := nx_le_en (rise_ends s) m hm
      have hb0 := h.blk.c0
      unfold ln
      clear hL h h0 h1
      have h2 : ¬ (((ends s).length + 1 : Nat) : Int) ≤ (m : Int) := by omega
      clear hm
      generalize (ends s).length = L at h2 hl cL ⊢
      generalize nx (ends s) m = x at cB k1 ⊢
      generalize en (ends s) s.size m = y at cE k1 k2 ⊢
      go_enter Tryd.func63, Tryd.ntmps63
      go_wp2_with (go_at_call 74; refine cL.mono ?_; rintro e w1 ⟨rfl, rfl⟩)
      go_quiet ((first | (go_at_call 65; exact Calls.quiet_of_same (cB _)) | (go_at_call 75; exact Calls.quiet_of_same (cE _))))
      go_wp2
      go_ret2
      exact twoSI rfl (below_drewN _ _)
end Go.Proofs.YtccmicmlkgkheaaDoor.L

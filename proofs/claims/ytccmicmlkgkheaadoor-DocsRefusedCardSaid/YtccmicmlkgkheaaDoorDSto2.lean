/- The program's store: mayName, wrong, newer. -/
import Derived.Test.YtccmicmlkgkheaaDoorDSto
namespace Go.Proofs.YtccmicmlkgkheaaDoor.D
open Go.RowKit
open Go.Lib hiding intOf
open Go.Proofs.YtccmicmlkgkheaaDoor.U Go.Proofs.YtccmicmlkgkheaaDoor.L Go.Proofs.YtccmicmlkgkheaaDoor.E

set_option maxRecDepth 20000 in
set_option maxHeartbeats 4000000 in
theorem may_any (s : ByteArray) (w : World) (hs : s.size ≤ 1000000) (hT : Tabs w) :
    Calls Tryd.prog 26 #[.string s] w fun e w' => e = .returned (.bool (nameOk s)) ∧ Below w.heap.size w w' := by
  have cR := right_any s w (by omega) hT
  obtain ⟨R, hR⟩ : ∃ R, nameOk s = R := ⟨_, rfl⟩
  have HR := Lib.hid hR
  rw [hR]
  clear hR hT hs
  by_cases h0 : s = ⟨#[]⟩
  · subst h0
    have : R = false := by rw [← HR.out]; kernel_rfl
    subst this
    clear HR cR
    go_enter Tryd.func26, Tryd.ntmps26
    go_wp2_with fail
    go_ret
    exact ⟨rfl, Below.refl _ _⟩
  · have hne : s.toList.isEmpty = false := by
      rw [ByteArray.toList_eq, Array.isEmpty_toList] at *
      cases hh : s.data.isEmpty
      · rfl
      · exact absurd (by obtain ⟨d⟩ := s; rw [show d = #[] by simpa using hh]) h0
    have hz : 1 ≤ s.size := by
      rcases Nat.eq_zero_or_pos s.size with hz | hz
      · exact absurd (by obtain ⟨⟨l⟩⟩ := s; have : l = [] := by simpa [ByteArray.size] using hz
                         rw [this]) h0
      · exact hz
    by_cases h1 : s.size ≤ 40
    · have d1 : decide ((s.size : Int) ≤ 40) = true := by simp; omega
      have hRk : R = okB s := by rw [← HR.out]; unfold nameOk; simp [hz, h1]
      rw [← hRk] at cR
      clear HR h1 hz h0 hRk
      go_enter Tryd.func26, Tryd.ntmps26
      go_wp2_with fail
      refine cR.mono ?_
      rintro e w1 ⟨rfl, hb1⟩
      go_wp2_with fail
      go_ret
      exact ⟨rfl, hb1⟩
    · have d1 : decide ((s.size : Int) ≤ 40) = false := by simp; omega
      have : R = false := by rw [← HR.out]; unfold nameOk; simp [h1]
      subst this
      clear HR cR h1 hz h0
      go_enter Tryd.func26, Tryd.ntmps26
      go_wp2_with fail
      go_ret
      exact ⟨rfl, Below.refl _ _⟩

/-- The error of a text that no document may have. -/
def wrongT (t : ByteArray) : Int := if okB t = false then 11 else if 16384 < t.size then 73 else 0
set_option maxRecDepth 20000 in
set_option maxHeartbeats 4000000 in
theorem wrong_any (s : ByteArray) (w : World) (hs : s.size ≤ 1000000) (hT : Tabs w) :
    Calls Tryd.prog 27 #[.string s] w fun e w' => e = .returned (.int .i64 (wrongT s)) ∧ Below w.heap.size w w' := by
  have cR := right_any s w (by omega) hT
  obtain ⟨R, hR⟩ : ∃ R, wrongT s = R := ⟨_, rfl⟩
  rw [hR]
  unfold wrongT at hR
  clear hT hs
  cases hk : okB s
  · rw [hk, if_pos rfl] at hR
    subst hR
    rw [hk] at cR
    clear hk
    go_enter Tryd.func27, Tryd.ntmps27
    go_wp2_with fail
    refine cR.mono ?_
    rintro e w1 ⟨rfl, hb1⟩
    go_wp2_with fail
    go_ret
    exact ⟨rfl, hb1⟩
  · rw [hk, if_neg (by simp)] at hR
    rw [hk] at cR
    clear hk
    by_cases h1 : 16384 < s.size
    · rw [if_pos h1] at hR
      subst hR
      have d1 : decide ((16384 : Int) < (s.size : Int)) = true := by simp; omega
      clear h1
      go_enter Tryd.func27, Tryd.ntmps27
      go_wp2_with fail
      refine cR.mono ?_
      rintro e w1 ⟨rfl, hb1⟩
      go_wp2_with fail
      go_ret
      exact ⟨rfl, hb1⟩
    · rw [if_neg h1] at hR
      subst hR
      have d1 : decide ((16384 : Int) < (s.size : Int)) = false := by simp; omega
      clear h1
      go_enter Tryd.func27, Tryd.ntmps27
      go_wp2_with fail
      refine cR.mono ?_
      rintro e w1 ⟨rfl, hb1⟩
      go_wp2_with fail
      go_ret
      exact ⟨rfl, hb1⟩

/-- What newer answers. -/
def pnewL (l : List DocP) (n : ByteArray) (v : Int) : DocP × Int :=
  match findL l n with
  | none => (d0, 72)
  | some d => if v ≤ d.v then (d0, 71) else (⟨d.n, v, d.t⟩, 0)
set_option maxRecDepth 20000 in
set_option maxHeartbeats 4000000 in
theorem pnew_any (p : Nat) (y : Option Nat) (l : List DocP) (n : ByteArray) (v : Int) (w : World) (h : PSt p y l w) (hn : n.size ≤ 1000000) :
    Calls Tryd.prog 28 #[.pointer (some ⟨p, 0, none⟩), .string n, .int .i64 v] w fun e w' => e = .returned (.tuple #[.agg #[.string (pnewL l n v).1.n, .int .i64 (pnewL l n v).1.v, .string (pnewL l n v).1.t], .int .i64 (pnewL l n v).2]) ∧ Below w.heap.size w w' := by
  obtain ⟨W, hW⟩ : ∃ W, w.alloc (.cells #[.string ⟨#[]⟩, .int .i64 0, .string ⟨#[]⟩] 30) = W := ⟨_, rfl⟩
  have hbw : Below w.heap.size w W := by rw [← hW]; exact (Below.refl _ _).alloc (Nat.le_refl _) _
  have h1 := h.later hbw
  have p0 := h1.c0
  have hlk := h1.look hn
  have hx : W.heap[w.heap.size]? = some (.cells #[.string ⟨#[]⟩, .int .i64 0, .string ⟨#[]⟩] 30 (0, 0)) := by rw [← hW]; exact heap_alloc_new _ _
  have hz : w.heap.size < W.heap.size := (Array.getElem?_eq_some_iff.1 hx).1
  obtain ⟨⟨x0, x1, x2⟩, g0, g1, g2⟩ := sto_cells hx
  have HBW := Lib.hid hbw
  obtain ⟨R, hR⟩ : ∃ R, pnewL l n v = R := ⟨_, rfl⟩
  rw [hR]
  unfold pnewL at hR
  unfold getL at hlk
  clear h h1 hbw hn
  cases hf : findL l n with
  | none =>
    rw [hf] at hlk hR
    subst hR
    simp only [d0, Option.getD_none, Option.isSome_none] at hlk ⊢
    clear hf
    go_enter Tryd.func28, Tryd.ntmps28
    go_wp2_with fail
    refine bodyPost_ret (v := .tuple #[.agg #[.string ⟨#[]⟩, .int .i64 0, .string ⟨#[]⟩], .int .i64 72]) ((results_doc (fn := Tryd.f28) (p := 6) (u := 7) (by rfl) (by rfl) (((MapKept.heap_alloc _ _).2 w.heap.size (by simpa using hz)).trans (set_row hx))).trans rfl) rfl ?_
    exact ⟨rfl, ((((HBW.out.setCell (Nat.le_refl _) _).setCell (Nat.le_refl _) _).setCell (Nat.le_refl _) _).alloc (by simp; omega) _)⟩
  | some d =>
    rw [hf] at hlk hR
    simp only [Option.getD_some, Option.isSome_some] at hlk hR
    clear hf
    by_cases hv : v ≤ d.v
    · rw [if_pos hv] at hR
      subst hR
      have d1 : decide (v ≤ d.v) = true := by simpa using hv
      simp only [d0]
      clear hv
      go_enter Tryd.func28, Tryd.ntmps28
      go_wp2_with fail
      refine bodyPost_ret (v := .tuple #[.agg #[.string ⟨#[]⟩, .int .i64 0, .string ⟨#[]⟩], .int .i64 71]) ((results_doc (fn := Tryd.f28) (p := 6) (u := 7) (by rfl) (by rfl) (((MapKept.heap_alloc _ _).2 w.heap.size (by simpa using hz)).trans (set_row hx))).trans rfl) rfl ?_
      exact ⟨rfl, ((((HBW.out.setCell (Nat.le_refl _) _).setCell (Nat.le_refl _) _).setCell (Nat.le_refl _) _).alloc (by simp; omega) _)⟩
    · rw [if_neg hv] at hR
      subst hR
      have d1 : decide (v ≤ d.v) = false := by simpa using hv
      clear hv
      go_enter Tryd.func28, Tryd.ntmps28
      go_wp2_with fail
      refine bodyPost_ret (v := .tuple #[.agg #[.string d.n, .int .i64 v, .string d.t], .int .i64 0]) ((results_doc (fn := Tryd.f28) (p := 6) (u := 7) (by rfl) (by rfl) (((MapKept.heap_alloc _ _).2 w.heap.size (by simpa using hz)).trans (set_row hx))).trans rfl) rfl ?_
      exact ⟨rfl, ((((HBW.out.setCell (Nat.le_refl _) _).setCell (Nat.le_refl _) _).setCell (Nat.le_refl _) _).alloc (by simp; omega) _)⟩
end Go.Proofs.YtccmicmlkgkheaaDoor.D

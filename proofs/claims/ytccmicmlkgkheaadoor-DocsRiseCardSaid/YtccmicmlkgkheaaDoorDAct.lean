/- An act of both stores: they answer alike, and hold the same documents. -/
import Derived.Test.YtccmicmlkgkheaaDoorDTwo
import Derived.Deep.RegionHeld3
import Derived.Deep.RegionWith
import Derived.BigRegion
namespace Go.Proofs.YtccmicmlkgkheaaDoor.D
open Go.RowKit
open Go.Lib hiding intOf
open Go.Proofs.YtccmicmlkgkheaaDoor.U Go.Proofs.YtccmicmlkgkheaaDoor.L Go.Proofs.YtccmicmlkgkheaaDoor.E

/-- The act lies in a block of its own; other blocks of cells are as they were. -/
def ActAt (z : Nat) (k : Int) (d : DocP) (ev : Value) (p q : Nat) (w X : World) : Prop := X.heap[z]? = some (.cells #[.int .i64 k, .string d.n, .int .i64 d.v, .string d.t, ev] 33 (0, 0)) ∧ CKeep p q w X

set_option maxHeartbeats 8000000 in
set_option maxRecDepth 20000 in
theorem do_opn (p q : Nat) (w0 : World) (l : List DocP) (d : DocP) (es : List EdP) (ev : Value) (w : World) (h0 : Mid p q w0 l l w) (hI : Inv l) (hn : d.n.size ≤ 1000000) (ht : d.t.size ≤ 1000000)
    (_hev : EdsLow w0.heap.size w0 es ev) (_hel : es.length ≤ 1000000) (_het : ∀ e ∈ es, e.t.size ≤ 1000000) (hT : Tabs w0) :
    Calls Tryd.prog 9 #[.agg #[.int .i64 1, .string d.n, .int .i64 d.v, .string d.t, ev], .pointer (some ⟨p, 0, none⟩), .pointer (some ⟨q, 0, none⟩)] w fun e w' => e = .returned (.bool true) ∧ Mid p q w0 (openL l d).1 (openL l d).1 w' ∧ CKeep p q w w' := by
  obtain ⟨W, hW⟩ : ∃ W, w.alloc (.cells #[.int .i64 1, .string d.n, .int .i64 d.v, .string d.t, ev] 33) = W := ⟨_, rfl⟩
  have hbw : Below w.heap.size w W := by rw [← hW]; exact (Below.refl _ _).alloc (Nat.le_refl _) _
  have hbx : W.heap[w.heap.size]? = some (.cells #[.int .i64 1, .string d.n, .int .i64 d.v, .string d.t, ev] 33 (0, 0)) := by rw [← hW]; exact heap_alloc_new _ _
  have hzp : w.heap.size ≠ p ∧ w.heap.size ≠ q := by
    obtain ⟨y, B, h⟩ := h0
    obtain ⟨v, hs⟩ := h.sto
    have := h.ps.lt
    have := hs.lt
    omega
  have cells : ∀ X, ActAt w.heap.size 1 d ev p q w X → (X.cell? ⟨w.heap.size, 1, none⟩ = some (.string d.n) ∧ X.cell? ⟨w.heap.size, 2, none⟩ = some (.int .i64 d.v) ∧ X.cell? ⟨w.heap.size, 3, none⟩ = some (.string d.t) ∧ X.cell? ⟨w.heap.size, 4, none⟩ = some ev ∧ ActAt w.heap.size 1 d ev p q w X) := fun X hA => by
    obtain ⟨q0, q1, q2, q3, q4⟩ := five_cells hA.1
    exact ⟨q1, q2, q3, q4, hA⟩
  have step : ∀ X X', (X.cell? ⟨w.heap.size, 1, none⟩ = some (.string d.n) ∧ X.cell? ⟨w.heap.size, 2, none⟩ = some (.int .i64 d.v) ∧ X.cell? ⟨w.heap.size, 3, none⟩ = some (.string d.t) ∧ X.cell? ⟨w.heap.size, 4, none⟩ = some ev ∧ ActAt w.heap.size 1 d ev p q w X) → CKeep p q X X' → (X'.cell? ⟨w.heap.size, 1, none⟩ = some (.string d.n) ∧ X'.cell? ⟨w.heap.size, 2, none⟩ = some (.int .i64 d.v) ∧ X'.cell? ⟨w.heap.size, 3, none⟩ = some (.string d.t) ∧ X'.cell? ⟨w.heap.size, 4, none⟩ = some ev ∧ ActAt w.heap.size 1 d ev p q w X') := fun X X' hS hc => cells X' ⟨hc _ _ _ _ hzp.1 hzp.2 hS.2.2.2.2.1, hS.2.2.2.2.2.trans hc⟩
  have c16 : ∀ X, Mid p q w0 l l X → (X.cell? ⟨w.heap.size, 1, none⟩ = some (.string d.n) ∧ X.cell? ⟨w.heap.size, 2, none⟩ = some (.int .i64 d.v) ∧ X.cell? ⟨w.heap.size, 3, none⟩ = some (.string d.t) ∧ X.cell? ⟨w.heap.size, 4, none⟩ = some ev ∧ ActAt w.heap.size 1 d ev p q w X) → Calls Tryd.prog 16 #[.pointer (some ⟨p, 0, none⟩), .agg #[.string d.n, .int .i64 d.v, .string d.t]] X fun e w' => e = .returned (.int .i64 (openL l d).2) ∧ Mid p q w0 (openL l d).1 l w' ∧ (w'.cell? ⟨w.heap.size, 1, none⟩ = some (.string d.n) ∧ w'.cell? ⟨w.heap.size, 2, none⟩ = some (.int .i64 d.v) ∧ w'.cell? ⟨w.heap.size, 3, none⟩ = some (.string d.t) ∧ w'.cell? ⟨w.heap.size, 4, none⟩ = some ev ∧ ActAt w.heap.size 1 d ev p q w w') := fun X h hS => by
    refine (mid_prog h (fun y hp => popen_any p y l d X hp hI hn ht (h.tabs hT))).mono ?_
    rintro e w' ⟨rfl, hm, hc⟩
    exact ⟨rfl, hm, step X w' hS hc⟩
  have c20 : ∀ X, Mid p q w0 (openL l d).1 l X → (X.cell? ⟨w.heap.size, 1, none⟩ = some (.string d.n) ∧ X.cell? ⟨w.heap.size, 2, none⟩ = some (.int .i64 d.v) ∧ X.cell? ⟨w.heap.size, 3, none⟩ = some (.string d.t) ∧ X.cell? ⟨w.heap.size, 4, none⟩ = some ev ∧ ActAt w.heap.size 1 d ev p q w X) → Calls Tryd.prog 20 #[.pointer (some ⟨q, 0, none⟩), .agg #[.string d.n, .int .i64 d.v, .string d.t]] X fun e w' => e = .returned (.int .i64 (openL l d).2) ∧ Mid p q w0 (openL l d).1 (openL l d).1 w' ∧ (w'.cell? ⟨w.heap.size, 1, none⟩ = some (.string d.n) ∧ w'.cell? ⟨w.heap.size, 2, none⟩ = some (.int .i64 d.v) ∧ w'.cell? ⟨w.heap.size, 3, none⟩ = some (.string d.t) ∧ w'.cell? ⟨w.heap.size, 4, none⟩ = some ev ∧ ActAt w.heap.size 1 d ev p q w w') := fun X h hS => by
    refine (mid_ref h (fun B v hs hB => refOpen_any B q l v d X hs hI hB hn ht)).mono ?_
    rintro e w' ⟨rfl, hm, hc⟩
    exact ⟨rfl, hm, step X w' hS hc⟩
  have hA0 : Mid p q w0 l l W.drew := (h0.later hbw).later (Below.refl _ _).drew
  have hS0 : (W.drew.cell? ⟨w.heap.size, 1, none⟩ = some (.string d.n) ∧ W.drew.cell? ⟨w.heap.size, 2, none⟩ = some (.int .i64 d.v) ∧ W.drew.cell? ⟨w.heap.size, 3, none⟩ = some (.string d.t) ∧ W.drew.cell? ⟨w.heap.size, 4, none⟩ = some ev ∧ ActAt w.heap.size 1 d ev p q w W.drew) := cells W.drew ⟨hbx, CKeep.of hbw.drew⟩
  obtain ⟨q0, q1, q2, q3, q4⟩ := five_cells hbx
  generalize (openL l d) = R at c16 c20 ⊢
  obtain ⟨l1, c⟩ := R
  simp only at c16 c20 ⊢
  clear hbw hbx h0 cells step
  go_enter Tryd.func9, Tryd.ntmps9
  go_upto_region 3 with fail
  clear hW
  go_region_held3 (fun X => X.cell? ⟨w.heap.size, 1, none⟩ = some (.string d.n) ∧ X.cell? ⟨w.heap.size, 2, none⟩ = some (.int .i64 d.v) ∧ X.cell? ⟨w.heap.size, 3, none⟩ = some (.string d.t) ∧ X.cell? ⟨w.heap.size, 4, none⟩ = some ev ∧ ActAt w.heap.size 1 d ev p q w X) (with_reducible (repeat (first | assumption))) (first
        | (go_at_call 16; (with_reducible refine (c16 _ ?_ ?_).mono ?_); assumption; assumption; rintro e w3 ⟨rfl, hA3, hS3⟩)
        | (go_at_call 20; (with_reducible refine (c20 _ ?_ ?_).mono ?_); assumption; assumption; rintro e w4 ⟨rfl, hA4, hS4⟩))
  have HA := Lib.hid hA4
  have HS := Lib.hid hS4
  clear hA3 hS3 hA4 hS4 hA0 hS0 c16 c20
  go_wp2_with fail
  go_ret
  exact ⟨rfl, HA.out, HS.out.2.2.2.2.2⟩

set_option maxHeartbeats 8000000 in
set_option maxRecDepth 20000 in
theorem do_chg (p q : Nat) (w0 : World) (l : List DocP) (d : DocP) (es : List EdP) (ev : Value) (w : World) (h0 : Mid p q w0 l l w) (hI : Inv l) (hn : d.n.size ≤ 1000000) (_ht : d.t.size ≤ 1000000)
    (hev : EdsLow w0.heap.size w0 es ev) (hel : es.length ≤ 1000000) (het : ∀ e ∈ es, e.t.size ≤ 1000000) (hT : Tabs w0) :
    Calls Tryd.prog 9 #[.agg #[.int .i64 2, .string d.n, .int .i64 d.v, .string d.t, ev], .pointer (some ⟨p, 0, none⟩), .pointer (some ⟨q, 0, none⟩)] w fun e w' => e = .returned (.bool true) ∧ Mid p q w0 (changeL l d.n d.v es).1 (changeL l d.n d.v es).1 w' ∧ CKeep p q w w' := by
  obtain ⟨W, hW⟩ : ∃ W, w.alloc (.cells #[.int .i64 2, .string d.n, .int .i64 d.v, .string d.t, ev] 33) = W := ⟨_, rfl⟩
  have hbw : Below w.heap.size w W := by rw [← hW]; exact (Below.refl _ _).alloc (Nat.le_refl _) _
  have hbx : W.heap[w.heap.size]? = some (.cells #[.int .i64 2, .string d.n, .int .i64 d.v, .string d.t, ev] 33 (0, 0)) := by rw [← hW]; exact heap_alloc_new _ _
  have hzp : w.heap.size ≠ p ∧ w.heap.size ≠ q := by
    obtain ⟨y, B, h⟩ := h0
    obtain ⟨v, hs⟩ := h.sto
    have := h.ps.lt
    have := hs.lt
    omega
  have cells : ∀ X, ActAt w.heap.size 2 d ev p q w X → (X.cell? ⟨w.heap.size, 1, none⟩ = some (.string d.n) ∧ X.cell? ⟨w.heap.size, 2, none⟩ = some (.int .i64 d.v) ∧ X.cell? ⟨w.heap.size, 3, none⟩ = some (.string d.t) ∧ X.cell? ⟨w.heap.size, 4, none⟩ = some ev ∧ ActAt w.heap.size 2 d ev p q w X) := fun X hA => by
    obtain ⟨q0, q1, q2, q3, q4⟩ := five_cells hA.1
    exact ⟨q1, q2, q3, q4, hA⟩
  have step : ∀ X X', (X.cell? ⟨w.heap.size, 1, none⟩ = some (.string d.n) ∧ X.cell? ⟨w.heap.size, 2, none⟩ = some (.int .i64 d.v) ∧ X.cell? ⟨w.heap.size, 3, none⟩ = some (.string d.t) ∧ X.cell? ⟨w.heap.size, 4, none⟩ = some ev ∧ ActAt w.heap.size 2 d ev p q w X) → CKeep p q X X' → (X'.cell? ⟨w.heap.size, 1, none⟩ = some (.string d.n) ∧ X'.cell? ⟨w.heap.size, 2, none⟩ = some (.int .i64 d.v) ∧ X'.cell? ⟨w.heap.size, 3, none⟩ = some (.string d.t) ∧ X'.cell? ⟨w.heap.size, 4, none⟩ = some ev ∧ ActAt w.heap.size 2 d ev p q w X') := fun X X' hS hc => cells X' ⟨hc _ _ _ _ hzp.1 hzp.2 hS.2.2.2.2.1, hS.2.2.2.2.2.trans hc⟩
  have c16 : ∀ X, Mid p q w0 l l X → (X.cell? ⟨w.heap.size, 1, none⟩ = some (.string d.n) ∧ X.cell? ⟨w.heap.size, 2, none⟩ = some (.int .i64 d.v) ∧ X.cell? ⟨w.heap.size, 3, none⟩ = some (.string d.t) ∧ X.cell? ⟨w.heap.size, 4, none⟩ = some ev ∧ ActAt w.heap.size 2 d ev p q w X) → Calls Tryd.prog 17 #[.pointer (some ⟨p, 0, none⟩), .string d.n, .int .i64 d.v, ev] X fun e w' => e = .returned (.int .i64 (changeL l d.n d.v es).2) ∧ Mid p q w0 (changeL l d.n d.v es).1 l w' ∧ (w'.cell? ⟨w.heap.size, 1, none⟩ = some (.string d.n) ∧ w'.cell? ⟨w.heap.size, 2, none⟩ = some (.int .i64 d.v) ∧ w'.cell? ⟨w.heap.size, 3, none⟩ = some (.string d.t) ∧ w'.cell? ⟨w.heap.size, 4, none⟩ = some ev ∧ ActAt w.heap.size 2 d ev p q w w') := fun X h hS => by
    refine (mid_prog h (fun y hp => pchange_any p y l d.n d.v es ev X hp hI hn (hev.to h.low h.low.size) hel het (h.tabs hT))).mono ?_
    rintro e w' ⟨rfl, hm, hc⟩
    exact ⟨rfl, hm, step X w' hS hc⟩
  have c20 : ∀ X, Mid p q w0 (changeL l d.n d.v es).1 l X → (X.cell? ⟨w.heap.size, 1, none⟩ = some (.string d.n) ∧ X.cell? ⟨w.heap.size, 2, none⟩ = some (.int .i64 d.v) ∧ X.cell? ⟨w.heap.size, 3, none⟩ = some (.string d.t) ∧ X.cell? ⟨w.heap.size, 4, none⟩ = some ev ∧ ActAt w.heap.size 2 d ev p q w X) → Calls Tryd.prog 21 #[.pointer (some ⟨q, 0, none⟩), .string d.n, .int .i64 d.v, ev] X fun e w' => e = .returned (.int .i64 (changeL l d.n d.v es).2) ∧ Mid p q w0 (changeL l d.n d.v es).1 (changeL l d.n d.v es).1 w' ∧ (w'.cell? ⟨w.heap.size, 1, none⟩ = some (.string d.n) ∧ w'.cell? ⟨w.heap.size, 2, none⟩ = some (.int .i64 d.v) ∧ w'.cell? ⟨w.heap.size, 3, none⟩ = some (.string d.t) ∧ w'.cell? ⟨w.heap.size, 4, none⟩ = some ev ∧ ActAt w.heap.size 2 d ev p q w w') := fun X h hS => by
    refine (mid_ref h (fun B v hs hB => change_any B q l v d.n d.v es ev X hs hI hB (hev.to h.low h.low.size) hel het)).mono ?_
    rintro e w' ⟨rfl, hm, hc⟩
    exact ⟨rfl, hm, step X w' hS hc⟩
  have hA0 : Mid p q w0 l l W.drew := (h0.later hbw).later (Below.refl _ _).drew
  have hS0 : (W.drew.cell? ⟨w.heap.size, 1, none⟩ = some (.string d.n) ∧ W.drew.cell? ⟨w.heap.size, 2, none⟩ = some (.int .i64 d.v) ∧ W.drew.cell? ⟨w.heap.size, 3, none⟩ = some (.string d.t) ∧ W.drew.cell? ⟨w.heap.size, 4, none⟩ = some ev ∧ ActAt w.heap.size 2 d ev p q w W.drew) := cells W.drew ⟨hbx, CKeep.of hbw.drew⟩
  obtain ⟨q0, q1, q2, q3, q4⟩ := five_cells hbx
  generalize (changeL l d.n d.v es) = R at c16 c20 ⊢
  obtain ⟨l1, c⟩ := R
  simp only at c16 c20 ⊢
  clear hbw hbx h0 cells step
  go_enter Tryd.func9, Tryd.ntmps9
  go_upto_region 5 with fail
  clear hW
  go_region_held3 (fun X => X.cell? ⟨w.heap.size, 1, none⟩ = some (.string d.n) ∧ X.cell? ⟨w.heap.size, 2, none⟩ = some (.int .i64 d.v) ∧ X.cell? ⟨w.heap.size, 3, none⟩ = some (.string d.t) ∧ X.cell? ⟨w.heap.size, 4, none⟩ = some ev ∧ ActAt w.heap.size 2 d ev p q w X) (with_reducible (repeat (first | assumption))) (first
        | (go_at_call 17; (with_reducible refine (c16 _ ?_ ?_).mono ?_); assumption; assumption; rintro e w3 ⟨rfl, hA3, hS3⟩)
        | (go_at_call 21; (with_reducible refine (c20 _ ?_ ?_).mono ?_); assumption; assumption; rintro e w4 ⟨rfl, hA4, hS4⟩))
  have HA := Lib.hid hA4
  have HS := Lib.hid hS4
  clear hA3 hS3 hA4 hS4 hA0 hS0 c16 c20
  go_wp2_with fail
  go_ret
  exact ⟨rfl, HA.out, HS.out.2.2.2.2.2⟩

set_option maxHeartbeats 8000000 in
set_option maxRecDepth 20000 in
theorem do_whl (p q : Nat) (w0 : World) (l : List DocP) (d : DocP) (es : List EdP) (ev : Value) (w : World) (h0 : Mid p q w0 l l w) (hI : Inv l) (hn : d.n.size ≤ 1000000) (ht : d.t.size ≤ 1000000)
    (_hev : EdsLow w0.heap.size w0 es ev) (_hel : es.length ≤ 1000000) (_het : ∀ e ∈ es, e.t.size ≤ 1000000) (hT : Tabs w0) :
    Calls Tryd.prog 9 #[.agg #[.int .i64 3, .string d.n, .int .i64 d.v, .string d.t, ev], .pointer (some ⟨p, 0, none⟩), .pointer (some ⟨q, 0, none⟩)] w fun e w' => e = .returned (.bool true) ∧ Mid p q w0 (wholeL l d.n d.v d.t).1 (wholeL l d.n d.v d.t).1 w' ∧ CKeep p q w w' := by
  obtain ⟨W, hW⟩ : ∃ W, w.alloc (.cells #[.int .i64 3, .string d.n, .int .i64 d.v, .string d.t, ev] 33) = W := ⟨_, rfl⟩
  have hbw : Below w.heap.size w W := by rw [← hW]; exact (Below.refl _ _).alloc (Nat.le_refl _) _
  have hbx : W.heap[w.heap.size]? = some (.cells #[.int .i64 3, .string d.n, .int .i64 d.v, .string d.t, ev] 33 (0, 0)) := by rw [← hW]; exact heap_alloc_new _ _
  have hzp : w.heap.size ≠ p ∧ w.heap.size ≠ q := by
    obtain ⟨y, B, h⟩ := h0
    obtain ⟨v, hs⟩ := h.sto
    have := h.ps.lt
    have := hs.lt
    omega
  have cells : ∀ X, ActAt w.heap.size 3 d ev p q w X → (X.cell? ⟨w.heap.size, 1, none⟩ = some (.string d.n) ∧ X.cell? ⟨w.heap.size, 2, none⟩ = some (.int .i64 d.v) ∧ X.cell? ⟨w.heap.size, 3, none⟩ = some (.string d.t) ∧ X.cell? ⟨w.heap.size, 4, none⟩ = some ev ∧ ActAt w.heap.size 3 d ev p q w X) := fun X hA => by
    obtain ⟨q0, q1, q2, q3, q4⟩ := five_cells hA.1
    exact ⟨q1, q2, q3, q4, hA⟩
  have step : ∀ X X', (X.cell? ⟨w.heap.size, 1, none⟩ = some (.string d.n) ∧ X.cell? ⟨w.heap.size, 2, none⟩ = some (.int .i64 d.v) ∧ X.cell? ⟨w.heap.size, 3, none⟩ = some (.string d.t) ∧ X.cell? ⟨w.heap.size, 4, none⟩ = some ev ∧ ActAt w.heap.size 3 d ev p q w X) → CKeep p q X X' → (X'.cell? ⟨w.heap.size, 1, none⟩ = some (.string d.n) ∧ X'.cell? ⟨w.heap.size, 2, none⟩ = some (.int .i64 d.v) ∧ X'.cell? ⟨w.heap.size, 3, none⟩ = some (.string d.t) ∧ X'.cell? ⟨w.heap.size, 4, none⟩ = some ev ∧ ActAt w.heap.size 3 d ev p q w X') := fun X X' hS hc => cells X' ⟨hc _ _ _ _ hzp.1 hzp.2 hS.2.2.2.2.1, hS.2.2.2.2.2.trans hc⟩
  have c16 : ∀ X, Mid p q w0 l l X → (X.cell? ⟨w.heap.size, 1, none⟩ = some (.string d.n) ∧ X.cell? ⟨w.heap.size, 2, none⟩ = some (.int .i64 d.v) ∧ X.cell? ⟨w.heap.size, 3, none⟩ = some (.string d.t) ∧ X.cell? ⟨w.heap.size, 4, none⟩ = some ev ∧ ActAt w.heap.size 3 d ev p q w X) → Calls Tryd.prog 18 #[.pointer (some ⟨p, 0, none⟩), .string d.n, .int .i64 d.v, .string d.t] X fun e w' => e = .returned (.int .i64 (wholeL l d.n d.v d.t).2) ∧ Mid p q w0 (wholeL l d.n d.v d.t).1 l w' ∧ (w'.cell? ⟨w.heap.size, 1, none⟩ = some (.string d.n) ∧ w'.cell? ⟨w.heap.size, 2, none⟩ = some (.int .i64 d.v) ∧ w'.cell? ⟨w.heap.size, 3, none⟩ = some (.string d.t) ∧ w'.cell? ⟨w.heap.size, 4, none⟩ = some ev ∧ ActAt w.heap.size 3 d ev p q w w') := fun X h hS => by
    refine (mid_prog h (fun y hp => pwhole_any p y l d.n d.v d.t X hp hI hn ht (h.tabs hT))).mono ?_
    rintro e w' ⟨rfl, hm, hc⟩
    exact ⟨rfl, hm, step X w' hS hc⟩
  have c20 : ∀ X, Mid p q w0 (wholeL l d.n d.v d.t).1 l X → (X.cell? ⟨w.heap.size, 1, none⟩ = some (.string d.n) ∧ X.cell? ⟨w.heap.size, 2, none⟩ = some (.int .i64 d.v) ∧ X.cell? ⟨w.heap.size, 3, none⟩ = some (.string d.t) ∧ X.cell? ⟨w.heap.size, 4, none⟩ = some ev ∧ ActAt w.heap.size 3 d ev p q w X) → Calls Tryd.prog 22 #[.pointer (some ⟨q, 0, none⟩), .string d.n, .int .i64 d.v, .string d.t] X fun e w' => e = .returned (.int .i64 (wholeL l d.n d.v d.t).2) ∧ Mid p q w0 (wholeL l d.n d.v d.t).1 (wholeL l d.n d.v d.t).1 w' ∧ (w'.cell? ⟨w.heap.size, 1, none⟩ = some (.string d.n) ∧ w'.cell? ⟨w.heap.size, 2, none⟩ = some (.int .i64 d.v) ∧ w'.cell? ⟨w.heap.size, 3, none⟩ = some (.string d.t) ∧ w'.cell? ⟨w.heap.size, 4, none⟩ = some ev ∧ ActAt w.heap.size 3 d ev p q w w') := fun X h hS => by
    refine (mid_ref h (fun B v hs hB => whole_any B q l v d.n d.t d.v X hs hI hB ht)).mono ?_
    rintro e w' ⟨rfl, hm, hc⟩
    exact ⟨rfl, hm, step X w' hS hc⟩
  have hA0 : Mid p q w0 l l W.drew := (h0.later hbw).later (Below.refl _ _).drew
  have hS0 : (W.drew.cell? ⟨w.heap.size, 1, none⟩ = some (.string d.n) ∧ W.drew.cell? ⟨w.heap.size, 2, none⟩ = some (.int .i64 d.v) ∧ W.drew.cell? ⟨w.heap.size, 3, none⟩ = some (.string d.t) ∧ W.drew.cell? ⟨w.heap.size, 4, none⟩ = some ev ∧ ActAt w.heap.size 3 d ev p q w W.drew) := cells W.drew ⟨hbx, CKeep.of hbw.drew⟩
  obtain ⟨q0, q1, q2, q3, q4⟩ := five_cells hbx
  generalize (wholeL l d.n d.v d.t) = R at c16 c20 ⊢
  obtain ⟨l1, c⟩ := R
  simp only at c16 c20 ⊢
  clear hbw hbx h0 cells step
  go_enter Tryd.func9, Tryd.ntmps9
  go_upto_region 7 with fail
  clear hW
  go_region_held3 (fun X => X.cell? ⟨w.heap.size, 1, none⟩ = some (.string d.n) ∧ X.cell? ⟨w.heap.size, 2, none⟩ = some (.int .i64 d.v) ∧ X.cell? ⟨w.heap.size, 3, none⟩ = some (.string d.t) ∧ X.cell? ⟨w.heap.size, 4, none⟩ = some ev ∧ ActAt w.heap.size 3 d ev p q w X) (with_reducible (repeat (first | assumption))) (first
        | (go_at_call 18; (with_reducible refine (c16 _ ?_ ?_).mono ?_); assumption; assumption; rintro e w3 ⟨rfl, hA3, hS3⟩)
        | (go_at_call 22; (with_reducible refine (c20 _ ?_ ?_).mono ?_); assumption; assumption; rintro e w4 ⟨rfl, hA4, hS4⟩))
  have HA := Lib.hid hA4
  have HS := Lib.hid hS4
  clear hA3 hS3 hA4 hS4 hA0 hS0 c16 c20
  go_wp2_with fail
  go_ret
  exact ⟨rfl, HA.out, HS.out.2.2.2.2.2⟩

set_option maxHeartbeats 8000000 in
set_option maxRecDepth 20000 in
theorem do_cls (p q : Nat) (w0 : World) (l : List DocP) (d : DocP) (es : List EdP) (ev : Value) (w : World) (h0 : Mid p q w0 l l w) (hI : Inv l) (hn : d.n.size ≤ 1000000) (_ht : d.t.size ≤ 1000000)
    (_hev : EdsLow w0.heap.size w0 es ev) (_hel : es.length ≤ 1000000) (_het : ∀ e ∈ es, e.t.size ≤ 1000000) (_hT : Tabs w0) :
    Calls Tryd.prog 9 #[.agg #[.int .i64 4, .string d.n, .int .i64 d.v, .string d.t, ev], .pointer (some ⟨p, 0, none⟩), .pointer (some ⟨q, 0, none⟩)] w fun e w' => e = .returned (.bool true) ∧ Mid p q w0 (closeL l d.n).1 (closeL l d.n).1 w' ∧ CKeep p q w w' := by
  obtain ⟨W, hW⟩ : ∃ W, w.alloc (.cells #[.int .i64 4, .string d.n, .int .i64 d.v, .string d.t, ev] 33) = W := ⟨_, rfl⟩
  have hbw : Below w.heap.size w W := by rw [← hW]; exact (Below.refl _ _).alloc (Nat.le_refl _) _
  have hbx : W.heap[w.heap.size]? = some (.cells #[.int .i64 4, .string d.n, .int .i64 d.v, .string d.t, ev] 33 (0, 0)) := by rw [← hW]; exact heap_alloc_new _ _
  have hzp : w.heap.size ≠ p ∧ w.heap.size ≠ q := by
    obtain ⟨y, B, h⟩ := h0
    obtain ⟨v, hs⟩ := h.sto
    have := h.ps.lt
    have := hs.lt
    omega
  have cells : ∀ X, ActAt w.heap.size 4 d ev p q w X → (X.cell? ⟨w.heap.size, 1, none⟩ = some (.string d.n) ∧ X.cell? ⟨w.heap.size, 2, none⟩ = some (.int .i64 d.v) ∧ X.cell? ⟨w.heap.size, 3, none⟩ = some (.string d.t) ∧ X.cell? ⟨w.heap.size, 4, none⟩ = some ev ∧ ActAt w.heap.size 4 d ev p q w X) := fun X hA => by
    obtain ⟨q0, q1, q2, q3, q4⟩ := five_cells hA.1
    exact ⟨q1, q2, q3, q4, hA⟩
  have step : ∀ X X', (X.cell? ⟨w.heap.size, 1, none⟩ = some (.string d.n) ∧ X.cell? ⟨w.heap.size, 2, none⟩ = some (.int .i64 d.v) ∧ X.cell? ⟨w.heap.size, 3, none⟩ = some (.string d.t) ∧ X.cell? ⟨w.heap.size, 4, none⟩ = some ev ∧ ActAt w.heap.size 4 d ev p q w X) → CKeep p q X X' → (X'.cell? ⟨w.heap.size, 1, none⟩ = some (.string d.n) ∧ X'.cell? ⟨w.heap.size, 2, none⟩ = some (.int .i64 d.v) ∧ X'.cell? ⟨w.heap.size, 3, none⟩ = some (.string d.t) ∧ X'.cell? ⟨w.heap.size, 4, none⟩ = some ev ∧ ActAt w.heap.size 4 d ev p q w X') := fun X X' hS hc => cells X' ⟨hc _ _ _ _ hzp.1 hzp.2 hS.2.2.2.2.1, hS.2.2.2.2.2.trans hc⟩
  have c16 : ∀ X, Mid p q w0 l l X → (X.cell? ⟨w.heap.size, 1, none⟩ = some (.string d.n) ∧ X.cell? ⟨w.heap.size, 2, none⟩ = some (.int .i64 d.v) ∧ X.cell? ⟨w.heap.size, 3, none⟩ = some (.string d.t) ∧ X.cell? ⟨w.heap.size, 4, none⟩ = some ev ∧ ActAt w.heap.size 4 d ev p q w X) → Calls Tryd.prog 19 #[.pointer (some ⟨p, 0, none⟩), .string d.n] X fun e w' => e = .returned (.int .i64 (closeL l d.n).2) ∧ Mid p q w0 (closeL l d.n).1 l w' ∧ (w'.cell? ⟨w.heap.size, 1, none⟩ = some (.string d.n) ∧ w'.cell? ⟨w.heap.size, 2, none⟩ = some (.int .i64 d.v) ∧ w'.cell? ⟨w.heap.size, 3, none⟩ = some (.string d.t) ∧ w'.cell? ⟨w.heap.size, 4, none⟩ = some ev ∧ ActAt w.heap.size 4 d ev p q w w') := fun X h hS => by
    refine (mid_prog h (fun y hp => pclose_any p y l d.n X hp hn)).mono ?_
    rintro e w' ⟨rfl, hm, hc⟩
    exact ⟨rfl, hm, step X w' hS hc⟩
  have c20 : ∀ X, Mid p q w0 (closeL l d.n).1 l X → (X.cell? ⟨w.heap.size, 1, none⟩ = some (.string d.n) ∧ X.cell? ⟨w.heap.size, 2, none⟩ = some (.int .i64 d.v) ∧ X.cell? ⟨w.heap.size, 3, none⟩ = some (.string d.t) ∧ X.cell? ⟨w.heap.size, 4, none⟩ = some ev ∧ ActAt w.heap.size 4 d ev p q w X) → Calls Tryd.prog 23 #[.pointer (some ⟨q, 0, none⟩), .string d.n] X fun e w' => e = .returned (.int .i64 (closeL l d.n).2) ∧ Mid p q w0 (closeL l d.n).1 (closeL l d.n).1 w' ∧ (w'.cell? ⟨w.heap.size, 1, none⟩ = some (.string d.n) ∧ w'.cell? ⟨w.heap.size, 2, none⟩ = some (.int .i64 d.v) ∧ w'.cell? ⟨w.heap.size, 3, none⟩ = some (.string d.t) ∧ w'.cell? ⟨w.heap.size, 4, none⟩ = some ev ∧ ActAt w.heap.size 4 d ev p q w w') := fun X h hS => by
    refine (mid_ref h (fun B v hs hB => close_any B q l v d.n X hs hI hB)).mono ?_
    rintro e w' ⟨rfl, hm, hc⟩
    exact ⟨rfl, hm, step X w' hS hc⟩
  have hA0 : Mid p q w0 l l W.drew := (h0.later hbw).later (Below.refl _ _).drew
  have hS0 : (W.drew.cell? ⟨w.heap.size, 1, none⟩ = some (.string d.n) ∧ W.drew.cell? ⟨w.heap.size, 2, none⟩ = some (.int .i64 d.v) ∧ W.drew.cell? ⟨w.heap.size, 3, none⟩ = some (.string d.t) ∧ W.drew.cell? ⟨w.heap.size, 4, none⟩ = some ev ∧ ActAt w.heap.size 4 d ev p q w W.drew) := cells W.drew ⟨hbx, CKeep.of hbw.drew⟩
  obtain ⟨q0, q1, q2, q3, q4⟩ := five_cells hbx
  generalize (closeL l d.n) = R at c16 c20 ⊢
  obtain ⟨l1, c⟩ := R
  simp only at c16 c20 ⊢
  clear hbw hbx h0 cells step
  go_enter Tryd.func9, Tryd.ntmps9
  go_upto_region 9 with fail
  clear hW
  go_region_held3 (fun X => X.cell? ⟨w.heap.size, 1, none⟩ = some (.string d.n) ∧ X.cell? ⟨w.heap.size, 2, none⟩ = some (.int .i64 d.v) ∧ X.cell? ⟨w.heap.size, 3, none⟩ = some (.string d.t) ∧ X.cell? ⟨w.heap.size, 4, none⟩ = some ev ∧ ActAt w.heap.size 4 d ev p q w X) (with_reducible (repeat (first | assumption))) (first
        | (go_at_call 19; (with_reducible refine (c16 _ ?_ ?_).mono ?_); assumption; assumption; rintro e w3 ⟨rfl, hA3, hS3⟩)
        | (go_at_call 23; (with_reducible refine (c20 _ ?_ ?_).mono ?_); assumption; assumption; rintro e w4 ⟨rfl, hA4, hS4⟩))
  have HA := Lib.hid hA4
  have HS := Lib.hid hS4
  clear hA3 hS3 hA4 hS4 hA0 hS0 c16 c20
  go_wp2_with fail
  go_ret
  exact ⟨rfl, HA.out, HS.out.2.2.2.2.2⟩

set_option maxHeartbeats 4000000 in
set_option maxRecDepth 20000 in
theorem do_none (k : Int) (p q : Nat) (n t : ByteArray) (v : Int) (ev : Value) (w : World) (d1 : decide (k = 1) = false) (d2 : decide (k = 2) = false) (d3 : decide (k = 3) = false) (d4 : decide (k = 4) = false) :
    Calls Tryd.prog 9 #[.agg #[.int .i64 k, .string n, .int .i64 v, .string t, ev], .pointer (some ⟨p, 0, none⟩), .pointer (some ⟨q, 0, none⟩)] w fun e w' => e = .returned (.bool true) ∧ Below w.heap.size w w' := by
  obtain ⟨W, hW⟩ : ∃ W, w.alloc (.cells #[.int .i64 k, .string n, .int .i64 v, .string t, ev] 33) = W := ⟨_, rfl⟩
  have hbw : Below w.heap.size w W := by rw [← hW]; exact (Below.refl _ _).alloc (Nat.le_refl _) _
  have hbx : W.heap[w.heap.size]? = some (.cells #[.int .i64 k, .string n, .int .i64 v, .string t, ev] 33 (0, 0)) := by rw [← hW]; exact heap_alloc_new _ _
  obtain ⟨q0, q1, q2, q3, q4⟩ := five_cells hbx
  have b1 : (k == 1) = false := by simpa using d1
  have b2 : (k == 2) = false := by simpa using d2
  have b3 : (k == 3) = false := by simpa using d3
  have b4 : (k == 4) = false := by simpa using d4
  have HBW := Lib.hid hbw
  clear hbw hbx q1 q2 q3 q4
  go_enter Tryd.func9, Tryd.ntmps9
  go_wp2_with fail
  go_ret
  exact ⟨rfl, HBW.out⟩

/-- Both stores hold the same documents. -/
structure Two (p q : Nat) (w0 : World) (l : List DocP) (w : World) : Prop where
  mid : Mid p q w0 l l w
  inv : Inv l
  tabs : Tabs w0
theorem Two.later {p q : Nat} {w0 w w' : World} {l : List DocP} (h : Two p q w0 l w) (hb : Below w.heap.size w w') : Two p q w0 l w' := ⟨h.mid.later hb, h.inv, h.tabs⟩
theorem Two.tab {p q : Nat} {w0 w : World} {l : List DocP} (h : Two p q w0 l w) : Tabs w := h.mid.tabs h.tabs
theorem do_any (p q : Nat) (w0 : World) (l : List DocP) (a : ActP) (ev : Value) (w : World) (h : Two p q w0 l w) (hf : ActFit 1000000 a) (hev : EdsLow w0.heap.size w0 a.es ev) :
    Calls Tryd.prog 9 #[.agg #[.int .i64 a.k, .string a.d.n, .int .i64 a.d.v, .string a.d.t, ev], .pointer (some ⟨p, 0, none⟩), .pointer (some ⟨q, 0, none⟩)] w fun e w' => e = .returned (.bool true) ∧ Two p q w0 (doL l a).1 w' ∧ CKeep p q w w' := by
  have hI := h.inv.act a
  obtain ⟨k, d, es⟩ := a
  obtain ⟨fn, ft, fe, fl⟩ := hf
  simp only at *
  by_cases h1 : k = 1
  · subst h1
    have hd : doL l ⟨1, d, es⟩ = openL l d := rfl
    rw [hd] at hI ⊢
    refine (do_opn p q w0 l d es ev w h.mid h.inv fn ft hev fl fe h.tabs).mono ?_
    rintro e w' ⟨rfl, hm, hc⟩
    exact ⟨rfl, ⟨hm, hI, h.tabs⟩, hc⟩
  by_cases h2 : k = 2
  · subst h2
    have hd : doL l ⟨2, d, es⟩ = changeL l d.n d.v es := rfl
    rw [hd] at hI ⊢
    refine (do_chg p q w0 l d es ev w h.mid h.inv fn ft hev fl fe h.tabs).mono ?_
    rintro e w' ⟨rfl, hm, hc⟩
    exact ⟨rfl, ⟨hm, hI, h.tabs⟩, hc⟩
  by_cases h3 : k = 3
  · subst h3
    have hd : doL l ⟨3, d, es⟩ = wholeL l d.n d.v d.t := rfl
    rw [hd] at hI ⊢
    refine (do_whl p q w0 l d es ev w h.mid h.inv fn ft hev fl fe h.tabs).mono ?_
    rintro e w' ⟨rfl, hm, hc⟩
    exact ⟨rfl, ⟨hm, hI, h.tabs⟩, hc⟩
  by_cases h4 : k = 4
  · subst h4
    have hd : doL l ⟨4, d, es⟩ = closeL l d.n := rfl
    rw [hd] at hI ⊢
    refine (do_cls p q w0 l d es ev w h.mid h.inv fn ft hev fl fe h.tabs).mono ?_
    rintro e w' ⟨rfl, hm, hc⟩
    exact ⟨rfl, ⟨hm, hI, h.tabs⟩, hc⟩
  have hd : doL l ⟨k, d, es⟩ = (l, 0) := by unfold doL; simp only; rw [if_neg h1, if_neg h2, if_neg h3, if_neg h4]
  rw [hd]
  refine (do_none k p q d.n d.t d.v ev w (by simpa using h1) (by simpa using h2) (by simpa using h3) (by simpa using h4)).mono ?_
  rintro e w' ⟨rfl, hb⟩
  exact ⟨rfl, h.later hb, CKeep.of hb⟩
/-- The act at a place, later on: its cells, and where its edits lie. -/
theorem act_low {W W' : World} {g off : Nat} {l : List ActP} (h : ActsAt W g off l) (hg : g < W.heap.size) (hk : Keep W.heap.size (fun _ => False) W W') (i : Nat) (hi : i < l.length) :
    ∃ ev, EdsLow W.heap.size W l[i].es ev ∧ W'.cell? ⟨g, off + i * 5, none⟩ = some (.int .i64 l[i].k) ∧ W'.cell? ⟨g, off + i * 5 + 1, none⟩ = some (.string l[i].d.n) ∧ W'.cell? ⟨g, off + i * 5 + 2, none⟩ = some (.int .i64 l[i].d.v) ∧
      W'.cell? ⟨g, off + i * 5 + 3, none⟩ = some (.string l[i].d.t) ∧ W'.cell? ⟨g, off + i * 5 + 4, none⟩ = some ev := by
  obtain ⟨ev, h1, h2⟩ := h i hi
  have hc : ∀ j u, (actC l[i] ev)[j]? = some u → W'.cell? ⟨g, off + i * 5 + j, none⟩ = some u := fun j u hj => (cell_keep hk hg (fun h => h)).trans (h1 j u hj)
  exact ⟨ev, h2, hc 0 _ rfl, hc 1 _ rfl, hc 2 _ rfl, hc 3 _ rfl, hc 4 _ rfl⟩
end Go.Proofs.YtccmicmlkgkheaaDoor.D

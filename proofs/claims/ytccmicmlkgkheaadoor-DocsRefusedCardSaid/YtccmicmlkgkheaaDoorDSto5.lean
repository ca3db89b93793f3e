/- The program's store: Close. -/
import Derived.Test.YtccmicmlkgkheaaDoorDSto2
import Derived.Test.YtccmicmlkgkheaaDoorDRef1
namespace Go.Proofs.YtccmicmlkgkheaaDoor.D
open Go.RowKit
open Go.Lib hiding intOf
open Go.Proofs.YtccmicmlkgkheaaDoor.U Go.Proofs.YtccmicmlkgkheaaDoor.L Go.Proofs.YtccmicmlkgkheaaDoor.E

set_option maxHeartbeats 4000000 in
set_option maxRecDepth 20000 in
theorem pclose_any (p : Nat) (y : Option Nat) (l : List DocP) (n : ByteArray) (w : World) (h : PSt p y l w) (hn : n.size ≤ 1000000) :
    Calls Tryd.prog 19 #[.pointer (some ⟨p, 0, none⟩), .string n] w (ProgPost p y (closeL l n) w) := by
  have p0 := h.c0
  have hlk := h.look hn
  obtain ⟨x, hx⟩ : ∃ x, getL l n = x := ⟨_, rfl⟩
  rw [hx] at hlk
  clear hx
  unfold closeL
  cases hf : (findL l n).isSome
  · rw [hf] at hlk
    simp only [Bool.false_eq_true, if_false]
    have HP := Lib.hid h
    clear h hf
    go_enter Tryd.func19, Tryd.ntmps19
    go_wp2_with fail
    go_ret
    have hb : Below w.heap.size w (w.alloc (.cells #[.string x.n, .int .i64 x.v, .string x.t] 30)) := (Below.refl _ _).alloc (Nat.le_refl _) _
    exact ⟨rfl, Keep.of hb (Nat.le_refl _), y, .inl rfl, HP.out.later hb⟩
  · rw [hf] at hlk
    simp only [if_true]
    obtain ⟨W, hW⟩ : ∃ W, w.alloc (.cells #[.string x.n, .int .i64 x.v, .string x.t] 30) = W := ⟨_, rfl⟩
    have hb : Below w.heap.size w W := by rw [← hW]; exact (Below.refl _ _).alloc (Nat.le_refl _) _
    have hP := h.later hb
    obtain ⟨W', hrun, hP2, hk⟩ := hP.drop hn 0
    have p1 := hP.c0
    have HP2 := Lib.hid hP2
    have HK := Lib.hid ((Keep.of (X := YY p y) hb (Nat.le_refl _)).trans (hk.weak hb.size (fun k _ hx => .inr hx)))
    clear h hf hb hP hP2 hk
    go_enter Tryd.func19, Tryd.ntmps19
    go_wp2_with fail
    go_ret
    exact ⟨rfl, HK.out, y, .inl rfl, HP2.out⟩
end Go.Proofs.YtccmicmlkgkheaaDoor.D

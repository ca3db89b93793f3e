/- A decoder that is fed piece by piece, and the list of what it told. -/
import Derived.Test.YtojdginbaaoidaaDoorFBackWalk
namespace Go.Proofs.YtojdginbaaoidaaDoor.F
open Go.RowKit
open Go.Lib

theorem owns_block {w : World} {B n size : Nat} {e : TypeId} {v : Value} {xs : List Value} (h : w.ownsRow B e size v n xs) {k : Nat} (hk : v.ownBlock = some k) : ∃ cur, w.heap[k]? = some (.cells cur e (0, 0)) := by
  rcases h.2 with ⟨h, _⟩ | ⟨g, cap, cur, rfl, _, h3, _⟩
  · rw [h] at hk; cases hk
  · cases hk; exact ⟨cur, h3⟩
theorem owns_apart {w : World} {B B' n n' size size' : Nat} {e e' : TypeId} {v v' : Value} {xs xs' : List Value} (h : w.ownsRow B e size v n xs) (h' : w.ownsRow B' e' size' v' n' xs') (he : e ≠ e') {k : Nat} (hk : v.ownBlock = some k) : some k ≠ v'.ownBlock := by
  intro hk'
  obtain ⟨c1, h1⟩ := owns_block h hk
  obtain ⟨c2, h2⟩ := owns_block h' hk'.symm
  rw [h1] at h2
  injection h2 with h2
  injection h2 with _ h3
  exact he h3

/-- The decoder c has been fed P; yv has all that it told; below c all is as in w0. -/
def DState (c B2 : Nat) (P : List UInt8) (yv : Value) (w0 wr : World) : Prop :=
  ∃ v, Blk c v ((goL P).lost : Nat) wr ∧ Row c v (goL P).left wr ∧ wr.ownsRow B2 9 1 yv (goL P).out.length ((goL P).out.map strV) ∧ Below c w0 wr ∧ B2 ≤ wr.heap.size
/-- It has been fed Q more, which told x. -/
def FState (c B2 : Nat) (P Q : List UInt8) (x yv : Value) (w0 wr : World) : Prop :=
  ∃ v o2, Blk c v ((goL (P ++ Q)).lost : Nat) wr ∧ Row c v (goL (P ++ Q)).left wr ∧ wr.ownsRow B2 9 1 yv (goL P).out.length ((goL P).out.map strV) ∧
    (goL (P ++ Q)).out = (goL P).out ++ o2 ∧ wr.ownsRow B2 9 1 x o2.length (o2.map strV) ∧ Below c w0 wr ∧ B2 ≤ wr.heap.size

theorem feed_state {c B2 : Nat} {P : List UInt8} {yv : Value} {w0 wr : World} (h : DState c B2 P yv w0 wr) (hcB : c < B2) (hw0 : w0.heap.size = c) (hE : EnvF w0) (s : ByteArray) (hP : P.length + s.size ≤ 1099511627776) :
    Calls Tryd.prog 13 #[.pointer (some ⟨c, 0, none⟩), .string s] wr fun e w' => ∃ x, e = .returned x ∧ FState c B2 P s.data.toList x yv w0 w' := by
  obtain ⟨v, hb, hr, hy, hbel, hB2⟩ := h
  have hl1 := goL_left P
  have hl2 := goL_lost P
  have hEn : Env c wr := ⟨w0, hw0, hE, hbel⟩
  refine (feed_any c c v (goL P).left s (goL P).lost wr hb hr hEn (Nat.le_refl _) (by omega) (by omega)).mono ?_
  rintro e w' hf
  have hbel2 := feeds_below hf hEn.size (Nat.le_refl _) (fun k hk => by have := (hr.lt k hk).1; omega)
  obtain ⟨x, v', rfl, hx, hb', hr', h1, h2, h3, h4, h5⟩ := hf
  have ha := goL_app s.data.toList P.length P (Nat.le_refl _)
  have hyk : w'.ownsRow B2 9 1 yv (goL P).out.length ((goL P).out.map strV) := owns_same hy (fun k hk => by
    have h6 := hy.lt k hk
    exact h5 k h6.2 (by omega) (owns_apart hy hr (by decide) hk))
  refine ⟨x, rfl, v', (goL ((goL P).left ++ s.data.toList)).out, ?_, ?_, hyk, ?_, owns_base hx hB2, hbel.trans hbel2, Nat.le_trans hB2 h4⟩
  · rw [ha]; exact hb'
  · rw [ha]; exact hr'
  · rw [ha]
theorem state_append {c B2 : Nat} {P Q : List UInt8} {x yv y' : Value} {w0 w1 w2 : World} (h : FState c B2 P Q x yv w0 w1) (hcB : c < B2) (hy : w2.ownsRow B2 9 1 y' (goL (P ++ Q)).out.length ((goL (P ++ Q)).out.map strV)) (hg : w1.grownBy w2 yv.ownBlock) : DState c B2 (P ++ Q) y' w0 w2 := by
  obtain ⟨v, o2, hb, hr, hyv, ho, hx, hbel, hB2⟩ := h
  have hyb : ∀ k, some k = yv.ownBlock → B2 ≤ k := fun k hk => (hyv.lt k hk.symm).1
  refine ⟨v, ?_, ?_, hy, hbel.trans ⟨hg.os, hg.tape, hg.output, hg.size, fun k hk => ?_⟩, Nat.le_trans hB2 hg.size⟩
  · exact hb.same (hg.block c hb.lt (fun e => by have := hyb c e; omega))
  · exact owns_same hr (fun k hk => hg.block k (hr.lt k hk).2 (owns_apart hr hyv (by decide) hk))
  · exact hg.block k (by omega) (fun e => by have := hyb k e; omega)
theorem new_state {c : Nat} {w0 wr : World} (hb : Blk c (.slice none 0 0) 0 wr) (hbel : Below c w0 wr) : DState c wr.heap.size [] (.slice none 0 0) w0 wr := by
  have h0 : goL [] = ⟨[], 0, []⟩ := goL_wait step_nil
  refine ⟨.slice none 0 0, ?_, ?_, ?_, hbel, Nat.le_refl _⟩
  · rw [h0]; exact hb
  · rw [h0]; exact World.ownsRow_nil _ _ _ _
  · rw [h0]; exact World.ownsRow_nil _ _ _ _
end Go.Proofs.YtojdginbaaoidaaDoor.F

/- A law for a range over a function whose rounds come in an order that the body may know: the iterator tells what stands between two rounds (a state), the body is handed no more than what may come behind that state. It imports nothing of the program. -/
import Derived.RangeFuncNested
import Derived.RangeFuncBound
import Derived.RangeFuncCalls
import Derived.RangeFuncLeaves
import Derived.WalkKit
import Derived.OwnWalkIn
import Derived.Lib.Hide
namespace Go.Proofs.YtapjomdplibanaaDoor.Q
open Go.RowKit

/-- An iterator that goes through states: in state s it hands over an x with R s x s'; it ends in one of S; block k is read between two rounds. -/
def Steps {σ α : Type} (P : Program) (gf : Nat) (lb : Array Value) (encs : α → Array Value) (k : Nat) (R : σ → α → σ → Prop) (s0 : σ) (S : σ → Prop) (w : World) : Prop :=
  ∀ (l : Nat) (J : σ → World → Prop) (W : World), Below w.heap.size w W →
    (∀ s x s' W1, R s x s' → J s W1 → YieldAt Fence.wide 2 P l (encs x) W1 fun e W2 => e = .returned (.bool true) ∧ J s' W2 ∧ W2.heap[k]? = W1.heap[k]?) → J s0 W →
    CallsIn Fence.wide 3 P gf (#[.func (.yield l) #[] #[]] ++ lb) W fun e W2 => (∃ v, e = .returned v) ∧ ∃ s, S s ∧ J s W2
/-- A round that goes on. -/
def goesOn (k : Nat) (J : World → Prop) (W : World) : Exit → Act → World → Prop
  | .normal, _, W2 => KeepsOthers W W2 ∧ W2.heap[k]? = W.heap[k]? ∧ J W2
  | .ret, _, _ => False
  | .exit _, _, _ => False
  | .goto _, _, _ => False
  | .panic _, _, _ => False
  | .outgrown, _, _ => False
theorem wp_steps {σ α : Type} {P : Program} {g : Operand} {ps : Array Tmp} {assign body : Code} {Q : Exit → Act → World → Prop} {a : Act} {w w0 : World} {gf k : Nat} {lb : Array Value} {encs : α → Array Value} {R : σ → α → σ → Prop} {s0 : σ} {S : σ → Prop}
    (hg : a.eval g = .func (.func gf) #[] lb) (eg : ∀ args w, (callFunc gf args).run P w = .ok (.enter gf args) w) (hseq : Steps P gf lb encs k R s0 S w0) (hb0 : Below w0.heap.size w0 w) (hn0 : k < w.heap.size) (hps : ∀ x, (encs x).size = ps.size)
    (I : σ → World → Prop) (hI : OwnFrom w.heap.size I) (h0 : I s0 w) (a1 : α → Act)
    (hassign : ∀ (l : Nat) (x : α) (W : World) (K : Act → World → Prop), K (a1 x) W → assign.wpIn (Fence.wide.inRound l) 2 P (Exit.then K (fun _ _ _ => False)) { tmps := (ps.zip (encs x)).foldl (fun t (p, v) => t.setIfInBounds p v) a.tmps, defers := [] } W)
    (hbody : ∀ (l : Nat) (s : σ) (x : α) (s' : σ) (W : World), R s x s' → I s W → body.wpIn (Fence.wide.inRound l) 2 P (goesOn k (I s') W) (a1 x) W)
    (hdone : ∀ (D : Nat) (s : σ) (W : World), w.heap.size ≤ D → S s → I s W → W.heap[D]? = some (.deferred (some [])) → Q .normal { a with defers := { target := .collected D, args := #[] } :: a.defers } W) :
    (Code.rangeFunc g ps assign body).wp P Q a w := by
  refine (wpIn_wide (n := 4)).1 (wpIn_rangeFunc fun fn hfn => ?_)
  -- the loop's record, and the two blocks that are laid for it
  obtain ⟨D, hD⟩ : ∃ D, w.heap.size = D := ⟨_, rfl⟩
  obtain ⟨rec, hrec⟩ : ∃ rec : LoopState → Loop, rec = fun st => { state := st, pending := none, fn, tmps := a.tmps, params := ps, assign, body, defers := D } := ⟨_, rfl⟩
  obtain ⟨W1, hW1⟩ : ∃ W1, (w.alloc (.deferred (some []))).alloc (.loop (rec .ready)) = W1 := ⟨_, rfl⟩
  have hK1 : W1.heap[D]? = some (.deferred (some [])) := by
    rw [← hW1, ← hD]; exact (Below.heap_alloc _ _ _ (by simp)).trans (World.alloc_heap_new w _)
  have hL1 : W1.heap[D + 1]? = some (.loop (rec .ready)) := by
    have h := World.alloc_heap_new (w.alloc (.deferred (some []))) (.loop (rec .ready))
    rw [World.size_alloc, hD, hW1] at h
    exact h
  have hI1 : I s0 W1 := by rw [← hW1]; exact hI.alloc _ (hI.alloc _ h0)
  have hb1 : Below w0.heap.size w0 W1 := by
    rw [← hW1]; exact hb0.trans ((((Below.refl _ w).alloc (Nat.le_refl _) _).alloc (by simp) _).mono hb0.size)
  have henter := run_enterLoop_outer (P := P) (w := w) fn a.tmps ps assign body
  rw [hD] at henter
  refine ⟨D + 1, [{ target := .collected D, args := #[] }], W1, { target := .fn (.func gf) lb, args := #[.func (.yield (D + 1)) #[] #[]] }, W1, gf, #[.func (.yield (D + 1)) #[] #[]] ++ lb, W1, ?_, ?_, fun _ _ => trivial, ?_, fun h => by (simp [Fence.wide] at h), ?_⟩
  · rw [Fence.wide_round, ← hW1, hrec]
    exact henter
  · simp only [resolve, hg]
    simp [go_sem]
  · simp [invoke, go_sem, eg]
  · rw [hD] at hI hn0
    refine (hseq (D + 1) (fun s W => I s W ∧ W.heap[D + 1]? = some (.loop (rec .ready)) ∧ W.heap[D]? = some (.deferred (some []))) W1 hb1 ?_ ⟨hI1, hL1, hK1⟩).mono ?_
    · -- a round
      rintro s x s' W hR ⟨hi, hl, hk⟩
      have hlt : D + 1 < W.heap.size := (Array.getElem?_eq_some_iff.1 hl).1
      obtain ⟨W2, hW2⟩ : ∃ W2, W.putObj (D + 1) (.loop (rec .busy)) = W2 := ⟨_, rfl⟩
      have hl2 : W2.heap[D + 1]? = some (.loop (rec .busy)) := by rw [← hW2]; exact World.putObj_heap_same hlt
      have hk2 : W2.heap[D]? = some (.deferred (some [])) := by rw [← hW2]; exact (World.putObj_heap_other (by omega)).trans hk
      have hi2 : I s W2 := by rw [← hW2]; exact hI.putObj _ hi (by omega) hl rfl
      have hb2 : W2.heap[k]? = W.heap[k]? := by rw [← hW2]; exact World.putObj_heap_other (by omega)
      have hbegin : (Instr.beginRound (D + 1)).run P W = .ok () W2 := by
        have h := run_beginRound (P := P) hl (by rw [hrec])
        rw [← hW2, h, hrec]
      have hy := run_yield (P := P) (args := encs x) hl (by rw [hrec]; exact hps x)
      rw [hrec] at hy
      refine ⟨fn, _, assign, body, hy, roundIn_of_wpIn hfn (hassign _ x W _ ⟨_, hbegin, wpIn_mono (hbody _ s x s' W2 hR hi2) ?_⟩)⟩
      rintro e a3 W3 hp
      cases e with
      | normal =>
        obtain ⟨hko, hb3, hi3⟩ := hp
        have hl3 := hko.same _ _ hl2 rfl
        have hk3 := hko.same _ _ hk2 rfl
        have hlt3 : D + 1 < W3.heap.size := (Array.getElem?_eq_some_iff.1 hl3).1
        have hend := run_endRound (P := P) none hl3
        have hb4 : (W3.putObj (D + 1) (.loop (rec .ready))).heap[k]? = W3.heap[k]? := World.putObj_heap_other (by omega)
        refine ⟨_, W3.putObj (D + 1) (.loop (rec .ready)), ?_, rfl, ⟨hI.putObj _ hi3 (by omega) hl3 rfl, World.putObj_heap_same hlt3, (World.putObj_heap_other (by omega)).trans hk3⟩, hb4.trans (hb3.trans hb2)⟩
        rw [hrec] at hend ⊢
        exact hend
      | ret => exact hp.elim
      | exit id => exact hp.elim
      | goto t => exact hp.elim
      | panic ch => exact hp.elim
      | outgrown => exact hp.elim
    · -- behind the iterator
      rintro e W2 ⟨⟨v, rfl⟩, s, hS, hi, hl, hk⟩
      have hend := run_endLoop (P := P) hl (by rw [hrec]; simp)
      have hp : (rec .ready).pending = none := by rw [hrec]
      rw [hp] at hend
      exact ⟨none, _, hend, hdone D s _ (by omega) hS (hI.putObj _ hi (by omega) hl rfl) ((World.putObj_heap_other (by omega)).trans hk)⟩
end Go.Proofs.YtapjomdplibanaaDoor.Q

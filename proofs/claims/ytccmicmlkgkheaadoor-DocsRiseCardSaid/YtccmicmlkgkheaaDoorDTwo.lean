/- Both stores of a law of layer 7 as one state: the program's at p, the document's at q; what a call of the one, or of the other, makes of it. -/
import Derived.Test.YtccmicmlkgkheaaDoorDSame
import Derived.Test.YtccmicmlkgkheaaDoorDFits
import Derived.Test.YtccmicmlkgkheaaDoorDSto3
import Derived.Test.YtccmicmlkgkheaaDoorDSto4
import Derived.Test.YtccmicmlkgkheaaDoorDSto7
namespace Go.Proofs.YtccmicmlkgkheaaDoor.D
open Go.RowKit
open Go.Lib hiding intOf
open Go.Proofs.YtccmicmlkgkheaaDoor.U Go.Proofs.YtccmicmlkgkheaaDoor.L Go.Proofs.YtccmicmlkgkheaaDoor.E

theorem cell_keep {C : Nat} {X : Nat → Prop} {w w' : World} (h : Keep C X w w') {k j : Nat} (hk : k < C) (hX : ¬ X k) : w'.cell? ⟨k, j, none⟩ = w.cell? ⟨k, j, none⟩ := by
  unfold World.cell?; rw [h.block k hk hX]
/-- Edits that came in: they lie below a bound. -/
def EdsLow (A : Nat) (W : World) (l : List EdP) (v : Value) : Prop := ∃ a cap, v = .slice a l.length cap ∧ (l = [] ∨ ∃ g off, a = some ⟨g, off, none⟩ ∧ g < A ∧ EdsAt W g off l)
theorem EdsLow.to {A : Nat} {W W' : World} {l : List EdP} {v : Value} (h : EdsLow A W l v) (hk : Keep A (fun _ => False) W W') (hz : A ≤ W'.heap.size) : EdsIn W' l v := by
  obtain ⟨a, cap, h1, h2⟩ := h
  refine ⟨a, cap, h1, h2.imp id fun ⟨g, off, e, hg, hc⟩ => ⟨g, off, e, by omega, fun j u hj => ?_⟩⟩
  rw [cell_keep hk hg (fun h => h)]
  exact hc j u hj
/-- The tables are as they were, if no block below a bound above them is another. -/
theorem tabs_keep {A : Nat} {w X : World} (hT : Tabs w) (hk : Keep A (fun _ => False) w X) (hA : w.heap.size ≤ A) : Tabs X :=
  tabs_later hT ⟨hk.os, hk.tape, hk.output, hk.size, fun k hk2 => hk.block k (by omega) (fun h => h)⟩
/-- Blocks of cells are as they were, but two. -/
def CKeep (p q : Nat) (W W' : World) : Prop := ∀ k cs t f, k ≠ p → k ≠ q → W.heap[k]? = some (.cells cs t f) → W'.heap[k]? = some (.cells cs t f)
theorem CKeep.refl (p q : Nat) (W : World) : CKeep p q W W := fun _ _ _ _ _ _ h => h
theorem CKeep.trans {p q : Nat} {a b c : World} (h : CKeep p q a b) (h2 : CKeep p q b c) : CKeep p q a c := fun k cs t f hp hq hk => h2 k cs t f hp hq (h k cs t f hp hq hk)
theorem CKeep.of {p q : Nat} {W W' : World} (h : Below W.heap.size W W') : CKeep p q W W' := fun k _ _ _ _ _ hk => (h.block k (Array.getElem?_eq_some_iff.1 hk).1).trans hk

/-- Both stores, as they lie in memory above what came in (w0). -/
structure MidY (p q : Nat) (w0 : World) (l1 l2 : List DocP) (X : World) (y : Option Nat) (B : Nat) : Prop where
  ps : PSt p y l1 X
  sto : ∃ v, Sto B q l2 v X
  yb : ∀ k, YY p y k → k < B ∧ w0.heap.size ≤ k
  yq : ¬ YY p y q
  qa : w0.heap.size ≤ q
  up : B ≤ X.heap.size
  keep : Keep w0.heap.size (fun _ => False) w0 X
def Mid (p q : Nat) (w0 : World) (l1 l2 : List DocP) (X : World) : Prop := ∃ y B, MidY p q w0 l1 l2 X y B
theorem Mid.low {p q : Nat} {w0 X : World} {l1 l2 : List DocP} (h : Mid p q w0 l1 l2 X) : Keep w0.heap.size (fun _ => False) w0 X := let ⟨_, _, h⟩ := h; h.keep
theorem Mid.below {p q : Nat} {w0 X : World} {l1 l2 : List DocP} (h : Mid p q w0 l1 l2 X) : Below w0.heap.size w0 X :=
  ⟨h.low.os, h.low.tape, h.low.output, h.low.size, fun k hk => h.low.block k hk (fun h => h)⟩
theorem Mid.tabs {p q : Nat} {w0 X : World} {l1 l2 : List DocP} (h : Mid p q w0 l1 l2 X) (hT : Tabs w0) : Tabs X := tabs_keep hT h.low (Nat.le_refl _)
theorem Mid.later {p q : Nat} {w0 X X' : World} {l1 l2 : List DocP} (h : Mid p q w0 l1 l2 X) (hb : Below X.heap.size X X') : Mid p q w0 l1 l2 X' := by
  obtain ⟨y, B, h⟩ := h
  exact ⟨y, B, h.ps.later hb, h.sto.imp fun _ x => x.later hb, h.yb, h.yq, h.qa, by have := h.up; have := hb.size; omega, h.keep.trans (Keep.of hb h.keep.size)⟩
theorem map_cells {p : Nat} {y : Option Nat} {l : List DocP} {X : World} (h : PSt p y l X) {k : Nat} {cs : Array Value} {t : TypeId} {f : Nat × Nat} (hk : X.heap[k]? = some (.cells cs t f)) (hp : k ≠ p) : ¬ YY p y k := by
  rintro (e | e)
  · exact hp e
  · rcases h.own with ⟨h1, _⟩ | ⟨b, D, h1, ⟨es, clock, hb, _⟩, _⟩
    · rw [h1] at e; cases e
    · rw [h1] at e; cases e; rw [hk] at hb; cases hb
/-- A call of the program's store. -/
theorem mid_progZ {p q : Nat} {w0 X : World} {l : List DocP} {r : List DocP × Int} {f : FuncId} {args : Array Value} (h : Mid p q w0 l l X) (c : ∀ y, PSt p y l X → Calls Tryd.prog f args X (ProgPost p y r X)) :
    Calls Tryd.prog f args X fun e w' => e = .returned (.int .i64 r.2) ∧ Mid p q w0 r.1 l w' ∧ CKeep p q X w' ∧ X.heap.size ≤ w'.heap.size := by
  obtain ⟨y, B, h⟩ := h
  refine (c y h.ps).mono ?_
  rintro e w' ⟨rfl, hk, y', hy, hp⟩
  have hck : CKeep p q X w' := fun k cs t f hp hq hk2 => (hk.block k (Array.getElem?_eq_some_iff.1 hk2).1 (map_cells h.ps hk2 hp)).trans hk2
  obtain ⟨v, hs⟩ := h.sto
  have hlow : Keep w0.heap.size (fun _ => False) w0 w' := h.keep.trans (hk.weak h.keep.size (fun k hk2 hy2 => by have := (h.yb k hy2).2; omega))
  have hX := h.up
  refine ⟨rfl, ?_, hck, hk.size⟩
  rcases hy with rfl | ⟨rfl, b, rfl, hb⟩
  · exact ⟨y', B, hp, ⟨v, hs.keep hk (Nat.le_refl _) (fun k hk2 hy2 => by have := (h.yb k hy2).1; omega) h.yq⟩, h.yb, h.yq, h.qa, by have := hk.size; omega, hlow⟩
  · have hl : l = [] := by
      rcases h.ps.own with ⟨_, e⟩ | ⟨b2, D, e, _⟩
      · exact e
      · cases e
    subst hl
    have hbw := hp.ylt rfl
    have hs2 := hs.keep hk (Nat.le_refl _) (fun k hk2 hy2 => by have := (h.yb k hy2).1; omega) h.yq
    have hql := hs.lt
    refine ⟨some b, w'.heap.size, hp, ⟨v, hs2.blk, ?_, by have := hk.size; omega⟩, ?_, ?_, h.qa, Nat.le_refl _, hlow⟩
    · obtain ⟨a, cap, h1, h2, _⟩ := hs2.row
      exact ⟨a, cap, h1, h2, .inl rfl⟩
    · rintro k (rfl | e)
      · have := h.yb k (.inl rfl); have := hk.size; omega
      · cases e; have := h.keep.size; omega
    · rintro (e | e)
      · exact h.yq (.inl e)
      · cases e; omega
theorem mid_prog {p q : Nat} {w0 X : World} {l : List DocP} {r : List DocP × Int} {f : FuncId} {args : Array Value} (h : Mid p q w0 l l X) (c : ∀ y, PSt p y l X → Calls Tryd.prog f args X (ProgPost p y r X)) :
    Calls Tryd.prog f args X fun e w' => e = .returned (.int .i64 r.2) ∧ Mid p q w0 r.1 l w' ∧ CKeep p q X w' := by
  refine (mid_progZ h c).mono ?_
  rintro e w' ⟨h1, h2, h3, _⟩
  exact ⟨h1, h2, h3⟩
/-- A call of the document's store. -/
theorem mid_ref {p q : Nat} {w0 X : World} {l1 l : List DocP} {r : List DocP × Int} {f : FuncId} {args : Array Value} (h : Mid p q w0 l1 l X) (c : ∀ B v, Sto B q l v X → B ≤ X.heap.size → Calls Tryd.prog f args X (RefPost B q r X)) :
    Calls Tryd.prog f args X fun e w' => e = .returned (.int .i64 r.2) ∧ Mid p q w0 l1 r.1 w' ∧ CKeep p q X w' := by
  obtain ⟨y, B, h⟩ := h
  obtain ⟨v, hs⟩ := h.sto
  refine (c B v hs h.up).mono ?_
  rintro e w' ⟨rfl, hk, hs2⟩
  refine ⟨rfl, ⟨y, B, h.ps.keep hk (Nat.le_refl _) (fun k e hy => h.yq (by rw [← e]; exact hy)), hs2, h.yb, h.yq, h.qa, by have := h.up; have := hk.size; omega, h.keep.trans (hk.weak h.keep.size (fun k hk2 e => by have := h.qa; omega))⟩,
    fun k cs t f _ hq hk2 => (hk.block k (Array.getElem?_eq_some_iff.1 hk2).1 (fun e => hq e)).trans hk2⟩

/-- The program's store alone, above what came in. -/
def One (p : Nat) (w0 : World) (l : List DocP) (X : World) : Prop := ∃ y, PSt p y l X ∧ (∀ k, YY p y k → w0.heap.size ≤ k) ∧ Below w0.heap.size w0 X
theorem One.later {p : Nat} {w0 X X' : World} {l : List DocP} (h : One p w0 l X) (hb : Below X.heap.size X X') : One p w0 l X' := by
  obtain ⟨y, h1, h2, h3⟩ := h
  exact ⟨y, h1.later hb, h2, h3.trans (hb.mono h3.size)⟩
theorem One.tabs {p : Nat} {w0 X : World} {l : List DocP} (h : One p w0 l X) (hT : Tabs w0) : Tabs X := let ⟨_, _, _, h3⟩ := h; tabs_later hT h3
theorem One.below {p : Nat} {w0 X : World} {l : List DocP} (h : One p w0 l X) : Below w0.heap.size w0 X := let ⟨_, _, _, h3⟩ := h; h3
theorem one_prog {p : Nat} {w0 X : World} {l : List DocP} {r : List DocP × Int} {f : FuncId} {args : Array Value} (h : One p w0 l X) (c : ∀ y, PSt p y l X → Calls Tryd.prog f args X (ProgPost p y r X)) :
    Calls Tryd.prog f args X fun e w' => e = .returned (.int .i64 r.2) ∧ One p w0 r.1 w' ∧ CKeep p p X w' ∧ X.heap.size ≤ w'.heap.size := by
  obtain ⟨y, h1, h2, h3⟩ := h
  refine (c y h1).mono ?_
  rintro e w' ⟨rfl, hk, y', hy, hp⟩
  refine ⟨rfl, ⟨y', hp, ?_, ?_⟩, fun k cs t f hp _ hk2 => (hk.block k (Array.getElem?_eq_some_iff.1 hk2).1 (map_cells h1 hk2 hp)).trans hk2, hk.size⟩
  · rcases hy with rfl | ⟨rfl, b, rfl, hb⟩
    · exact h2
    · rintro k (e | e)
      · exact h2 k (.inl e)
      · cases e; have := h3.size; omega
  · exact ⟨hk.os.trans h3.os, hk.tape.trans h3.tape, hk.output.trans h3.output, Nat.le_trans h3.size hk.size, fun k hk2 => (hk.block k (by have := h3.size; omega) (fun e => by have := h2 k e; omega)).trans (h3.block k hk2)⟩
end Go.Proofs.YtccmicmlkgkheaaDoor.D

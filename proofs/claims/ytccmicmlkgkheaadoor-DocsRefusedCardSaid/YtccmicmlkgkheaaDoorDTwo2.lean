/- Both stores as one state: how they begin, and what is asked of them. -/
import Derived.Test.YtccmicmlkgkheaaDoorDAct
import Derived.Test.YtccmicmlkgkheaaDoorDLive
namespace Go.Proofs.YtccmicmlkgkheaaDoor.D
open Go.RowKit
open Go.Lib hiding intOf
open Go.Proofs.YtccmicmlkgkheaaDoor.U Go.Proofs.YtccmicmlkgkheaaDoor.L Go.Proofs.YtccmicmlkgkheaaDoor.E

theorem two_start {w w1 : World} (h : PSt w.heap.size none [] w1) (hb : Below w.heap.size w w1) (hT : Tabs w) : Two w.heap.size w1.heap.size w [] (w1.alloc (.cells #[.slice none 0 0] 28)) := by
  have hb2 : Below w1.heap.size w1 (w1.alloc (.cells #[.slice none 0 0] 28)) := (Below.refl _ _).alloc (Nat.le_refl _) _
  have hlt := h.lt
  refine ⟨⟨none, w1.heap.size + 1, h.later hb2, ⟨.slice none 0 0, heap_alloc_new _ _, ⟨none, 0, rfl, Nat.le_refl _, .inl rfl⟩, by omega⟩, fun k hk => ?_, fun hk => ?_, by omega, by rw [World.size_alloc]; omega, (Keep.of hb (Nat.le_refl _)).trans (Keep.of hb2 hb.size)⟩, inv_nil, hT⟩
  · rcases hk with e | e
    · omega
    · cases e
  · rcases hk with e | e
    · omega
    · cases e
theorem Two.lts {p q : Nat} {w0 w : World} {l : List DocP} (h : Two p q w0 l w) : p < w.heap.size ∧ q < w.heap.size := by
  obtain ⟨y, B, h⟩ := h.mid
  obtain ⟨v, hs⟩ := h.sto
  exact ⟨h.ps.lt, hs.lt⟩
theorem Two.low {p q : Nat} {w0 w : World} {l : List DocP} (h : Two p q w0 l w) : Keep w0.heap.size (fun _ => False) w0 w := h.mid.low
theorem Two.below {p q : Nat} {w0 w : World} {l : List DocP} (h : Two p q w0 l w) : Below w0.heap.size w0 w := h.mid.below
theorem two_get {p q : Nat} {w0 w : World} {l : List DocP} (h : Two p q w0 l w) {n : ByteArray} (hn : n.size ≤ 1000000) :
    Calls Tryd.prog 10 #[.pointer (some ⟨p, 0, none⟩), .string n] w fun e w' => e = .returned (.tuple #[.agg #[.string (getL l n).n, .int .i64 (getL l n).v, .string (getL l n).t], .bool (findL l n).isSome]) ∧ Below w.heap.size w w' := by
  obtain ⟨y, B, hm⟩ := h.mid
  exact get_any p y l n w hm.ps hn
theorem two_all {p q : Nat} {w0 w : World} {l : List DocP} (h : Two p q w0 l w) :
    Calls Tryd.prog 12 #[.pointer (some ⟨p, 0, none⟩)] w fun e w' => (∃ v, e = .returned v ∧ DocsIn w.heap.size w' l v) ∧ Below w.heap.size w w' := by
  obtain ⟨y, B, hm⟩ := h.mid
  exact all_any p y l w hm.ps h.inv
theorem two_size {p q : Nat} {w0 w : World} {l : List DocP} (h : Two p q w0 l w) :
    Calls Tryd.prog 13 #[.pointer (some ⟨p, 0, none⟩)] w fun e w' => e = .returned (.int .i64 (sizeL l : Nat)) ∧ Below w.heap.size w w' := by
  obtain ⟨y, B, hm⟩ := h.mid
  exact size_any p y l w hm.ps h.inv
theorem getL_name {l : List DocP} {n : ByteArray} (h : (findL l n).isSome = true) : (getL l n).n = n := by
  obtain ⟨d, hd⟩ := Option.isSome_iff_exists.1 h
  unfold getL
  rw [hd]
  exact (findL_some hd).2
theorem mid_all {p q : Nat} {w0 w : World} {l l2 : List DocP} (h : Mid p q w0 l l2 w) (hI : Inv l) :
    Calls Tryd.prog 12 #[.pointer (some ⟨p, 0, none⟩)] w fun e w' => (∃ v, e = .returned v ∧ DocsIn w.heap.size w' l v) ∧ Below w.heap.size w w' := by
  obtain ⟨y, B, hm⟩ := h
  exact all_any p y l w hm.ps hI
/-- A list that lies above both stores' own blocks stays as it is. -/
theorem DocsIn.ckeep {B p q : Nat} {W W' : World} {l : List DocP} {v : Value} (h : DocsIn B W l v) (hc : CKeep p q W W') (hp : p < B) (hq : q < B) : DocsIn B W' l v := by
  obtain ⟨a, cap, h1, h2, h3⟩ := h
  refine ⟨a, cap, h1, h2, ?_⟩
  rcases h3 with h3 | ⟨g, off, e, hB, hg, hat⟩
  · exact .inl h3
  · by_cases hl : l = []
    · exact .inl hl
    · right
      have h0 : 0 < l.length := by
        cases l with
        | nil => exact absurd rfl hl
        | cons x r => simp
      obtain ⟨c0, _, _⟩ := doc_at 0 hat h0
      obtain ⟨cs, t, f, hb⟩ : ∃ cs t f, W.heap[g]? = some (.cells cs t f) := by
        unfold World.cell? at c0
        cases hb : W.heap[g]? with
        | none => rw [hb] at c0; cases c0
        | some o =>
          rw [hb] at c0
          cases o <;> first | exact ⟨_, _, _, rfl⟩ | cases c0
      have hb' := hc g cs t f (by omega) (by omega) hb
      refine ⟨g, off, e, hB, (Array.getElem?_eq_some_iff.1 hb').1, fun j u hj => ?_⟩
      rw [← hat j u hj]
      unfold World.cell?
      rw [hb, hb']
theorem eds_low {A : Nat} {W : World} {l : List EdP} {v : Value} (h : EdsIn W l v) (hA : W.heap.size ≤ A) : EdsLow A W l v := by
  obtain ⟨a, cap, h1, h2⟩ := h
  exact ⟨a, cap, h1, h2.imp id fun ⟨g, off, h3, h4, h5⟩ => ⟨g, off, h3, by omega, h5⟩⟩
end Go.Proofs.YtccmicmlkgkheaaDoor.D

/- A value in memory: its parts, and its keys, lie in rows of their own, which other calls leave alone. -/
import Derived.Test.YtfjdeacpdcnjpaaGreatDoorVRead6
import Derived.Laws.AppendOwn
namespace Go.Proofs.YtfjdeacpdcnjpaaGreatDoor.V
open Go.RowKit
open Go.Lib

/-- From a place on memory holds these cells. -/
def CellsAt (W : World) (g off : Nat) (xs : List Value) : Prop := ∀ j u, xs[j]? = some u → W.cell? ⟨g, off + j, none⟩ = some u
def strCell (k : List UInt8) : Value := .string ⟨k.toArray⟩
def KeysIn (W : World) (R : Nat → Prop) (ks : List (List UInt8)) (kv : Value) : Prop :=
  ∃ a cap, kv = .slice a ks.length cap ∧ (ks = [] ∨ ∃ g off, a = some ⟨g, off, none⟩ ∧ R g ∧ CellsAt W g off (ks.map strCell))
/-- A value's six cells. -/
def six (so : Int) (on : Bool) (n : Int) (t : List UInt8) (lv kv : Value) : List Value := [.int .i64 so, .bool on, .int .i64 n, strCell t, lv, kv]
def six' : Val → Value → Value → List Value
  | .mk so on n t _ _, lv, kv => six so on n t lv kv
mutual
/-- A value's parts lie at lv, its keys at kv. -/
def ValIn (W : World) (R : Nat → Prop) : Val → Value → Value → Prop
  | .mk _ _ _ _ l ks, lv, kv => (∃ a cap, lv = .slice a l.length cap ∧ (l = [] ∨ ∃ g off xs, a = some ⟨g, off, none⟩ ∧ R g ∧ CellsAt W g off xs ∧ ListIn W R l xs)) ∧ KeysIn W R ks kv
def ListIn (W : World) (R : Nat → Prop) : List Val → List Value → Prop
  | [], xs => xs = []
  | v :: r, xs => ∃ lv kv rest, xs = six' v lv kv ++ rest ∧ ValIn W R v lv kv ∧ ListIn W R r rest
end

/-- What lies in rows of R stands. -/
def Same (R : Nat → Prop) (W W' : World) : Prop := ∀ g, R g → g < W.heap.size → W'.heap[g]? = W.heap[g]?
theorem CellsAt.later {W W' : World} {R : Nat → Prop} {g off : Nat} {xs : List Value} (h : CellsAt W g off xs) (hR : R g) (hs : Same R W W') : CellsAt W' g off xs := by
  intro j u hj
  have h1 := h j u hj
  have hlt : g < W.heap.size := World.block_lt_of_cell? W _ h1
  have h2 := hs g hR hlt
  unfold World.cell? at h1 ⊢
  rw [h2]; exact h1
theorem KeysIn.later {W W' : World} {R R' : Nat → Prop} {ks : List (List UInt8)} {kv : Value} (h : KeysIn W R ks kv) (hs : Same R W W') (hR : ∀ g, R g → R' g) : KeysIn W' R' ks kv := by
  obtain ⟨a, cap, h1, h2⟩ := h
  refine ⟨a, cap, h1, h2.imp id fun ⟨g, off, h3, h4, h5⟩ => ⟨g, off, h3, hR g h4, h5.later h4 hs⟩⟩
mutual
theorem ValIn.later {W W' : World} {R R' : Nat → Prop} (hs : Same R W W') (hR : ∀ g, R g → R' g) : ∀ (v : Val) (lv kv : Value), ValIn W R v lv kv → ValIn W' R' v lv kv
  | .mk so on n t l ks, lv, kv, h => by
    obtain ⟨⟨a, cap, h1, h2⟩, hk⟩ := h
    refine ⟨⟨a, cap, h1, ?_⟩, hk.later hs hR⟩
    rcases h2 with h2 | ⟨g, off, xs, h3, h4, h5, h6⟩
    · exact .inl h2
    · exact .inr ⟨g, off, xs, h3, hR g h4, h5.later h4 hs, ListIn.later hs hR l xs h6⟩
theorem ListIn.later {W W' : World} {R R' : Nat → Prop} (hs : Same R W W') (hR : ∀ g, R g → R' g) : ∀ (l : List Val) (xs : List Value), ListIn W R l xs → ListIn W' R' l xs
  | [], xs, h => h
  | v :: r, xs, h => by
    obtain ⟨lv, kv, rest, h1, h2, h3⟩ := h
    exact ⟨lv, kv, rest, h1, ValIn.later hs hR v lv kv h2, ListIn.later hs hR r rest h3⟩
end
theorem six_length (v : Val) (lv kv : Value) : (six' v lv kv).length = 6 := by cases v; rfl
theorem ListIn.length {W : World} {R : Nat → Prop} : ∀ {l : List Val} {xs : List Value}, ListIn W R l xs → xs.length = 6 * l.length
  | [], xs, h => by have h : xs = [] := h; subst h; rfl
  | v :: r, xs, h => by
    obtain ⟨lv, kv, rest, rfl, _, h3⟩ := h
    have := ListIn.length h3
    rw [List.length_append, six_length, this]; simp; omega
theorem ListIn.snoc {W : World} {R : Nat → Prop} : ∀ {l : List Val} {xs : List Value} {v : Val} {lv kv : Value}, ListIn W R l xs → ValIn W R v lv kv → ListIn W R (l ++ [v]) (xs ++ six' v lv kv)
  | [], xs, v, lv, kv, h, hv => by
    have h : xs = [] := h
    subst h
    exact ⟨lv, kv, [], by simp, hv, rfl⟩
  | u :: r, xs, v, lv, kv, h, hv => by
    obtain ⟨lv', kv', rest, rfl, h2, h3⟩ := h
    exact ⟨lv', kv', rest ++ six' v lv kv, by simp, h2, ListIn.snoc h3 hv⟩

/-- How a call ends that reads a value. -/
def ReadsV (d : Nat) (s : ByteArray) (o : Int) (r : Res Val) (w : World) (e : Ending) (w' : World) : Prop :=
  Mut w.heap.size d w w' ∧ match r with
  | .ok (.mk so on n t l ks) rest => ∃ lv kv, e = .returned (.tuple #[.agg (six so on n t lv kv).toArray, .int .i64 0]) ∧ ValIn w' (fun g => w.heap.size ≤ g) (.mk so on n t l ks) lv kv ∧ RdL d s rest o w'
  | .bad => e = .returned (.tuple #[.agg (six 0 false 0 [] (.slice none 0 0) (.slice none 0 0)).toArray, .int .i64 21]) ∧ ∃ l, RdL d s l o w'
  | .deep => e = .returned (.tuple #[.agg (six 0 false 0 [] (.slice none 0 0) (.slice none 0 0)).toArray, .int .i64 22]) ∧ ∃ l, RdL d s l o w'
end Go.Proofs.YtfjdeacpdcnjpaaGreatDoor.V

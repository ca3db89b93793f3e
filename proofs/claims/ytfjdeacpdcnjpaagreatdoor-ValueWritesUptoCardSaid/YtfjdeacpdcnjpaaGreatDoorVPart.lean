/- What memory holds behind an append of a part. -/
import Derived.Test.YtfjdeacpdcnjpaaGreatDoorVRead7
import Derived.Test.YtfjdeacpdcnjpaaGreatDoorVRep
import Derived.OwnWalk
namespace Go.Proofs.YtfjdeacpdcnjpaaGreatDoor.V
open Go.RowKit
open Go.Lib

/-- How a call ends that reads a part into the value in block b, whose parts lie at lv. -/
def ReadsE (d b : Nat) (s : ByteArray) (o : Int) (so : Int) (kv lv : Value) (A : Nat → Prop) (Bl : Nat) (vs : List Val) (r : Res Val) (w : World) (e : Ending) (w' : World) : Prop :=
  match r with
  | .ok v rest => e = .returned (.int .i64 0) ∧ RdL d s rest o w' ∧ MutX w.heap.size d (fun k => k = b ∨ lv.ownBlock = some k) w w' ∧
      ∃ lv' xs', w'.heap[b]? = some (.cells (six so false 0 [] lv' kv).toArray 34 (0, 0)) ∧ w'.ownsRow Bl 34 6 lv' (vs.length + 1) xs' ∧
        ListIn w' (fun g => Bl ≤ g ∧ lv'.ownBlock ≠ some g ∧ ¬ A g) (vs ++ [v]) xs' ∧ (lv'.ownBlock = lv.ownBlock ∨ ∀ g, lv'.ownBlock = some g → w.heap.size ≤ g)
  | .bad => e = .returned (.int .i64 21) ∧ (∃ l, RdL d s l o w') ∧ Mut w.heap.size d w w'
  | .deep => e = .returned (.int .i64 22) ∧ (∃ l, RdL d s l o w') ∧ Mut w.heap.size d w w'

mutual
theorem ValIn.bound {W : World} {R : Nat → Prop} : ∀ (v : Val) (lv kv : Value), ValIn W R v lv kv → ValIn W (fun g => R g ∧ g < W.heap.size) v lv kv
  | .mk so on n t l ks, lv, kv, h => by
    obtain ⟨⟨a, cap, h1, h2⟩, a2, cap2, h3, h4⟩ := h
    refine ⟨⟨a, cap, h1, ?_⟩, a2, cap2, h3, ?_⟩
    · rcases h2 with h2 | ⟨g, off, xs, h5, h6, h7, h8⟩
      · exact .inl h2
      · cases l with
        | nil => exact .inl rfl
        | cons v r =>
          have hx : ∃ u, xs[0]? = some u := by
            obtain ⟨lv', kv', rest, rfl, _, _⟩ := h8
            cases v; exact ⟨_, rfl⟩
          obtain ⟨u, hu⟩ := hx
          exact .inr ⟨g, off, xs, h5, ⟨h6, World.block_lt_of_cell? W _ (h7 0 u hu)⟩, h7, ListIn.bound (v :: r) xs h8⟩
    · rcases h4 with h4 | ⟨g, off, h5, h6, h7⟩
      · exact .inl h4
      · cases ks with
        | nil => exact .inl rfl
        | cons k r => exact .inr ⟨g, off, h5, ⟨h6, World.block_lt_of_cell? W _ (h7 0 _ rfl)⟩, h7⟩
theorem ListIn.bound {W : World} {R : Nat → Prop} : ∀ (l : List Val) (xs : List Value), ListIn W R l xs → ListIn W (fun g => R g ∧ g < W.heap.size) l xs
  | [], xs, h => h
  | v :: r, xs, h => by
    obtain ⟨lv, kv, rest, h1, h2, h3⟩ := h
    exact ⟨lv, kv, rest, h1, ValIn.bound v lv kv h2, ListIn.bound r rest h3⟩
end

def set6 (cur : Array Value) (k : Nat) (a0 a1 a2 a3 a4 a5 : Value) : Array Value :=
  (((((cur.setIfInBounds k a0).setIfInBounds (k + 1) a1).setIfInBounds (k + 2) a2).setIfInBounds (k + 3) a3).setIfInBounds (k + 4) a4).setIfInBounds (k + 5) a5
theorem set6_size (cur : Array Value) (k : Nat) (a0 a1 a2 a3 a4 a5 : Value) : (set6 cur k a0 a1 a2 a3 a4 a5).size = cur.size := by simp [set6]
theorem set6_take (cur : Array Value) (n : Nat) (xs : List Value) (a0 a1 a2 a3 a4 a5 z0 z1 z2 z3 z4 z5 : Value) (hx : xs.length = n * 6) (h : cur.toList.take ((n + 1) * 6) = xs ++ [z0, z1, z2, z3, z4, z5]) :
    (set6 cur (n * 6) a0 a1 a2 a3 a4 a5).toList.take ((n + 1) * 6) = xs ++ [a0, a1, a2, a3, a4, a5] := by
  unfold set6
  simp only [Array.toList_setIfInBounds, List.take_set, h, ← hx]
  rw [List.set_append_right _ _ (by omega), List.set_append_right _ _ (by omega), List.set_append_right _ _ (by omega), List.set_append_right _ _ (by omega), List.set_append_right _ _ (by omega), List.set_append_right _ _ (by omega)]
  simp

/-- W' is w with six cells put into block gg, and the value in block b turned. -/
structure PutIn (gg b k : Nat) (a0 a1 a2 a3 a4 a5 lv : Value) (w W' : World) : Prop where
  os : W'.os = w.os
  tape : W'.tape = w.tape
  output : W'.output = w.output
  size : W'.heap.size = w.heap.size
  row : ∀ cur, w.heap[gg]? = some (.cells cur 34 (0, 0)) → W'.heap[gg]? = some (.cells (set6 cur k a0 a1 a2 a3 a4 a5) 34 (0, 0))
  val : ∀ c0 c1 c2 c3 c4 c5, w.heap[b]? = some (.cells #[c0, c1, c2, c3, c4, c5] 34 (0, 0)) → W'.heap[b]? = some (.cells #[c0, c1, c2, c3, lv, c5] 34 (0, 0))
  far : ∀ j, j ≠ gg → j ≠ b → W'.heap[j]? = w.heap[j]?

theorem sc_os (w : World) (p : Addr) (v : Value) : (w.setCell p v).os = w.os := rfl
theorem sc_tape (w : World) (p : Addr) (v : Value) : (w.setCell p v).tape = w.tape := rfl
theorem sc_out (w : World) (p : Addr) (v : Value) : (w.setCell p v).output = w.output := rfl
theorem sc_size (w : World) (p : Addr) (v : Value) : (w.setCell p v).heap.size = w.heap.size := by simp [World.setCell]
theorem putIn_a (gg b k : Nat) (a0 a1 a2 a3 a4 a5 lv : Value) (w : World) (h : gg ≠ b) :
    PutIn gg b k a0 a1 a2 a3 a4 a5 lv w (((((((w.setCell ⟨gg, k, none⟩ a0).setCell ⟨gg, k + 1, none⟩ a1).setCell ⟨gg, k + 2, none⟩ a2).setCell ⟨gg, k + 3, none⟩ a3).setCell ⟨gg, k + 4, none⟩ a4).setCell ⟨gg, k + 5, none⟩ a5).setCell ⟨b, 4, none⟩ lv) := by
  refine ⟨by simp only [sc_os], by simp only [sc_tape], by simp only [sc_out], by simp only [sc_size], fun cur hc => ?_, fun c0 c1 c2 c3 c4 c5 hc => ?_, fun j hj hb => ?_⟩
  · rw [Below.heap_setCell _ _ _ _ h]
    have e0 := Go.Joins.block_setCell (i := k) hc a0
    have e1 := Go.Joins.block_setCell (i := k + 1) e0 a1
    have e2 := Go.Joins.block_setCell (i := k + 2) e1 a2
    have e3 := Go.Joins.block_setCell (i := k + 3) e2 a3
    have e4 := Go.Joins.block_setCell (i := k + 4) e3 a4
    have e5 := Go.Joins.block_setCell (i := k + 5) e4 a5
    unfold set6
    exact e5
  · refine Go.Joins.block_setCell (cs := #[c0, c1, c2, c3, c4, c5]) ?_ lv
    rw [Below.heap_setCell _ _ _ _ (Ne.symm h), Below.heap_setCell _ _ _ _ (Ne.symm h), Below.heap_setCell _ _ _ _ (Ne.symm h), Below.heap_setCell _ _ _ _ (Ne.symm h), Below.heap_setCell _ _ _ _ (Ne.symm h), Below.heap_setCell _ _ _ _ (Ne.symm h)]
    exact hc
  · rw [Below.heap_setCell _ _ _ _ hb, Below.heap_setCell _ _ _ _ hj, Below.heap_setCell _ _ _ _ hj, Below.heap_setCell _ _ _ _ hj, Below.heap_setCell _ _ _ _ hj, Below.heap_setCell _ _ _ _ hj, Below.heap_setCell _ _ _ _ hj]
theorem putIn_b (gg b k : Nat) (a0 a1 a2 a3 a4 a5 lv : Value) (w : World) (h : gg ≠ b) :
    PutIn gg b k a0 a1 a2 a3 a4 a5 lv w (((((((w.setCell ⟨b, 4, none⟩ lv).setCell ⟨gg, k, none⟩ a0).setCell ⟨gg, k + 1, none⟩ a1).setCell ⟨gg, k + 2, none⟩ a2).setCell ⟨gg, k + 3, none⟩ a3).setCell ⟨gg, k + 4, none⟩ a4).setCell ⟨gg, k + 5, none⟩ a5) := by
  refine ⟨by simp only [sc_os], by simp only [sc_tape], by simp only [sc_out], by simp only [sc_size], fun cur hc => ?_, fun c0 c1 c2 c3 c4 c5 hc => ?_, fun j hj hb => ?_⟩
  · have hc2 : (w.setCell ⟨b, 4, none⟩ lv).heap[gg]? = some (.cells cur 34 (0, 0)) := by rw [Below.heap_setCell _ _ _ _ h]; exact hc
    have e0 := Go.Joins.block_setCell (i := k) hc2 a0
    have e1 := Go.Joins.block_setCell (i := k + 1) e0 a1
    have e2 := Go.Joins.block_setCell (i := k + 2) e1 a2
    have e3 := Go.Joins.block_setCell (i := k + 3) e2 a3
    have e4 := Go.Joins.block_setCell (i := k + 4) e3 a4
    have e5 := Go.Joins.block_setCell (i := k + 5) e4 a5
    unfold set6
    exact e5
  · rw [Below.heap_setCell _ _ _ _ (Ne.symm h), Below.heap_setCell _ _ _ _ (Ne.symm h), Below.heap_setCell _ _ _ _ (Ne.symm h), Below.heap_setCell _ _ _ _ (Ne.symm h), Below.heap_setCell _ _ _ _ (Ne.symm h), Below.heap_setCell _ _ _ _ (Ne.symm h)]
    exact Go.Joins.block_setCell (cs := #[c0, c1, c2, c3, c4, c5]) hc lv
  · rw [Below.heap_setCell _ _ _ _ hj, Below.heap_setCell _ _ _ _ hj, Below.heap_setCell _ _ _ _ hj, Below.heap_setCell _ _ _ _ hj, Below.heap_setCell _ _ _ _ hj, Below.heap_setCell _ _ _ _ hj, Below.heap_setCell _ _ _ _ hb]

theorem part_done {d b Bl gg n capg : Nat} {s : ByteArray} {rest : List UInt8} {o so : Int} {lv kv : Value} {xs : List Value} {vs : List Val} {vso vn : Int} {von : Bool} {vt : List UInt8} {vl : List Val} {vks : List (List UInt8)}
    {lv1 kv1 z0 z1 z2 z3 z4 z5 : Value} {w w1 w2 w3 W' : World} {zo : Obj}
    (hm1 : Mut w.heap.size d w w1) (hbel2 : Below w1.heap.size w1 w2) (hz2 : w2.heap.size = w1.heap.size + 1) (hgrow : (w2.alloc zo).drew.grownBy w3 lv.ownBlock)
    (hown : w.ownsRow Bl 34 6 lv n xs) (hn : n = vs.length)
    (hown3 : w3.ownsRow Bl 34 6 (.slice (some ⟨gg, 0, none⟩) (n + 1) capg) (n + 1) (xs ++ [z0, z1, z2, z3, z4, z5])) (hat : lv.ownBlock = some gg ∨ gg = w2.heap.size + 1)
    {A : Nat → Prop} (hA : ∀ g, A g → g < w.heap.size) (hin : ListIn w (fun g => Bl ≤ g ∧ lv.ownBlock ≠ some g ∧ ¬ A g) vs xs) (hv1 : ValIn w1 (fun g => w.heap.size ≤ g) (.mk vso von vn vt vl vks) lv1 kv1) (hr1 : RdL d s rest o w1)
    (hb : w.heap[b]? = some (.cells (six so false 0 [] lv kv).toArray 34 (0, 0)))
    (hdl : d < Bl) (hbl : b < Bl) (hdb : d ≠ b) (hBl : Bl ≤ w.heap.size)
    (hp : PutIn gg b (n * 6) (.int .i64 vso) (.bool von) (.int .i64 vn) (.string ⟨vt.toArray⟩) lv1 kv1 (.slice (some ⟨gg, 0, none⟩) (n + 1) capg) w3 W') :
    ReadsE d b s o so kv lv A Bl vs (.ok (.mk vso von vn vt vl vks) rest) w (.returned (.int .i64 0)) W' := by
  have hrow : ∀ k, lv.ownBlock = some k → Bl ≤ k ∧ k < w.heap.size := fun k hk => World.ownsRowF.lt (World.ownsRowF_of hown) k hk
  have hz1 := hm1.size
  have hggw : ∀ k, k < w1.heap.size → lv.ownBlock ≠ some k → k ≠ gg := fun k hk hne h => by
    subst h; rcases hat with h | h
    · exact hne h
    · omega
  -- from w1 on all blocks but the row, and b, stand
  have far1 : ∀ k, k < w1.heap.size → lv.ownBlock ≠ some k → k ≠ b → W'.heap[k]? = w1.heap[k]? := fun k hk hne hkb => by
    rw [hp.far k (hggw k hk hne) hkb, hgrow.block k (by simp; omega) (fun h => hne h.symm)]
    exact (Below.heap_alloc w2 zo k (by omega)).trans (hbel2.block k hk)
  have far0 : ∀ k, k < w.heap.size → k ≠ d → lv.ownBlock ≠ some k → k ≠ b → W'.heap[k]? = w.heap[k]? := fun k hk hkd hne hkb =>
    (far1 k (by omega) hne hkb).trans (hm1.block k hk hkd)
  have hlvd : lv.ownBlock ≠ some d := fun h => by have := hrow d h; omega
  have hlvb : lv.ownBlock ≠ some b := fun h => by have := hrow b h; omega
  refine ⟨rfl, ?_, ?_, .slice (some ⟨gg, 0, none⟩) (n + 1) capg, xs ++ six vso von vn vt lv1 kv1, ?_, ?_, ?_, ?_⟩
  · obtain ⟨a, h1, h2, h3⟩ := hr1
    exact ⟨a, h1, h2, (far1 d h3.lt hlvd hdb).trans h3⟩
  · refine ⟨hp.os.trans (hgrow.os.trans (hbel2.os.trans hm1.os)), hp.tape.trans (hgrow.tape.trans (hbel2.tape.trans hm1.tape)), hp.output.trans (hgrow.output.trans (hbel2.output.trans hm1.output)), ?_, fun k hk hkd hX => far0 k hk hkd (fun h => hX (.inr h)) (fun h => hX (.inl h))⟩
    have := hgrow.size
    simp at this
    rw [hp.size]; omega
  · have hb3 : w3.heap[b]? = some (.cells (six so false 0 [] lv kv).toArray 34 (0, 0)) := by
      have hbt : b < w.heap.size := by omega
      rw [hgrow.block b (by simp; omega) (fun h => hlvb h.symm)]
      exact ((Below.heap_alloc w2 zo b (by omega)).trans (hbel2.block b (by omega))).trans ((hm1.block b hbt (Ne.symm hdb)).trans hb)
    exact hp.val _ _ _ _ _ _ hb3
  · rw [← hn]
    refine ⟨by rw [List.length_append, hown.1]; simp [six]; omega, .inr ?_⟩
    rcases hown3.2 with ⟨h2, _⟩ | ⟨g', cap', cur, he, hg, hgg, hle, hcap, hsz, htake⟩
    · cases h2
    · cases he
      exact ⟨gg, capg, _, rfl, hg, hp.row _ hgg, hle, hcap, by rw [set6_size]; exact hsz, set6_take cur n xs _ _ _ _ _ _ z0 z1 z2 z3 z4 z5 hown.1 htake⟩
  · have hgB : Bl ≤ gg := by
      rcases hown3.2 with ⟨h2, _⟩ | ⟨g', cap', cur, he, hg, _⟩
      · cases h2
      · cases he; exact hg
    refine ListIn.snoc (v := .mk vso von vn vt vl vks) ?_ ?_
    · refine ListIn.later (R := fun g => (Bl ≤ g ∧ lv.ownBlock ≠ some g ∧ ¬ A g) ∧ g < w.heap.size) (fun g hg hlt => far0 g hlt (by omega) hg.1.2.1 (by omega)) (fun g hg => ⟨hg.1.1, fun h => ?_, hg.1.2.2⟩) vs xs (ListIn.bound vs xs hin)
      have h : gg = g := by simpa [Value.ownBlock] using h
      exact hggw g (by omega) hg.1.2.1 h.symm
    · refine ValIn.later (R := fun g => w.heap.size ≤ g ∧ g < w1.heap.size) (fun g hg hlt => far1 g hlt (fun h => by have := hrow g h; omega) (by omega)) (fun g hg => ⟨by omega, fun h => ?_, fun h => by have := hA g h; omega⟩) _ _ _ (ValIn.bound _ _ _ hv1)
      have h : gg = g := by simpa [Value.ownBlock] using h
      exact hggw g hg.2 (fun h => by have := hrow g h; omega) h.symm
  · rcases hat with h | h
    · exact .inl (by rw [h]; rfl)
    · refine .inr fun g hg => ?_
      have hg : gg = g := by simpa [Value.ownBlock] using hg
      omega
end Go.Proofs.YtfjdeacpdcnjpaaGreatDoor.V

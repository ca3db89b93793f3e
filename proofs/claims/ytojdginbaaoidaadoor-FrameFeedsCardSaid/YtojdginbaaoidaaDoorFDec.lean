/- A decoder in memory, and the contracts of New, Lost, Left and keep. -/
import Derived.Test.YtojdginbaaoidaaDoorFHead
import Derived.Laws.AppendOwn
import Derived.Lib.AppendStr
import Derived.Maps.AppendAt
import Derived.Deep.DeepMust
import Derived.Laws.Pointers
namespace Go.Proofs.YtojdginbaaoidaaDoor.F
open Go.RowKit
open Go.Lib

/-- Below B all is as it was, but for block d. -/
structure Mut (B d : Nat) (w w' : World) : Prop where
  os : w'.os = w.os
  tape : w'.tape = w.tape
  output : w'.output = w.output
  size : w.heap.size ≤ w'.heap.size
  block : ∀ k, k < B → k ≠ d → w'.heap[k]? = w.heap[k]?
theorem Mut.refl (B d : Nat) (w : World) : Mut B d w w := ⟨rfl, rfl, rfl, Nat.le_refl _, fun _ _ _ => rfl⟩
theorem Mut.trans {B d : Nat} {a b c : World} (h : Mut B d a b) (k : Mut B d b c) : Mut B d a c :=
  ⟨k.os.trans h.os, k.tape.trans h.tape, k.output.trans h.output, Nat.le_trans h.size k.size, fun i hi hd => (k.block i hi hd).trans (h.block i hi hd)⟩
theorem Mut.mono {B B' d : Nat} {w w' : World} (h : Mut B d w w') (hB : B' ≤ B) : Mut B' d w w' := ⟨h.os, h.tape, h.output, h.size, fun k hk => h.block k (Nat.lt_of_lt_of_le hk hB)⟩
theorem Mut.of_below {B d : Nat} {w w' : World} (h : Below B w w') : Mut B d w w' := ⟨h.os, h.tape, h.output, h.size, fun k hk _ => h.block k hk⟩
theorem Mut.setCell {B d : Nat} {a w : World} (h : Mut B d a w) (i : Nat) (v : Value) : Mut B d a (w.setCell ⟨d, i, none⟩ v) := by
  refine ⟨h.os, h.tape, h.output, by simpa using h.size, fun k hk hd => ?_⟩
  rw [Below.heap_setCell _ _ _ _ hd]
  exact h.block k hk hd
theorem Mut.alloc {B d : Nat} {a w : World} (h : Mut B d a w) (hB : B ≤ w.heap.size) (o : Obj) : Mut B d a (w.alloc o) :=
  h.trans (Mut.of_below ((Below.refl B w).alloc hB o))
theorem Mut.grown {B d : Nat} {a w w' : World} {row : Option Nat} (h : Mut B d a w) (hg : w.grownBy w' row) (hB : B ≤ w.heap.size) (hr : ∀ k, row = some k → B ≤ k ∨ k = d) : Mut B d a w' :=
  h.trans ⟨hg.os, hg.tape, hg.output, hg.size, fun k hk hd => hg.block k (Nat.lt_of_lt_of_le hk hB) (fun e => (hr k e.symm).elim (fun h1 => absurd h1 (by omega)) hd)⟩
theorem Mut.below {B d : Nat} {w w' : World} (h : Mut B d w w') (hd : B ≤ d) : Below B w w' := ⟨h.os, h.tape, h.output, h.size, fun k hk => h.block k hk (by omega)⟩

/-- The decoder's block: its bytes' slice, and how many were passed over. -/
def Blk (d : Nat) (v : Value) (lost : Int) (w : World) : Prop := w.heap[d]? = some (.cells #[v, .int .i64 lost] 51 (0, 0))
section
variable {d : Nat} {v : Value} {lost : Int} {w w' : World}
theorem Blk.c0 (h : Blk d v lost w) : w.cell? ⟨d, 0, none⟩ = some v := by unfold Blk at h; simp [World.cell?, h]
theorem Blk.c1 (h : Blk d v lost w) : w.cell? ⟨d, 1, none⟩ = some (.int .i64 lost) := by unfold Blk at h; simp [World.cell?, h]
theorem Blk.f0 (h : Blk d v lost w) : w.frozen? ⟨d, 0, none⟩ = false := by unfold Blk at h; simp [World.frozen?, h]
theorem Blk.f1 (h : Blk d v lost w) : w.frozen? ⟨d, 1, none⟩ = false := by unfold Blk at h; simp [World.frozen?, h]
theorem Blk.lt (h : Blk d v lost w) : d < w.heap.size := (Array.getElem?_eq_some_iff.1 h).1
theorem Blk.set0 (h : Blk d v lost w) (x : Value) : Blk d x lost (w.setCell ⟨d, 0, none⟩ x) := Go.Joins.block_setCell h _
theorem Blk.set1 (h : Blk d v lost w) (x : Int) : Blk d v x (w.setCell ⟨d, 1, none⟩ (.int .i64 x)) := Go.Joins.block_setCell h _
theorem Blk.same (h : Blk d v lost w) (hs : w'.heap[d]? = w.heap[d]?) : Blk d v lost w' := hs.trans h
theorem Blk.below (h : Blk d v lost w) (hb : Below w.heap.size w w') : Blk d v lost w' := h.same (hb.block d h.lt)
end
/-- The decoder's row. -/
abbrev Row (d : Nat) (v : Value) (l : List UInt8) (w : World) : Prop := w.ownsRow (d + 1) 5 1 v l.length (Lib.byteCells l)

theorem owns_same {w w' : World} {B n size : Nat} {e : TypeId} {v : Value} {xs : List Value} (h : w.ownsRow B e size v n xs) (hs : ∀ k, v.ownBlock = some k → w'.heap[k]? = w.heap[k]?) : w'.ownsRow B e size v n xs := by
  refine ⟨h.1, ?_⟩
  rcases h.2 with h | ⟨g, cap, cur, rfl, h2, h3, h4⟩
  · exact .inl h
  · exact .inr ⟨g, cap, cur, rfl, h2, (hs g rfl).trans h3, h4⟩
theorem owns_base {w : World} {B B' n size : Nat} {e : TypeId} {v : Value} {xs : List Value} (h : w.ownsRow B e size v n xs) (hB : B' ≤ B) : w.ownsRow B' e size v n xs := by
  refine ⟨h.1, ?_⟩
  rcases h.2 with h | ⟨g, cap, cur, rfl, h2, h3⟩
  · exact .inl h
  · exact .inr ⟨g, cap, cur, rfl, by omega, h3⟩
theorem owns_len {w : World} {B n size : Nat} {e : TypeId} {v : Value} {xs : List Value} (h : w.ownsRow B e size v n xs) : ∃ a cap, v = .slice a n cap := by
  rcases h.2 with ⟨h1, h0⟩ | ⟨g, cap, cur, h1, _⟩
  · subst h0; exact ⟨_, _, h1⟩
  · exact ⟨_, _, h1⟩
theorem byteCells_at (l : List UInt8) (j : Nat) (h : j < l.length) : (Lib.byteCells l)[j]? = some (.int .u8 (l[j].toNat : Int)) := by
  unfold Lib.byteCells
  simp [h]
/-- The bytes of a row lie there. -/
theorem row_lies {w : World} {B : Nat} {g cap : Nat} {l : List UInt8} (h : w.ownsRow B 5 1 (.slice (some ⟨g, 0, none⟩) l.length cap) l.length (Lib.byteCells l)) : CellsAt w g 0 l := fun j hj => by
  have := h.cells (g := g) rfl j _ (byteCells_at l j hj)
  rw [Addr.add_lit] at this
  exact this

set_option maxHeartbeats 400000 in
theorem new_any (w : World) : Calls Tryd.prog 12 #[] w fun e w' => e = .returned (.pointer (some ⟨w.heap.size, 0, none⟩)) ∧ Blk w.heap.size (.slice none 0 0) 0 w' ∧ Below w.heap.size w w' := by
  go_enter Tryd.func12, Tryd.ntmps12
  go_wp2_with fail
  go_ret
  exact ⟨rfl, heap_alloc_new w _, (Below.refl _ _).alloc (Nat.le_refl _) _⟩
theorem lost_any (d : Nat) (v : Value) (lost : Int) (w : World) (h : Blk d v lost w) : Calls Tryd.prog 16 #[.pointer (some ⟨d, 0, none⟩)] w fun e w' => e = .returned (.int .i64 lost) ∧ w' = w := by
  have h1 := h.c1
  clear h
  go_enter Tryd.func16, Tryd.ntmps16
  go_wp2_with fail
  go_ret
  exact ⟨rfl, rfl⟩
theorem left_any (d n : Nat) (a : Option Addr) (c : Nat) (lost : Int) (w : World) (h : Blk d (.slice a n c) lost w) : Calls Tryd.prog 17 #[.pointer (some ⟨d, 0, none⟩)] w fun e w' => e = .returned (.int .i64 n) ∧ w' = w := by
  have h1 := h.c0
  clear h
  go_enter Tryd.func17, Tryd.ntmps17
  go_wp2_with fail
  go_ret
  exact ⟨rfl, rfl⟩
theorem lost_nil (w : World) : Calls Tryd.prog 16 #[.pointer none] w fun e w' => e = .returned (.int .i64 0) ∧ w' = w := by
  go_enter Tryd.func16, Tryd.ntmps16
  go_wp2_with fail
  go_ret
  exact ⟨rfl, rfl⟩
theorem left_nil (w : World) : Calls Tryd.prog 17 #[.pointer none] w fun e w' => e = .returned (.int .i64 0) ∧ w' = w := by
  go_enter Tryd.func17, Tryd.ntmps17
  go_wp2_with fail
  go_ret
  exact ⟨rfl, rfl⟩
theorem feed_nil (s : ByteArray) (w : World) : Calls Tryd.prog 13 #[.pointer none, .string s] w fun e w' => e = .returned (.slice none 0 0) ∧ w' = w := by
  go_enter Tryd.func13, Tryd.ntmps13
  go_wp2_with fail
  go_ret
  exact ⟨rfl, rfl⟩

theorem infoB : (Tryd.prog.info? 5).map (fun i => (i.zero, i.size, i.bytes)) = some (some (.int .u8 0), 1, 1) := by kernel_rfl

/-- keep, where nothing was taken. -/
theorem keep_all (d n : Nat) (a a' : Option Addr) (c c' : Nat) (lost : Int) (w : World) (h : Blk d (.slice a n c) lost w) :
    Calls Tryd.prog 23 #[.pointer (some ⟨d, 0, none⟩), .slice a' n c'] w fun e w' => e = .returned (.tuple #[]) ∧ w' = w := by
  have h1 := h.c0
  clear h
  go_enter Tryd.func23, Tryd.ntmps23
  go_wp2_with fail
  refine bodyPost_end (results_none rfl _ _ _) rfl ?_
  exact ⟨rfl, rfl⟩
/-- keep, where something was taken. -/
theorem keep_some (d n : Nat) (a : Option Addr) (c : Nat) (g o c' : Nat) (l : List UInt8) (lost : Int) (w : World) (h : Blk d (.slice a n c) lost w) (hlt : l.length < n) (hl : l.length ≤ 1099511627776) (hc : CellsAt w g o l) :
    Calls Tryd.prog 23 #[.pointer (some ⟨d, 0, none⟩), .slice (some ⟨g, o, none⟩) l.length c'] w fun e w' => e = .returned (.tuple #[]) ∧ ∃ v, Blk d v lost w' ∧ w'.ownsRow w.heap.size 5 1 v l.length (Lib.byteCells l) ∧ Mut w.heap.size d w w' := by
  have h1 := h.c0
  obtain ⟨i0, hi0, hz0, hz1, hz2⟩ := info_parts infoB
  have H := Lib.hid h
  have hC : ∀ (j : Nat) u, (Lib.byteCells l)[j]? = some u → w.cell? ((⟨g, o, none⟩ : Addr).add j) = some u := by
    intro j u hj
    have hj' : j < l.length := by
      have := (List.getElem?_eq_some_iff.1 hj).1
      simpa [Lib.byteCells] using this
    rw [byteCells_at l j hj'] at hj
    rw [← hj, Addr.add_lit]
    exact hc j hj'
  have hdlt := h.lt
  clear h hc
  go_enter Tryd.func23, Tryd.ntmps23
  go_wp2_with (at_builtin; refine wpList_append_own _ rfl _ _ 29 rfl w.heap.size 5 i0 (.int .u8 0) 1 1 Tryd.underlying29 hi0 hz0 hz1 hz2 rfl (by decide) _ _ _ rfl (World.ownsRow_nil w w.heap.size 5 1) ⟨g, o, none⟩ l.length c' (Lib.byteCells l) rfl ?q1 ?q2 ?q3 ?q4 ?q5 ?q6 ?_)
  case q1 => simp [Lib.byteCells]
  case q2 => exact hC
  case q3 =>
    intro u hu
    simp only [Lib.byteCells, List.mem_map] at hu
    obtain ⟨b, _, rfl⟩ := hu
    rfl
  case q4 => unfold maxLen; omega
  case q5 => omega
  case q6 => exact Nat.le_refl _
  intro v w2 hown hg _
  obtain ⟨va, vc, rfl⟩ := owns_len hown
  have hB : Blk d (.slice a n c) lost w2 := H.out.same (hg.block d hdlt (by simp [Value.ownBlock]))
  have k0 := hB.c0
  have k1 := hB.f0
  have HB := Lib.hid hB
  have HG := Lib.hid hg
  have HO := Lib.hid hown
  clear hB hg hown hC
  go_wp2_with fail
  refine bodyPost_end (results_none rfl _ _ _) rfl ?_
  have hne : (Value.slice va l.length vc).ownBlock ≠ some d := by
    intro e
    have := HO.out.lt d e
    omega
  refine ⟨rfl, .slice va l.length vc, HB.out.set0 _, owns_same HO.out (fun k hk => Below.heap_setCell _ _ _ _ (fun e => hne (by rw [hk]; exact congrArg some e))), ?_⟩
  exact ((Mut.refl w.heap.size d w).grown HG.out (Nat.le_refl _) (by intro k hk; cases hk)).setCell 0 _
end Go.Proofs.YtojdginbaaoidaaDoor.F

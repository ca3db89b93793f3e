/- A text's index in memory, and the contracts of New and Lines. -/
import Derived.Test.YtccmicmlkgkheaaDoorLPlain
import Derived.Test.YtccmicmlkgkheaaDoorWalksA
import Derived.Laws.AppendOwn
import Derived.Maps.AppendAt
import Derived.Laws.Pointers
import Derived.Lib.SmallJoins
import Derived.Deep.DeepCutAuto
import Derived.Deep.QuietTactic
import Derived.BigQuiet
namespace Go.Proofs.YtccmicmlkgkheaaDoor.L
open Go.RowKit
open Go.Lib hiding intOf
open Go.Proofs.YtccmicmlkgkheaaDoor.U

theorem owns_same {w w' : World} {B n size : Nat} {e : TypeId} {v : Value} {xs : List Value} (h : w.ownsRow B e size v n xs) (hs : ∀ k, v.ownBlock = some k → w'.heap[k]? = w.heap[k]?) : w'.ownsRow B e size v n xs := by
  refine ⟨h.1, ?_⟩
  rcases h.2 with h | ⟨g, cap, cur, rfl, h2, h3, h4⟩
  · exact .inl h
  · exact .inr ⟨g, cap, cur, rfl, h2, (hs g rfl).trans h3, h4⟩
theorem owns_base {w : World} {B B' n size : Nat} {e : TypeId} {v : Value} {xs : List Value} (h : w.ownsRow B e size v n xs) (hB : B' ≤ B) : w.ownsRow B' e size v n xs := by
  refine ⟨h.1, ?_⟩
  rcases h.2 with h | ⟨g, cap, cur, rfl, h2, h3⟩
  · exact .inl h
  · exact .inr ⟨g, cap, cur, rfl, by omega, h3⟩
theorem owns_len {w : World} {B n size : Nat} {e : TypeId} {v : Value} {xs : List Value} (h : w.ownsRow B e size v n xs) : ∃ a cap, v = .slice a n cap := by
  rcases h.2 with ⟨h1, h0⟩ | ⟨g, cap, cur, h1, _⟩
  · subst h0; exact ⟨_, _, h1⟩
  · exact ⟨_, _, h1⟩
theorem infoI : (Tryd.prog.info? 3).map (fun i => (i.zero, i.size, i.bytes)) = some (some (.int .i64 0), 1, 8) := by kernel_rfl
def I (n : Nat) : Value := .int .i64 n

/-- The index's block. -/
def Blk (b : Nat) (s : ByteArray) (v : Value) (w : World) : Prop := w.heap[b]? = some (.cells #[.string s, v] 109 (0, 0))
section
variable {b : Nat} {s : ByteArray} {v : Value} {w w' : World}
theorem Blk.c0 (h : Blk b s v w) : w.cell? ⟨b, 0, none⟩ = some (.string s) := by unfold Blk at h; simp [World.cell?, h]
theorem Blk.c1 (h : Blk b s v w) : w.cell? ⟨b, 1, none⟩ = some v := by unfold Blk at h; simp [World.cell?, h]
theorem Blk.f1 (h : Blk b s v w) : w.frozen? ⟨b, 1, none⟩ = false := by unfold Blk at h; simp [World.frozen?, h]
theorem Blk.lt (h : Blk b s v w) : b < w.heap.size := (Array.getElem?_eq_some_iff.1 h).1
theorem Blk.set1 (h : Blk b s v w) (x : Value) : Blk b s x (w.setCell ⟨b, 1, none⟩ x) := Go.Joins.block_setCell h _
theorem Blk.same (h : Blk b s v w) (hs : w'.heap[b]? = w.heap[b]?) : Blk b s v w' := hs.trans h
end
/-- The index's row: where the first bytes 10 stand. -/
abbrev Row' (b : Nat) (v : Value) (l : List Nat) (w : World) : Prop := w.ownsRow (b + 1) 3 1 v l.length (l.map I)
/-- An index of a text in memory. -/
structure Idx (b : Nat) (s : ByteArray) (v : Value) (w : World) : Prop where
  blk : Blk b s v w
  row : Row' b v (ends s) w
theorem Idx.later {b : Nat} {s : ByteArray} {v : Value} {w w' : World} (h : Idx b s v w) (hb : Below w.heap.size w w') : Idx b s v w' :=
  ⟨h.blk.same (hb.block b h.blk.lt), owns_same h.row (fun k hk => hb.block k (h.row.lt k hk).2)⟩
/-- What an index's cells hold. -/
theorem Idx.cells {b : Nat} {s : ByteArray} {v : Value} {w : World} (h : Idx b s v w) : ∃ a cap, v = .slice a (ends s).length cap ∧
    ((ends s).length = 0 ∨ ∃ g, a = some ⟨g, 0, none⟩ ∧ ∀ j, j < (ends s).length → w.cell? ⟨g, j, none⟩ = some (.int .i64 ((ends s).getD j 0 : Nat))) := by
  obtain ⟨a, cap, rfl⟩ := owns_len h.row
  refine ⟨a, cap, rfl, ?_⟩
  rcases h.row.2 with ⟨_, h0⟩ | ⟨g, cap', cur, he, _⟩
  · exact .inl h0
  · cases he
    refine .inr ⟨g, rfl, fun j hj => ?_⟩
    have hx : ((ends s).map I)[j]? = some (.int .i64 ((ends s).getD j 0 : Nat)) := by
      rw [List.getElem?_map, List.getElem?_eq_getElem hj, List.getD_eq_getElem?_getD, List.getElem?_eq_getElem hj]; rfl
    have := h.row.cells (g := g) rfl j _ hx
    rw [Addr.add_lit, Nat.zero_add] at this
    exact this

/-- How New ends. -/
def NewPost (s : ByteArray) (w : World) (e : Ending) (w' : World) : Prop :=
  Below w.heap.size w w' ∧ ((okB s = true ∧ ∃ b v, e = .returned (.tuple #[.pointer (some ⟨b, 0, none⟩), .int .i64 0]) ∧ Idx b s v w' ∧ w.heap.size ≤ b) ∨ (okB s = false ∧ e = .returned (.tuple #[.pointer none, .int .i64 11])))
theorem cell_one (w : World) (v : Value) (t : TypeId) : ∀ (j : Nat) u, [v][j]? = some u → (w.alloc (.cells #[v] t)).cell? ((⟨w.heap.size, 0, none⟩ : Addr).add j) = some u := by
  intro j u hj
  cases j with
  | zero =>
    simp only [List.getElem?_cons_zero, Option.some.injEq] at hj
    subst hj
    rw [Addr.add_lit]
    unfold World.cell?
    simp only [heap_alloc_new]
    rfl
  | succ j => simp at hj

set_option maxHeartbeats 1000000 in
set_option maxRecDepth 100000 in
theorem new_any (s : ByteArray) (w : World) (hs : s.size ≤ 1099511627776) (hT : Tabs w) :
    Calls Tryd.prog 47 #[.string s] w (NewPost s w) := by
  have cR := right_any s w hs hT
  obtain ⟨i0, hi0, hz0, hz1, hz2⟩ := info_parts infoI
  cases hok : okB s
  · rw [hok] at cR
    have HOK := Lib.hid hok
    clear hok hT
    go_enter Tryd.func47, Tryd.ntmps47
    go_wp2_with (go_at_call 39; refine cR.mono ?_; rintro e w1 ⟨rfl, hb⟩)
    go_ret2
    exact ⟨hb, .inr ⟨HOK.out, rfl⟩⟩
  · rw [hok] at cR
    have HOK := Lib.hid hok
    clear hok hT
    go_enter Tryd.func47, Tryd.ntmps47
    go_upto_region 3 with (go_at_call 39; refine cR.mono ?_; rintro e w1 ⟨rfl, hb⟩)
    clear cR
    have HB := Lib.hid hb
    clear hb
    go_wp2_with fail
    obtain ⟨b, hbq⟩ : ∃ b, w1.heap.size = b := ⟨_, rfl⟩
    obtain ⟨W, hW⟩ : ∃ W, w1.alloc (.cells #[.string s, .slice none 0 0] 109) = W := ⟨_, rfl⟩
    have hblk : Blk b s (.slice none 0 0) W := by rw [← hW, ← hbq]; exact heap_alloc_new _ _
    have hbw : Below w1.heap.size w1 W := by rw [← hW]; exact (Below.refl _ _).alloc (Nat.le_refl _) _
    have HW := Lib.hid (HB.out.trans (hbw.mono HB.out.size))
    have HBK := Lib.hid hblk
    have hwb : w.heap.size ≤ b := by have := HB.out.size; omega
    rw [hW, hbq]
    clear hblk hbw hW hbq HB
    go_loopw [14] (fun iv wr => ∃ (i : Nat) (v : Value), iv = .int .i64 i ∧ i ≤ s.size ∧ Hid (Blk b s v wr) ∧ Hid (Row' b v (endsTo s i) wr) ∧ Hid (Below w.heap.size w wr)) (fun iv _ => s.size - (intOf iv).toNat)
    case atStart => exact ⟨0, .slice none 0 0, rfl, Nat.zero_le _, HBK, Lib.hid (World.ownsRow_nil _ _ _ _), HW⟩
    case round =>
      obtain ⟨i, v, rfl, hi, HB, HR, HL⟩ := hrel
      clear HBK HW
      obtain ⟨a, cap, rfl⟩ := owns_len HR.out
      by_cases hlt : i < s.size
      · obtain ⟨x, hx⟩ : ∃ x, s[i] = x := ⟨_, rfl⟩
        have hnl : nlAt s i = (x.toNat == 10) := by unfold nlAt; rw [← hx, Utf8W.get!_of_lt s i hlt]
        have HX := Lib.hid hx
        by_cases h10 : x.toNat = 10
        · have HE : Hid (endsTo s (i + 1) = endsTo s i ++ [i]) := Lib.hid (endsTo_hit s i (by rw [hnl, h10]; rfl))
          have hle := endsTo_len s i
          have hr : wr.ownsRow (b + 1) 3 1 (.slice a (endsTo s i).length cap) (endsTo s i).length ((endsTo s i).map I) := HR.out
          have hb := HB.out
          clear HR HB
          generalize (endsTo s i) = E at hr HE hb hle ⊢
          obtain ⟨m, hm⟩ : ∃ m, E.length = m := ⟨_, rfl⟩
          have hzx : ((x.toNat : Int) == 10) = true := by simp; omega
          have hb1 := hb.c1
          rw [hm] at hr hle hb hb1
          have HM := Lib.hid hm
          have HB := Lib.hid hb
          clear hnl hm h10 hb
          go_wp2_with (at_builtin; refine wpList_append_own _ rfl _ _ 76 rfl (b + 1) 3 i0 (.int .i64 0) 1 8 Tryd.underlying76 hi0 hz0 hz1 hz2 rfl (by decide) _ _ _ rfl (hr.alloc _) ⟨wr.heap.size, 0, none⟩ 1 1 [.int .i64 i] rfl rfl ?c1 ?c2 ?c3 ?c4 ?c5 ?_)
          case c1 => exact cell_one _ _ _
          case c2 => intro u hu; simp only [List.mem_singleton] at hu; subst hu; rfl
          case c3 => unfold maxLen; omega
          case c4 => omega
          case c5 => have := HB.out.lt; rw [World.size_alloc]; omega
          intro v1 w2 hv1 hg1 _
          obtain ⟨a1, cap1, rfl⟩ := owns_len hv1
          have hne : (Value.slice a m cap).ownBlock ≠ some b := fun e => by have := hr.lt b e; omega
          have hne1 : (Value.slice a1 (m + 1) cap1).ownBlock ≠ some b := fun e => by have := hv1.lt b e; omega
          have hB2 : Blk b s (.slice a m cap) w2 := HB.out.same ((hg1.block b (by have := HB.out.lt; rw [World.size_alloc]; omega) (fun e => hne e.symm)).trans (Below.heap_alloc _ _ _ HB.out.lt))
          have q0 := hB2.f1
          have q1 := hB2.c1
          have HB2 := Lib.hid hB2
          have HV1 := Lib.hid hv1
          have HG1 := Lib.hid hg1
          have HRR := Lib.hid hr
          clear hB2 hv1 hg1 hr hb1
          go_wp2_with fail
          go_roundw
          case rel =>
            refine ⟨i + 1, .slice a1 (m + 1) cap1, by go_num, by omega, Lib.hid (HB2.out.set1 _), Lib.hid ?_, Lib.hid ?_⟩
            · unfold Row'
              rw [HE.out]
              simp only [List.length_append, List.length_singleton, List.map_append, List.map_cons, List.map_nil, HM.out]
              exact owns_same HV1.out (fun k hk => Below.heap_setCell _ _ _ _ (fun e => hne1 (by rw [hk, e])))
            · refine Below.setCell (HL.out.trans ⟨?_, ?_, ?_, ?_, fun k hk => ?_⟩) (by simp only; omega) _
              · exact HG1.out.os
              · exact HG1.out.tape
              · exact HG1.out.output
              · have := HG1.out.size; rw [World.size_alloc] at this; omega
              · have hsz := HL.out.size
                exact (HG1.out.block k (by rw [World.size_alloc]; omega) (fun e => by have := HRR.out.lt k e.symm; omega)).trans (Below.heap_alloc _ _ _ (by omega))
          case measure => simp [intOf]; omega
        · have HE : Hid (endsTo s (i + 1) = endsTo s i) := Lib.hid (endsTo_miss s i (by rw [hnl]; simpa using h10))
          have hzx : ((x.toNat : Int) == 10) = false := by simp; omega
          clear hnl h10
          go_wp2_with fail
          go_roundw
          case rel => exact ⟨i + 1, _, by go_num, by omega, HB, by rw [HE.out]; exact HR, HL⟩
          case measure => simp [intOf]; omega
      · obtain rfl : i = s.size := by omega
        go_wp2_with fail
        go_ret2
        exact ⟨HL.out, .inl ⟨HOK.out, b, _, rfl, ⟨HB.out, HR.out⟩, hwb⟩⟩
end Go.Proofs.YtccmicmlkgkheaaDoor.L

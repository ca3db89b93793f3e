/- The scanner in memory, and the contracts of its mayEnd, take, markLength. -/
import Derived.Test.YtapjomdplibanaaDoorPSpan
import Derived.Laws.AppendOwn
import Derived.Maps.AppendAt
import Derived.Deep.DeepMust
import Derived.Laws.Pointers
import Derived.Deep.RegionHeld3
import Derived.Deep.RegionWith
import Derived.Lib.SmallJoins
import Derived.BigRegion
import Derived.Deep.DeepCutAuto
import Derived.Test.YtapjomdplibanaaDoorSPart
namespace Go.Proofs.YtapjomdplibanaaDoor.S
open Go.RowKit
open Go.Lib hiding intOf
open Go.Proofs.YtapjomdplibanaaDoor.U Go.Proofs.YtapjomdplibanaaDoor.L

/-- Below B all is as it was, but for block d. -/
structure Mut (B d : Nat) (w w' : World) : Prop where
  os : w'.os = w.os
  tape : w'.tape = w.tape
  output : w'.output = w.output
  size : w.heap.size ≤ w'.heap.size
  block : ∀ k, k < B → k ≠ d → w'.heap[k]? = w.heap[k]?
theorem Mut.refl (B d : Nat) (w : World) : Mut B d w w := ⟨rfl, rfl, rfl, Nat.le_refl _, fun _ _ _ => rfl⟩
theorem Mut.trans {B d : Nat} {a b c : World} (h : Mut B d a b) (k : Mut B d b c) : Mut B d a c :=
  ⟨k.os.trans h.os, k.tape.trans h.tape, k.output.trans h.output, Nat.le_trans h.size k.size, fun i hi hd => (k.block i hi hd).trans (h.block i hi hd)⟩
theorem Mut.mono {B B' d : Nat} {w w' : World} (h : Mut B d w w') (hB : B' ≤ B) : Mut B' d w w' := ⟨h.os, h.tape, h.output, h.size, fun k hk => h.block k (Nat.lt_of_lt_of_le hk hB)⟩
theorem Mut.of_below {B d : Nat} {w w' : World} (h : Below B w w') : Mut B d w w' := ⟨h.os, h.tape, h.output, h.size, fun k hk _ => h.block k hk⟩
theorem Mut.setCell {B d : Nat} {a w : World} (h : Mut B d a w) (i : Nat) (v : Value) : Mut B d a (w.setCell ⟨d, i, none⟩ v) := by
  refine ⟨h.os, h.tape, h.output, by simpa using h.size, fun k hk hd => ?_⟩
  rw [Below.heap_setCell _ _ _ _ hd]
  exact h.block k hk hd
theorem Mut.alloc {B d : Nat} {a w : World} (h : Mut B d a w) (hB : B ≤ w.heap.size) (o : Obj) : Mut B d a (w.alloc o) :=
  h.trans (Mut.of_below ((Below.refl B w).alloc hB o))
theorem Mut.grown {B d : Nat} {a w w' : World} {row : Option Nat} (h : Mut B d a w) (hg : w.grownBy w' row) (hB : B ≤ w.heap.size) (hr : ∀ k, row = some k → B ≤ k ∨ k = d) : Mut B d a w' :=
  h.trans ⟨hg.os, hg.tape, hg.output, hg.size, fun k hk hd => hg.block k (Nat.lt_of_lt_of_le hk hB) (fun e => (hr k e.symm).elim (fun h1 => absurd h1 (by omega)) hd)⟩
theorem Mut.below {B d : Nat} {w w' : World} (h : Mut B d w w') (hd : B ≤ d) : Below B w w' := ⟨h.os, h.tape, h.output, h.size, fun k hk => h.block k hk (by omega)⟩

/-- The scanner's block. -/
def ScB (d : Nat) (s : ByteArray) (r : Bool) (i : Int) (v : Value) (w : World) : Prop := w.heap[d]? = some (.cells #[.string s, .bool r, .int .i64 i, v] 60 (0, 0))
section
variable {d : Nat} {s : ByteArray} {r : Bool} {i : Int} {v : Value} {w w' : World}
theorem ScB.c0 (h : ScB d s r i v w) : w.cell? ⟨d, 0, none⟩ = some (.string s) := by unfold ScB at h; simp [World.cell?, h]
theorem ScB.c1 (h : ScB d s r i v w) : w.cell? ⟨d, 1, none⟩ = some (.bool r) := by unfold ScB at h; simp [World.cell?, h]
theorem ScB.c2 (h : ScB d s r i v w) : w.cell? ⟨d, 2, none⟩ = some (.int .i64 i) := by unfold ScB at h; simp [World.cell?, h]
theorem ScB.c3 (h : ScB d s r i v w) : w.cell? ⟨d, 3, none⟩ = some v := by unfold ScB at h; simp [World.cell?, h]
theorem ScB.f2 (h : ScB d s r i v w) : w.frozen? ⟨d, 2, none⟩ = false := by unfold ScB at h; simp [World.frozen?, h]
theorem ScB.f3 (h : ScB d s r i v w) : w.frozen? ⟨d, 3, none⟩ = false := by unfold ScB at h; simp [World.frozen?, h]
theorem ScB.lt (h : ScB d s r i v w) : d < w.heap.size := (Array.getElem?_eq_some_iff.1 h).1
theorem ScB.set2 (h : ScB d s r i v w) (x : Int) : ScB d s r x v (w.setCell ⟨d, 2, none⟩ (.int .i64 x)) := Go.Joins.block_setCell h _
theorem ScB.set3 (h : ScB d s r i v w) (x : Value) : ScB d s r i x (w.setCell ⟨d, 3, none⟩ x) := Go.Joins.block_setCell h _
theorem ScB.same (h : ScB d s r i v w) (hs : w'.heap[d]? = w.heap[d]?) : ScB d s r i v w' := hs.trans h
theorem ScB.below (h : ScB d s r i v w) (hb : Below w.heap.size w w') : ScB d s r i v w' := h.same (hb.block d h.lt)
end
/-- The scanner's words. -/
abbrev Row (d : Nat) (v : Value) (O : List TokP) (w : World) : Prop := w.ownsRow (d + 1) 55 4 v O.length (tokCs O)
theorem owns_same {w w' : World} {B n size : Nat} {e : TypeId} {v : Value} {xs : List Value} (h : w.ownsRow B e size v n xs) (hs : ∀ k, v.ownBlock = some k → w'.heap[k]? = w.heap[k]?) : w'.ownsRow B e size v n xs := by
  refine ⟨h.1, ?_⟩
  rcases h.2 with h | ⟨g, cap, cur, rfl, h2, h3, h4⟩
  · exact .inl h
  · exact .inr ⟨g, cap, cur, rfl, h2, (hs g rfl).trans h3, h4⟩
/-- The last word's cells. -/
theorem last_cells {d k : Nat} {v : Value} {O : List TokP} {w : World} (h : Row d v O w) (hk : O.length = k + 1) : ∃ (g c : Nat) (t : TokP), v = .slice (some ⟨g, 0, none⟩) (k + 1) c ∧ endL O = endsP t.w t.t ∧ w.cell? ⟨g, k * 4, none⟩ = some (.int .i64 t.w) ∧ w.cell? ⟨g, k * 4 + 1, none⟩ = some (.string ⟨t.t.toArray⟩) ∧ w.cell? ⟨g, k * 4 + 2, none⟩ = some (.int .i64 t.f) ∧ w.cell? ⟨g, k * 4 + 3, none⟩ = some (.int .i64 t.e) := by
  obtain ⟨g, c, hv, hkc, hgZ, hgw⟩ := row_some h (by omega)
  subst hv
  have hta := toks_at h rfl
  have hkO : k < O.length := by omega
  have hcl := tok_at k hta hkO
  simp only [Nat.zero_add] at hcl
  refine ⟨g, c, O[k], by rw [hk], ?_, hcl⟩
  unfold endL
  rw [List.getLast?_eq_getElem?, hk, Nat.add_sub_cancel, List.getElem?_eq_getElem hkO]

set_option maxHeartbeats 4000000 in
set_option maxRecDepth 20000 in
theorem mayEnd_any (d : Nat) (s : ByteArray) (r : Bool) (i : Int) (v : Value) (O : List TokP) (w : World) (hB : ScB d s r i v w) (hR : Row d v O w) (hf : O.length ≤ 1099511627776) :
    Calls Tryd.prog 29 #[.pointer (some ⟨d, 0, none⟩)] w fun e w' => e = .returned (.bool (endL O)) ∧ Below w.heap.size w w' := by
  have h3 := hB.c3
  by_cases h0 : O.length = 0
  · obtain ⟨a, c, rfl⟩ := owns_len hR
    have hO0 : O = [] := List.length_eq_zero_iff.1 h0
    have he : endL O = false := by rw [hO0]; rfl
    rw [he]
    rw [h0] at h3
    clear hB hR
    go_enter Tryd.func29, Tryd.ntmps29
    go_upto_region 1 with fail
    go_quiet (fail)
    go_wp2_with fail
    go_ret
    exact ⟨rfl, drewB (Below.refl _ _) _⟩
  · obtain ⟨k, hk⟩ : ∃ k, O.length = k + 1 := ⟨O.length - 1, by omega⟩
    obtain ⟨g, c, t, rfl, he, c0, c1, c2, c3⟩ := last_cells hR hk
    obtain ⟨x, hx⟩ : ∃ x : ByteArray, (⟨t.t.toArray⟩ : ByteArray) = x := ⟨_, rfl⟩
    have hxl : x.toList = t.t := by rw [← hx, ByteArray.toList_eq]
    rw [hx] at c1
    have cE := fun X => pends_any t.w t.f t.e x X
    rw [hxl, ← he] at cE
    obtain ⟨_, hlt⟩ := hR.lt g rfl
    have hd := hB.lt
    obtain ⟨n, hn⟩ : ∃ n, n = k + 1 := ⟨_, rfl⟩
    rw [← hn] at h3
    have hcells : ∀ X, Below w.heap.size w X → (X.cell? ⟨d, 3, none⟩ = some (.slice (some ⟨g, 0, none⟩) n c) ∧ X.cell? ⟨g, k * 4, none⟩ = some (.int .i64 t.w) ∧ X.cell? ⟨g, k * 4 + 1, none⟩ = some (.string x) ∧ X.cell? ⟨g, k * 4 + 2, none⟩ = some (.int .i64 t.f) ∧ X.cell? ⟨g, k * 4 + 3, none⟩ = some (.int .i64 t.e) ∧ Below w.heap.size w X) := fun X hX =>
      ⟨(hX.cell (p := ⟨d, 3, none⟩) hd).trans h3, (hX.cell (p := ⟨g, k * 4, none⟩) hlt).trans c0, (hX.cell (p := ⟨g, k * 4 + 1, none⟩) hlt).trans c1, (hX.cell (p := ⟨g, k * 4 + 2, none⟩) hlt).trans c2, (hX.cell (p := ⟨g, k * 4 + 3, none⟩) hlt).trans c3, hX⟩
    obtain ⟨b, hb⟩ : ∃ b, endL O = b := ⟨_, rfl⟩
    rw [hb] at cE ⊢
    have CE2 : ∀ X, (X.cell? ⟨d, 3, none⟩ = some (.slice (some ⟨g, 0, none⟩) n c) ∧ X.cell? ⟨g, k * 4, none⟩ = some (.int .i64 t.w) ∧ X.cell? ⟨g, k * 4 + 1, none⟩ = some (.string x) ∧ X.cell? ⟨g, k * 4 + 2, none⟩ = some (.int .i64 t.f) ∧ X.cell? ⟨g, k * 4 + 3, none⟩ = some (.int .i64 t.e) ∧ Below w.heap.size w X) → Calls Tryd.prog 49 #[.agg #[.int .i64 t.w, .string x, .int .i64 t.f, .int .i64 t.e]] X fun e w' => e = .returned (.bool b) ∧ (w'.cell? ⟨d, 3, none⟩ = some (.slice (some ⟨g, 0, none⟩) n c) ∧ w'.cell? ⟨g, k * 4, none⟩ = some (.int .i64 t.w) ∧ w'.cell? ⟨g, k * 4 + 1, none⟩ = some (.string x) ∧ w'.cell? ⟨g, k * 4 + 2, none⟩ = some (.int .i64 t.f) ∧ w'.cell? ⟨g, k * 4 + 3, none⟩ = some (.int .i64 t.e) ∧ Below w.heap.size w w') := fun X hX =>
      (cE X).mono fun e w' ⟨h1, h2⟩ => ⟨h1, hcells _ (hX.2.2.2.2.2.trans (h2.mono hX.2.2.2.2.2.size))⟩
    have hS0 := hcells w.drew (Below.refl _ _).drew
    have hk6 : k ≤ 1099511627776 := by omega
    have hkO : (k : Int) < (n : Int) := by omega
    have hk0 : (0 : Int) ≤ (k : Int) := by omega
    have hpos : 0 < n := by omega
    have hi1 : IntKind.i64.wrap ((n : Int) - 1) = (k : Int) := (IntWalk.i64_in _ (by omega)).trans (by omega)
    clear hcells cE hb hB hR hx hxl he hlt hd hk hf h0 h3 c0 c1 c2 c3 hn
    go_enter Tryd.func29, Tryd.ntmps29
    go_upto_region 1 with fail
    go_region_held3 (fun X => X.cell? ⟨d, 3, none⟩ = some (.slice (some ⟨g, 0, none⟩) n c) ∧ X.cell? ⟨g, k * 4, none⟩ = some (.int .i64 t.w) ∧ X.cell? ⟨g, k * 4 + 1, none⟩ = some (.string x) ∧ X.cell? ⟨g, k * 4 + 2, none⟩ = some (.int .i64 t.f) ∧ X.cell? ⟨g, k * 4 + 3, none⟩ = some (.int .i64 t.e) ∧ Below w.heap.size w X) (with_reducible (repeat (first | assumption))) (first
      | (go_at_call 49; (with_reducible refine (CE2 _ ?_).mono ?_); assumption; rintro e w3 ⟨rfl, hS3⟩))
    go_wp2_with fail
    go_ret
    exact ⟨rfl, hS3.2.2.2.2.2⟩
/-- The token that take makes of a part. -/
def tkOf (x : Int) (y : ByteArray) (f e : Nat) : TokP := ⟨x, if y.toList = [10] then [] else y.toList, f, e⟩
def Taken (d : Nat) (s : ByteArray) (r : Bool) (i : Int) (O : List TokP) (w : World) (e : Ending) (w' : World) : Prop := e = .returned (.tuple #[]) ∧ ∃ v, ScB d s r i v w' ∧ Row d v O w' ∧ Mut (d + 1) d w w'
theorem row_set {d k : Nat} {v u : Value} {O : List TokP} {w : World} (h : Row d v O w) : Row d v O (w.setCell ⟨d, k, none⟩ u) :=
  owns_same h (fun j hj => Below.heap_setCell _ _ _ _ (by have := (h.lt j hj).1; show j ≠ d; omega))
/-- What take leaves behind its append. -/
theorem take_end {d : Nat} {s : ByteArray} {r : Bool} {i j : Int} {v v5 : Value} {O : List TokP} {t : TokP} {w W w5 : World} {o : Obj} (hB : ScB d s r i v W) (hR : Row d v O W) (hl : Below w.heap.size w W) (hd : d < w.heap.size)
    (hv5 : w5.ownsRow (d + 1) 55 4 v5 (O.length + 1) (tokCs O ++ tokCs [t])) (hg : (W.alloc o).grownBy w5 v.ownBlock) :
    ScB d s r i v w5 ∧ Taken d s r j (O ++ [t]) w (.returned (.tuple #[])) ((w5.setCell ⟨d, 3, none⟩ v5).setCell ⟨d, 2, none⟩ (.int .i64 j)) := by
  have hdW := hB.lt
  have hne : v.ownBlock ≠ some d := fun e => by have := (hR.lt d e).1; omega
  have h5 : ScB d s r i v w5 := (hB.same (Below.heap_alloc W o d (by omega))).same (hg.block d (by rw [World.size_alloc]; omega) (fun e => hne e.symm))
  have hr : Row d v5 (O ++ [t]) w5 := by
    unfold Row
    rw [tokCs_app, List.length_append]
    exact hv5
  have hm : Mut (d + 1) d w w5 := by
    refine ⟨?_, ?_, ?_, ?_, fun k hk hkd => ?_⟩
    · exact hg.os.trans hl.os
    · exact hg.tape.trans hl.tape
    · exact hg.output.trans hl.output
    · have h1 := hg.size; have h2 := hl.size; rw [World.size_alloc] at h1; omega
    · rw [hg.block k (by rw [World.size_alloc]; omega) (fun e => by have := (hR.lt k e.symm).1; omega), Below.heap_alloc W o k (by omega)]
      exact hl.block k (by omega)
  exact ⟨h5, rfl, v5, (h5.set3 v5).set2 j, row_set (row_set hr), (hm.setCell 3 v5).setCell 2 _⟩
set_option maxHeartbeats 4000000 in
set_option maxRecDepth 20000 in
theorem take_any (d : Nat) (s : ByteArray) (r : Bool) (i n : Nat) (x : Int) (v : Value) (O : List TokP) (w : World) (hB : ScB d s r i v w) (hR : Row d v O w) (hf : O.length ≤ 1099511627776) (hs : s.size ≤ 1099511627776) (hin : i + n ≤ s.size) :
    Calls Tryd.prog 30 #[.pointer (some ⟨d, 0, none⟩), .int .i64 x, .int .i64 n] w (Taken d s r ((i + n : Nat) : Int) (O ++ [tkOf x (s.extract i (i + n)) i (i + n)]) w) := by
  obtain ⟨i0, hi0, hz0, hz1, hz2⟩ := info_parts infoTok
  obtain ⟨va, vc, rfl⟩ := owns_len hR
  have h0 := hB.c0
  have h2 := hB.c2
  have hd := hB.lt
  obtain ⟨y, hy⟩ : ∃ y, s.extract i (i + n) = y := ⟨_, rfl⟩
  rw [hy]
  have HB := Lib.hid hB
  have HR := Lib.hid hR
  clear hB hR
  have hin0 : (0 : Int) ≤ (i : Int) := by omega
  have hin1 : (i : Int) ≤ (i : Int) + (n : Int) := by omega
  have hin2 : (i : Int) + (n : Int) ≤ (s.size : Int) := by omega
  have hin3 : IntKind.i64.wrap ((i : Int) + (n : Int)) = (i : Int) + (n : Int) := IntWalk.i64_in _ (by omega)
  obtain ⟨Q, hQ⟩ : ∃ Q, Taken d s r ((i + n : Nat) : Int) (O ++ [tkOf x y i (i + n)]) w = Q := ⟨_, rfl⟩
  rw [hQ]
  have HQ := Lib.hid hQ
  clear hQ
  by_cases h10 : y.toList = [10]
  · have HT : Hid (tkOf x y i (i + n) = ⟨x, [], i, (i : Int) + (n : Int)⟩) := Lib.hid (by unfold tkOf; rw [if_pos h10]; congr 1)
    have hyb : (y.toList == [10]) = true := by rw [h10]; rfl
    clear h10
    go_enter Tryd.func30, Tryd.ntmps30
    go_upto_region 0 with fail
    go_quiet (fail)
    obtain ⟨W, hW⟩ : ∃ V, w.drewN nq = V := ⟨_, rfl⟩
    have HBl : Hid (Below w.heap.size w W) := Lib.hid (by rw [← hW]; exact drewB (Below.refl _ _) _)
    have HB1 := Lib.hid (HB.out.below HBl.out)
    have HR1 : Hid (Row d (.slice va O.length vc) O W) := Lib.hid (owns_later HR.out HBl.out)
    rw [hW]
    clear h0 h2 hW HB HR
    have h0 := HB1.out.c0
    have h3 := HB1.out.c3
    go_wp2_with (at_builtin; refine wpList_append_own _ rfl _ _ 37 rfl (d + 1) 55 i0 (.agg #[.int .i64 0, .string ⟨#[]⟩, .int .i64 0, .int .i64 0]) 4 40 Tryd.underlying37 hi0 hz0 hz1 hz2 rfl (by decide) _ _ _ rfl (HR1.out.alloc _) ⟨W.heap.size, 0, none⟩ 1 1 (tokCs [⟨x, [], i, (i : Int) + (n : Int)⟩]) rfl rfl ?c1 (plain_toks _) ?c3 ?c4 ?c5 ?_)
    case c1 => exact new_tok _ _
    case c3 => unfold maxLen; omega
    case c4 => omega
    case c5 => rw [World.size_alloc]; have := HB1.out.lt; omega
    intro v5 w5 hv5 hg5 _
    obtain ⟨v5a, v5c, rfl⟩ := owns_len hv5
    have hte := take_end (j := (i : Int) + (n : Int)) HB1.out HR1.out HBl.out hd hv5 hg5
    have f3 := hte.1.f3
    have f2 := (hte.1.set3 (.slice v5a (O.length + 1) v5c)).f2
    have HTE := Lib.hid hte.2
    have q3 := hte.1.c3
    have q2 := (hte.1.set3 (.slice v5a (O.length + 1) v5c)).c2
    clear hv5 hg5 hte h0 h3
    go_wp2_with fail
    refine bodyPost_end (results_none rfl _ _ _) rfl ?_
    rw [← HQ.out, HT.out]
    exact HTE.out
  · have HT : Hid (tkOf x y i (i + n) = ⟨x, y.toList, i, (i : Int) + (n : Int)⟩) := Lib.hid (by unfold tkOf; rw [if_neg h10]; congr 1)
    have hyb : (y.toList == [10]) = false := by simpa using h10
    clear h10
    go_enter Tryd.func30, Tryd.ntmps30
    go_upto_region 0 with fail
    go_quiet (fail)
    obtain ⟨W, hW⟩ : ∃ V, w.drewN nq = V := ⟨_, rfl⟩
    have HBl : Hid (Below w.heap.size w W) := Lib.hid (by rw [← hW]; exact drewB (Below.refl _ _) _)
    have HB1 := Lib.hid (HB.out.below HBl.out)
    have HR1 : Hid (Row d (.slice va O.length vc) O W) := Lib.hid (owns_later HR.out HBl.out)
    rw [hW]
    clear h0 h2 hW HB HR
    have h0 := HB1.out.c0
    have h3 := HB1.out.c3
    go_wp2_with (at_builtin; refine wpList_append_own _ rfl _ _ 37 rfl (d + 1) 55 i0 (.agg #[.int .i64 0, .string ⟨#[]⟩, .int .i64 0, .int .i64 0]) 4 40 Tryd.underlying37 hi0 hz0 hz1 hz2 rfl (by decide) _ _ _ rfl (HR1.out.alloc _) ⟨W.heap.size, 0, none⟩ 1 1 (tokCs [⟨x, y.toList, i, (i : Int) + (n : Int)⟩]) rfl rfl ?c1 (plain_toks _) ?c3 ?c4 ?c5 ?_)
    case c1 => exact new_tokS _ _ _ _ _
    case c3 => unfold maxLen; omega
    case c4 => omega
    case c5 => rw [World.size_alloc]; have := HB1.out.lt; omega
    intro v5 w5 hv5 hg5 _
    obtain ⟨v5a, v5c, rfl⟩ := owns_len hv5
    have hte := take_end (j := (i : Int) + (n : Int)) HB1.out HR1.out HBl.out hd hv5 hg5
    have f3 := hte.1.f3
    have f2 := (hte.1.set3 (.slice v5a (O.length + 1) v5c)).f2
    have HTE := Lib.hid hte.2
    have q3 := hte.1.c3
    have q2 := (hte.1.set3 (.slice v5a (O.length + 1) v5c)).c2
    clear hv5 hg5 hte h0 h3
    go_wp2_with fail
    refine bodyPost_end (results_none rfl _ _ _) rfl ?_
    rw [← HQ.out, HT.out]
    exact HTE.out
end Go.Proofs.YtapjomdplibanaaDoor.S

/- The texts PBlk, PMark, Shelf, PStep, Lays, WalksR, PScan, KScan, joined. -/
import Derived.Test.YtnjhmjkonmmomaaDoorG11
import Derived.Laws.AppendOwn
import Derived.Maps.AppendAt
import Derived.Deep.DeepMust
import Derived.Laws.Pointers
import Derived.Deep.RegionHeld3
import Derived.Deep.RegionWith
import Derived.Lib.SmallJoins
import Derived.BigRegion
import Derived.Deep.DeepCutAuto
import Derived.Test.YtnjhmjkonmmomaaDoorG3
import Derived.Shelf.Strings.Prefix
import Derived.Test.YtnjhmjkonmmomaaDoorProg
import Derived.Shelf.Unicode.ValidAny
import Derived.Test.YtnjhmjkonmmomaaDoorG1
import Derived.WalkKit
import Derived.WalkMore
import Derived.WalkSmall
import Derived.Below
import Derived.Lib.Hide
/- PBlk: The scanner in memory, and the contracts of its mayEnd, take, markLength. -/
section
namespace Go.Proofs.YtnjhmjkonmmomaaDoor.S
open Go.RowKit
open Go.Lib hiding intOf
open Go.Proofs.YtnjhmjkonmmomaaDoor.U Go.Proofs.YtnjhmjkonmmomaaDoor.L

/-- Below B all is as it was, but for block d. -/
structure Mut (B d : Nat) (w w' : World) : Prop where
  os : w'.os = w.os
  tape : w'.tape = w.tape
  output : w'.output = w.output
  size : w.heap.size ≤ w'.heap.size
  block : ∀ k, k < B → k ≠ d → w'.heap[k]? = w.heap[k]?
theorem Mut.refl (B d : Nat) (w : World) : Mut B d w w := ⟨rfl, rfl, rfl, Nat.le_refl _, fun _ _ _ => rfl⟩
theorem Mut.trans {B d : Nat} {a b c : World} (h : Mut B d a b) (k : Mut B d b c) : Mut B d a c :=
  ⟨k.os.trans h.os, k.tape.trans h.tape, k.output.trans h.output, Nat.le_trans h.size k.size, fun i hi hd => (k.block i hi hd).trans (h.block i hi hd)⟩
theorem Mut.mono {B B' d : Nat} {w w' : World} (h : Mut B d w w') (hB : B' ≤ B) : Mut B' d w w' := ⟨h.os, h.tape, h.output, h.size, fun k hk => h.block k (Nat.lt_of_lt_of_le hk hB)⟩
theorem Mut.of_below {B d : Nat} {w w' : World} (h : Below B w w') : Mut B d w w' := ⟨h.os, h.tape, h.output, h.size, fun k hk _ => h.block k hk⟩
theorem Mut.setCell {B d : Nat} {a w : World} (h : Mut B d a w) (i : Nat) (v : Value) : Mut B d a (w.setCell ⟨d, i, none⟩ v) := by
  refine ⟨h.os, h.tape, h.output, by simpa using h.size, fun k hk hd => ?_⟩
  rw [Below.heap_setCell _ _ _ _ hd]
  exact h.block k hk hd
theorem Mut.alloc {B d : Nat} {a w : World} (h : Mut B d a w) (hB : B ≤ w.heap.size) (o : Obj) : Mut B d a (w.alloc o) :=
  h.trans (Mut.of_below ((Below.refl B w).alloc hB o))
theorem Mut.grown {B d : Nat} {a w w' : World} {row : Option Nat} (h : Mut B d a w) (hg : w.grownBy w' row) (hB : B ≤ w.heap.size) (hr : ∀ k, row = some k → B ≤ k ∨ k = d) : Mut B d a w' :=
  h.trans ⟨hg.os, hg.tape, hg.output, hg.size, fun k hk hd => hg.block k (Nat.lt_of_lt_of_le hk hB) (fun e => (hr k e.symm).elim (fun h1 => absurd h1 (by omega)) hd)⟩
theorem Mut.below {B d : Nat} {w w' : World} (h : Mut B d w w') (hd : B ≤ d) : Below B w w' := ⟨h.os, h.tape, h.output, h.size, fun k hk => h.block k hk (by omega)⟩

/-- The scanner's block. -/
def ScB (d : Nat) (s : ByteArray) (r : Bool) (i : Int) (v : Value) (w : World) : Prop := w.heap[d]? = some (.cells #[.string s, .bool r, .int .i64 i, v] 59 (0, 0))
section
variable {d : Nat} {s : ByteArray} {r : Bool} {i : Int} {v : Value} {w w' : World}
theorem ScB.c0 (h : ScB d s r i v w) : w.cell? ⟨d, 0, none⟩ = some (.string s) := by unfold ScB at h; simp [World.cell?, h]
theorem ScB.c1 (h : ScB d s r i v w) : w.cell? ⟨d, 1, none⟩ = some (.bool r) := by unfold ScB at h; simp [World.cell?, h]
theorem ScB.c2 (h : ScB d s r i v w) : w.cell? ⟨d, 2, none⟩ = some (.int .i64 i) := by unfold ScB at h; simp [World.cell?, h]
theorem ScB.c3 (h : ScB d s r i v w) : w.cell? ⟨d, 3, none⟩ = some v := by unfold ScB at h; simp [World.cell?, h]
theorem ScB.f2 (h : ScB d s r i v w) : w.frozen? ⟨d, 2, none⟩ = false := by unfold ScB at h; simp [World.frozen?, h]
theorem ScB.f3 (h : ScB d s r i v w) : w.frozen? ⟨d, 3, none⟩ = false := by unfold ScB at h; simp [World.frozen?, h]
theorem ScB.lt (h : ScB d s r i v w) : d < w.heap.size := (Array.getElem?_eq_some_iff.1 h).1
theorem ScB.set2 (h : ScB d s r i v w) (x : Int) : ScB d s r x v (w.setCell ⟨d, 2, none⟩ (.int .i64 x)) := Go.Joins.block_setCell h _
theorem ScB.set3 (h : ScB d s r i v w) (x : Value) : ScB d s r i x (w.setCell ⟨d, 3, none⟩ x) := Go.Joins.block_setCell h _
theorem ScB.same (h : ScB d s r i v w) (hs : w'.heap[d]? = w.heap[d]?) : ScB d s r i v w' := hs.trans h
theorem ScB.below (h : ScB d s r i v w) (hb : Below w.heap.size w w') : ScB d s r i v w' := h.same (hb.block d h.lt)
end
/-- The scanner's words. -/
abbrev Row (d : Nat) (v : Value) (O : List TokP) (w : World) : Prop := w.ownsRow (d + 1) 44 4 v O.length (tokCs O)
theorem owns_same {w w' : World} {B n size : Nat} {e : TypeId} {v : Value} {xs : List Value} (h : w.ownsRow B e size v n xs) (hs : ∀ k, v.ownBlock = some k → w'.heap[k]? = w.heap[k]?) : w'.ownsRow B e size v n xs := by
  refine ⟨h.1, ?_⟩
  rcases h.2 with h | ⟨g, cap, cur, rfl, h2, h3, h4⟩
  · exact .inl h
  · exact .inr ⟨g, cap, cur, rfl, h2, (hs g rfl).trans h3, h4⟩
/-- The last word's cells. -/
theorem last_cells {d k : Nat} {v : Value} {O : List TokP} {w : World} (h : Row d v O w) (hk : O.length = k + 1) : ∃ (g c : Nat) (t : TokP), v = .slice (some ⟨g, 0, none⟩) (k + 1) c ∧ endL O = endsP t.w t.t ∧ w.cell? ⟨g, k * 4, none⟩ = some (.int .i64 t.w) ∧ w.cell? ⟨g, k * 4 + 1, none⟩ = some (.string ⟨t.t.toArray⟩) ∧ w.cell? ⟨g, k * 4 + 2, none⟩ = some (.int .i64 t.f) ∧ w.cell? ⟨g, k * 4 + 3, none⟩ = some (.int .i64 t.e) := by
  obtain ⟨g, c, hv, hkc, hgZ, hgw⟩ := row_some h (by omega)
  subst hv
  have hta := toks_at h rfl
  have hkO : k < O.length := by omega
  have hcl := tok_at k hta hkO
  simp only [Nat.zero_add] at hcl
  refine ⟨g, c, O[k], by rw [hk], ?_, hcl⟩
  unfold endL
  rw [List.getLast?_eq_getElem?, hk, Nat.add_sub_cancel, List.getElem?_eq_getElem hkO]

set_option maxHeartbeats 4000000 in
set_option maxRecDepth 20000 in
theorem mayEnd_any (d : Nat) (s : ByteArray) (r : Bool) (i : Int) (v : Value) (O : List TokP) (w : World) (hB : ScB d s r i v w) (hR : Row d v O w) (hf : O.length ≤ 1099511627776) :
    Calls Tryd.prog 31 #[.pointer (some ⟨d, 0, none⟩)] w fun e w' => e = .returned (.bool (endL O)) ∧ Below w.heap.size w w' := by
  have h3 := hB.c3
  by_cases h0 : O.length = 0
  · obtain ⟨a, c, rfl⟩ := owns_len hR
    have hO0 : O = [] := List.length_eq_zero_iff.1 h0
    have he : endL O = false := by rw [hO0]; rfl
    rw [he]
    rw [h0] at h3
    clear hB hR
    go_enter Tryd.func31, Tryd.ntmps31
    go_upto_region 1 with fail
    go_quiet (fail)
    go_wp2_with fail
    go_ret
    exact ⟨rfl, drewB (Below.refl _ _) _⟩
  · obtain ⟨k, hk⟩ : ∃ k, O.length = k + 1 := ⟨O.length - 1, by omega⟩
    obtain ⟨g, c, t, rfl, he, c0, c1, c2, c3⟩ := last_cells hR hk
    obtain ⟨x, hx⟩ : ∃ x : ByteArray, (⟨t.t.toArray⟩ : ByteArray) = x := ⟨_, rfl⟩
    have hxl : x.toList = t.t := by rw [← hx, ByteArray.toList_eq]
    rw [hx] at c1
    have cE := fun X => pends_any t.w t.f t.e x X
    rw [hxl, ← he] at cE
    obtain ⟨_, hlt⟩ := hR.lt g rfl
    have hd := hB.lt
    obtain ⟨n, hn⟩ : ∃ n, n = k + 1 := ⟨_, rfl⟩
    rw [← hn] at h3
    have hcells : ∀ X, Below w.heap.size w X → (X.cell? ⟨d, 3, none⟩ = some (.slice (some ⟨g, 0, none⟩) n c) ∧ X.cell? ⟨g, k * 4, none⟩ = some (.int .i64 t.w) ∧ X.cell? ⟨g, k * 4 + 1, none⟩ = some (.string x) ∧ X.cell? ⟨g, k * 4 + 2, none⟩ = some (.int .i64 t.f) ∧ X.cell? ⟨g, k * 4 + 3, none⟩ = some (.int .i64 t.e) ∧ Below w.heap.size w X) := fun X hX =>
      ⟨(hX.cell (p := ⟨d, 3, none⟩) hd).trans h3, (hX.cell (p := ⟨g, k * 4, none⟩) hlt).trans c0, (hX.cell (p := ⟨g, k * 4 + 1, none⟩) hlt).trans c1, (hX.cell (p := ⟨g, k * 4 + 2, none⟩) hlt).trans c2, (hX.cell (p := ⟨g, k * 4 + 3, none⟩) hlt).trans c3, hX⟩
    obtain ⟨b, hb⟩ : ∃ b, endL O = b := ⟨_, rfl⟩
    rw [hb] at cE ⊢
    have CE2 : ∀ X, (X.cell? ⟨d, 3, none⟩ = some (.slice (some ⟨g, 0, none⟩) n c) ∧ X.cell? ⟨g, k * 4, none⟩ = some (.int .i64 t.w) ∧ X.cell? ⟨g, k * 4 + 1, none⟩ = some (.string x) ∧ X.cell? ⟨g, k * 4 + 2, none⟩ = some (.int .i64 t.f) ∧ X.cell? ⟨g, k * 4 + 3, none⟩ = some (.int .i64 t.e) ∧ Below w.heap.size w X) → Calls Tryd.prog 57 #[.agg #[.int .i64 t.w, .string x, .int .i64 t.f, .int .i64 t.e]] X fun e w' => e = .returned (.bool b) ∧ (w'.cell? ⟨d, 3, none⟩ = some (.slice (some ⟨g, 0, none⟩) n c) ∧ w'.cell? ⟨g, k * 4, none⟩ = some (.int .i64 t.w) ∧ w'.cell? ⟨g, k * 4 + 1, none⟩ = some (.string x) ∧ w'.cell? ⟨g, k * 4 + 2, none⟩ = some (.int .i64 t.f) ∧ w'.cell? ⟨g, k * 4 + 3, none⟩ = some (.int .i64 t.e) ∧ Below w.heap.size w w') := fun X hX =>
      (cE X).mono fun e w' ⟨h1, h2⟩ => ⟨h1, hcells _ (hX.2.2.2.2.2.trans (h2.mono hX.2.2.2.2.2.size))⟩
    have hS0 := hcells w.drew (Below.refl _ _).drew
    have hk6 : k ≤ 1099511627776 := by omega
    have hkO : (k : Int) < (n : Int) := by omega
    have hk0 : (0 : Int) ≤ (k : Int) := by omega
    have hpos : 0 < n := by omega
    have hi1 : IntKind.i64.wrap ((n : Int) - 1) = (k : Int) := (IntWalk.i64_in _ (by omega)).trans (by omega)
    clear hcells cE hb hB hR hx hxl he hlt hd hk hf h0 h3 c0 c1 c2 c3 hn
    go_enter Tryd.func31, Tryd.ntmps31
    go_upto_region 1 with fail
    go_region_held3 (fun X => X.cell? ⟨d, 3, none⟩ = some (.slice (some ⟨g, 0, none⟩) n c) ∧ X.cell? ⟨g, k * 4, none⟩ = some (.int .i64 t.w) ∧ X.cell? ⟨g, k * 4 + 1, none⟩ = some (.string x) ∧ X.cell? ⟨g, k * 4 + 2, none⟩ = some (.int .i64 t.f) ∧ X.cell? ⟨g, k * 4 + 3, none⟩ = some (.int .i64 t.e) ∧ Below w.heap.size w X) (with_reducible (repeat (first | assumption))) (first
      | (go_at_call 57; (with_reducible refine (CE2 _ ?_).mono ?_); assumption; rintro e w3 ⟨rfl, hS3⟩))
    go_wp2_with fail
    go_ret
    exact ⟨rfl, hS3.2.2.2.2.2⟩
/-- The token that take makes of a part. -/
def tkOf (x : Int) (y : ByteArray) (f e : Nat) : TokP := ⟨x, if y.toList = [10] then [] else y.toList, f, e⟩
def Taken (d : Nat) (s : ByteArray) (r : Bool) (i : Int) (O : List TokP) (w : World) (e : Ending) (w' : World) : Prop := e = .returned (.tuple #[]) ∧ ∃ v, ScB d s r i v w' ∧ Row d v O w' ∧ Mut (d + 1) d w w'
theorem row_set {d k : Nat} {v u : Value} {O : List TokP} {w : World} (h : Row d v O w) : Row d v O (w.setCell ⟨d, k, none⟩ u) :=
  owns_same h (fun j hj => Below.heap_setCell _ _ _ _ (by have := (h.lt j hj).1; show j ≠ d; omega))
/-- What take leaves behind its append. -/
theorem take_end {d : Nat} {s : ByteArray} {r : Bool} {i j : Int} {v v5 : Value} {O : List TokP} {t : TokP} {w W w5 : World} {o : Obj} (hB : ScB d s r i v W) (hR : Row d v O W) (hl : Below w.heap.size w W) (hd : d < w.heap.size)
    (hv5 : w5.ownsRow (d + 1) 44 4 v5 (O.length + 1) (tokCs O ++ tokCs [t])) (hg : (W.alloc o).grownBy w5 v.ownBlock) :
    ScB d s r i v w5 ∧ Taken d s r j (O ++ [t]) w (.returned (.tuple #[])) ((w5.setCell ⟨d, 3, none⟩ v5).setCell ⟨d, 2, none⟩ (.int .i64 j)) := by
  have hdW := hB.lt
  have hne : v.ownBlock ≠ some d := fun e => by have := (hR.lt d e).1; omega
  have h5 : ScB d s r i v w5 := (hB.same (Below.heap_alloc W o d (by omega))).same (hg.block d (by rw [World.size_alloc]; omega) (fun e => hne e.symm))
  have hr : Row d v5 (O ++ [t]) w5 := by
    unfold Row
    rw [tokCs_app, List.length_append]
    exact hv5
  have hm : Mut (d + 1) d w w5 := by
    refine ⟨?_, ?_, ?_, ?_, fun k hk hkd => ?_⟩
    · exact hg.os.trans hl.os
    · exact hg.tape.trans hl.tape
    · exact hg.output.trans hl.output
    · have h1 := hg.size; have h2 := hl.size; rw [World.size_alloc] at h1; omega
    · rw [hg.block k (by rw [World.size_alloc]; omega) (fun e => by have := (hR.lt k e.symm).1; omega), Below.heap_alloc W o k (by omega)]
      exact hl.block k (by omega)
  exact ⟨h5, rfl, v5, (h5.set3 v5).set2 j, row_set (row_set hr), (hm.setCell 3 v5).setCell 2 _⟩
set_option maxHeartbeats 4000000 in
set_option maxRecDepth 20000 in
theorem take_any (d : Nat) (s : ByteArray) (r : Bool) (i n : Nat) (x : Int) (v : Value) (O : List TokP) (w : World) (hB : ScB d s r i v w) (hR : Row d v O w) (hf : O.length ≤ 1099511627776) (hs : s.size ≤ 1099511627776) (hin : i + n ≤ s.size) :
    Calls Tryd.prog 32 #[.pointer (some ⟨d, 0, none⟩), .int .i64 x, .int .i64 n] w (Taken d s r ((i + n : Nat) : Int) (O ++ [tkOf x (s.extract i (i + n)) i (i + n)]) w) := by
  obtain ⟨i0, hi0, hz0, hz1, hz2⟩ := info_parts infoTok
  obtain ⟨va, vc, rfl⟩ := owns_len hR
  have h0 := hB.c0
  have h2 := hB.c2
  have hd := hB.lt
  obtain ⟨y, hy⟩ : ∃ y, s.extract i (i + n) = y := ⟨_, rfl⟩
  rw [hy]
  have HB := Lib.hid hB
  have HR := Lib.hid hR
  clear hB hR
  have hin0 : (0 : Int) ≤ (i : Int) := by omega
  have hin1 : (i : Int) ≤ (i : Int) + (n : Int) := by omega
  have hin2 : (i : Int) + (n : Int) ≤ (s.size : Int) := by omega
  have hin3 : IntKind.i64.wrap ((i : Int) + (n : Int)) = (i : Int) + (n : Int) := IntWalk.i64_in _ (by omega)
  obtain ⟨Q, hQ⟩ : ∃ Q, Taken d s r ((i + n : Nat) : Int) (O ++ [tkOf x y i (i + n)]) w = Q := ⟨_, rfl⟩
  rw [hQ]
  have HQ := Lib.hid hQ
  clear hQ
  by_cases h10 : y.toList = [10]
  · have HT : Hid (tkOf x y i (i + n) = ⟨x, [], i, (i : Int) + (n : Int)⟩) := Lib.hid (by unfold tkOf; rw [if_pos h10]; congr 1)
    have hyb : (y.toList == [10]) = true := by rw [h10]; rfl
    clear h10
    go_enter Tryd.func32, Tryd.ntmps32
    go_upto_region 0 with fail
    go_quiet (fail)
    obtain ⟨W, hW⟩ : ∃ V, w.drewN nq = V := ⟨_, rfl⟩
    have HBl : Hid (Below w.heap.size w W) := Lib.hid (by rw [← hW]; exact drewB (Below.refl _ _) _)
    have HB1 := Lib.hid (HB.out.below HBl.out)
    have HR1 : Hid (Row d (.slice va O.length vc) O W) := Lib.hid (owns_later HR.out HBl.out)
    rw [hW]
    clear h0 h2 hW HB HR
    have h0 := HB1.out.c0
    have h3 := HB1.out.c3
    go_wp2_with (at_builtin; refine wpList_append_own _ rfl _ _ 45 rfl (d + 1) 44 i0 (.agg #[.int .i64 0, .string ⟨#[]⟩, .int .i64 0, .int .i64 0]) 4 40 Tryd.underlying45 hi0 hz0 hz1 hz2 rfl (by decide) _ _ _ rfl (HR1.out.alloc _) ⟨W.heap.size, 0, none⟩ 1 1 (tokCs [⟨x, [], i, (i : Int) + (n : Int)⟩]) rfl rfl ?c1 (plain_toks _) ?c3 ?c4 ?c5 ?_)
    case c1 => exact new_tok _ _
    case c3 => unfold maxLen; omega
    case c4 => omega
    case c5 => rw [World.size_alloc]; have := HB1.out.lt; omega
    intro v5 w5 hv5 hg5 _
    obtain ⟨v5a, v5c, rfl⟩ := owns_len hv5
    have hte := take_end (j := (i : Int) + (n : Int)) HB1.out HR1.out HBl.out hd hv5 hg5
    have f3 := hte.1.f3
    have f2 := (hte.1.set3 (.slice v5a (O.length + 1) v5c)).f2
    have HTE := Lib.hid hte.2
    have q3 := hte.1.c3
    have q2 := (hte.1.set3 (.slice v5a (O.length + 1) v5c)).c2
    clear hv5 hg5 hte h0 h3
    go_wp2_with fail
    refine bodyPost_end (results_none rfl _ _ _) rfl ?_
    rw [← HQ.out, HT.out]
    exact HTE.out
  · have HT : Hid (tkOf x y i (i + n) = ⟨x, y.toList, i, (i : Int) + (n : Int)⟩) := Lib.hid (by unfold tkOf; rw [if_neg h10]; congr 1)
    have hyb : (y.toList == [10]) = false := by simpa using h10
    clear h10
    go_enter Tryd.func32, Tryd.ntmps32
    go_upto_region 0 with fail
    go_quiet (fail)
    obtain ⟨W, hW⟩ : ∃ V, w.drewN nq = V := ⟨_, rfl⟩
    have HBl : Hid (Below w.heap.size w W) := Lib.hid (by rw [← hW]; exact drewB (Below.refl _ _) _)
    have HB1 := Lib.hid (HB.out.below HBl.out)
    have HR1 : Hid (Row d (.slice va O.length vc) O W) := Lib.hid (owns_later HR.out HBl.out)
    rw [hW]
    clear h0 h2 hW HB HR
    have h0 := HB1.out.c0
    have h3 := HB1.out.c3
    go_wp2_with (at_builtin; refine wpList_append_own _ rfl _ _ 45 rfl (d + 1) 44 i0 (.agg #[.int .i64 0, .string ⟨#[]⟩, .int .i64 0, .int .i64 0]) 4 40 Tryd.underlying45 hi0 hz0 hz1 hz2 rfl (by decide) _ _ _ rfl (HR1.out.alloc _) ⟨W.heap.size, 0, none⟩ 1 1 (tokCs [⟨x, y.toList, i, (i : Int) + (n : Int)⟩]) rfl rfl ?c1 (plain_toks _) ?c3 ?c4 ?c5 ?_)
    case c1 => exact new_tokS _ _ _ _ _
    case c3 => unfold maxLen; omega
    case c4 => omega
    case c5 => rw [World.size_alloc]; have := HB1.out.lt; omega
    intro v5 w5 hv5 hg5 _
    obtain ⟨v5a, v5c, rfl⟩ := owns_len hv5
    have hte := take_end (j := (i : Int) + (n : Int)) HB1.out HR1.out HBl.out hd hv5 hg5
    have f3 := hte.1.f3
    have f2 := (hte.1.set3 (.slice v5a (O.length + 1) v5c)).f2
    have HTE := Lib.hid hte.2
    have q3 := hte.1.c3
    have q2 := (hte.1.set3 (.slice v5a (O.length + 1) v5c)).c2
    clear hv5 hg5 hte h0 h3
    go_wp2_with fail
    refine bodyPost_end (results_none rfl _ _ _) rfl ?_
    rw [← HQ.out, HT.out]
    exact HTE.out
end Go.Proofs.YtnjhmjkonmmomaaDoor.S
end
/- PMark: The contract of the scanner's markLength. -/
section
namespace Go.Proofs.YtnjhmjkonmmomaaDoor.S
open Go.RowKit
open Go.Lib hiding intOf
open Go.Proofs.YtnjhmjkonmmomaaDoor.U Go.Proofs.YtnjhmjkonmmomaaDoor.L

theorem wid_next {t : ByteArray} {pos : Nat} (h : pos = 0 ∨ pos = wid t.toList) (hp : pos = 0) : pos + (Utf8.decode t pos).2 = wid t.toList := by
  subst hp
  rw [wid_is]; omega
set_option maxHeartbeats 4000000 in
set_option maxRecDepth 20000 in
theorem mark_loop (d : Nat) (s : ByteArray) (r : Bool) (i : Int) (v : Value) (w : World) (t : ByteArray) (hB : ScB d s r i v w) (ht : t.size ≤ 1099511627776) (h0 : 0 < t.size) (h2 : two t.toList = false) :
    Calls Tryd.prog 56 #[.pointer (some ⟨d, 0, none⟩), .string t] w fun e w' => e = .returned (.int .i64 (markLen r t.toList : Nat)) ∧ Below w.heap.size w w' := by
  have h1 := hB.c1
  have hm : markLen r t.toList = if r then wid t.toList else 1 := by unfold markLen; rw [if_neg (by rw [h2]; simp)]
  have h7 := two_min t h0 (m := (min 2 (t.size : Int)).toNat) (by split <;> omega) rfl
  rw [h2] at h7
  simp only [Bool.false_eq, Bool.or_eq_false_iff] at h7
  obtain ⟨⟨⟨⟨⟨⟨t1, t2⟩, t3⟩, t4⟩, t5⟩, t6⟩, t7⟩ := h7
  clear hB h2
  cases r
  · replace hm : markLen false t.toList = 1 := hm
    rw [hm]
    clear hm
    go_enter Tryd.func56, Tryd.ntmps56
    go_wp2_with fail
    go_ret
    exact ⟨rfl, Below.refl _ _⟩
  · replace hm : markLen true t.toList = wid t.toList := hm
    rw [hm]
    have hwb := wid_bounds (l := t.toList) (by intro e; have := tl_len t; rw [e] at this; simp at this; omega)
    rw [tl_len] at hwb
    obtain ⟨R, hR⟩ : ∃ R, wid t.toList = R := ⟨_, rfl⟩
    rw [hR] at hwb ⊢
    have HR : Hid ((Utf8.decode t 0).2 = R) := Lib.hid (by rw [← hR, wid_is])
    clear hm hR
    go_enter Tryd.func56, Tryd.ntmps56
    go_wp2_with fail
    clear t1 t2 t3 t4 t5 t6 t7
    go_loopw [] (fun w' => ∃ pos : Nat, w' = w.iter t pos ∧ (pos = 0 ∨ pos = R)) (fun w' => t.size - w'.iterPos w.heap.size)
    case atStart => exact ⟨0, rfl, .inl rfl⟩
    case round =>
      obtain ⟨pos, rfl, hp⟩ := hrel
      by_cases hlt : pos < t.size
      · have hnx : ∀ ty, (Instr.next (.pointer (some ⟨w.heap.size, 0, none⟩)) true ty).run Tryd.prog (w.iter t pos) = _ := fun ty => run_next_any w t pos ty hlt
        have hw1 := width_pos t pos hlt
        have hw2 := width_le t pos hlt
        by_cases hp0 : 0 < pos
        · go_wp2_with fail
          go_ret
          exact ⟨by rw [show pos = R by omega]; rfl, (Below.refl _ _).alloc (Nat.le_refl _) _⟩
        · have HN : Hid (pos + (Utf8.decode t pos).2 = R) := Lib.hid (by
            have h := HR.out
            have hp0 : pos = 0 := by omega
            rw [hp0]; omega)
          clear hp
          go_wp2_with fail
          go_roundw
          case rel => exact ⟨pos + (Utf8.decode t pos).2, rfl, .inr HN.out⟩
          case measure => simp; omega
      · have hnx : ∀ ty, (Instr.next (.pointer (some ⟨w.heap.size, 0, none⟩)) true ty).run Tryd.prog (w.iter t pos) = _ := fun ty => run_next_end w t pos ty hlt
        have hRz : R = t.size := by omega
        go_wp2_with fail
        go_ret
        exact ⟨by rw [hRz]; rfl, (Below.refl _ _).alloc (Nat.le_refl _) _⟩
set_option maxHeartbeats 4000000 in
set_option maxRecDepth 20000 in
theorem mark_two (d : Nat) (r : Bool) (w : World) (t : ByteArray) (h2 : two t.toList = true) :
    Calls Tryd.prog 56 #[.pointer (some ⟨d, 0, none⟩), .string t] w fun e w' => e = .returned (.int .i64 (markLen r t.toList : Nat)) ∧ Below w.heap.size w w' := by
  have hm : markLen r t.toList = 2 := by unfold markLen; rw [if_pos h2]
  have hz : 2 ≤ t.size := by have := two_len h2; rwa [tl_len] at this
  have h7 := two_min t (by omega) (m := (min 2 (t.size : Int)).toNat) (by split <;> omega) rfl
  rw [h2] at h7
  rw [hm]
  clear h2 hm
  cases e0 : ((t.extract 0 (min 2 (t.size : Int)).toNat).toList == [58, 61])
  rotate_left
  · clear h7
    go_enter Tryd.func56, Tryd.ntmps56
    go_wp2_with fail
    go_ret
    exact ⟨rfl, Below.refl _ _⟩
  rw [e0] at h7
  cases e1 : ((t.extract 0 (min 2 (t.size : Int)).toNat).toList == [61, 61])
  rotate_left
  · clear h7
    go_enter Tryd.func56, Tryd.ntmps56
    go_wp2_with fail
    go_ret
    exact ⟨rfl, Below.refl _ _⟩
  rw [e1] at h7
  cases e2 : ((t.extract 0 (min 2 (t.size : Int)).toNat).toList == [33, 61])
  rotate_left
  · clear h7
    go_enter Tryd.func56, Tryd.ntmps56
    go_wp2_with fail
    go_ret
    exact ⟨rfl, Below.refl _ _⟩
  rw [e2] at h7
  cases e3 : ((t.extract 0 (min 2 (t.size : Int)).toNat).toList == [60, 61])
  rotate_left
  · clear h7
    go_enter Tryd.func56, Tryd.ntmps56
    go_wp2_with fail
    go_ret
    exact ⟨rfl, Below.refl _ _⟩
  rw [e3] at h7
  cases e4 : ((t.extract 0 (min 2 (t.size : Int)).toNat).toList == [62, 61])
  rotate_left
  · clear h7
    go_enter Tryd.func56, Tryd.ntmps56
    go_wp2_with fail
    go_ret
    exact ⟨rfl, Below.refl _ _⟩
  rw [e4] at h7
  cases e5 : ((t.extract 0 (min 2 (t.size : Int)).toNat).toList == [38, 38])
  rotate_left
  · clear h7
    go_enter Tryd.func56, Tryd.ntmps56
    go_wp2_with fail
    go_ret
    exact ⟨rfl, Below.refl _ _⟩
  rw [e5] at h7
  cases e6 : ((t.extract 0 (min 2 (t.size : Int)).toNat).toList == [124, 124])
  rotate_left
  · clear h7
    go_enter Tryd.func56, Tryd.ntmps56
    go_wp2_with fail
    go_ret
    exact ⟨rfl, Below.refl _ _⟩
  rw [e6] at h7
  simp at h7
theorem mark_any (d : Nat) (s : ByteArray) (r : Bool) (i : Int) (v : Value) (w : World) (t : ByteArray) (hB : ScB d s r i v w) (ht : t.size ≤ 1099511627776) (h0 : 0 < t.size) :
    Calls Tryd.prog 56 #[.pointer (some ⟨d, 0, none⟩), .string t] w fun e w' => e = .returned (.int .i64 (markLen r t.toList : Nat)) ∧ Below w.heap.size w w' := by
  cases h2 : two t.toList
  · exact mark_loop d s r i v w t hB ht h0 h2
  · exact mark_two d r w t h2
end Go.Proofs.YtnjhmjkonmmomaaDoor.S
end
/- Shelf: DERIVED: THE SHELF's CONTRACTS AT THIS DUMP, IN PLAIN WORDS (tools/lay-plain.mjs out of 'YtnjhmjkonmmomaaDoorShelf.lean', which tools/lay-shelf.mjs wrote): THE SAME DECLARATIONS UNDER THE SAME NAMES: 'import', 'namespace', 'open', 'def', 'theorem' AND NOTHING ELSE: no command of the shelf's: FOR A HAND-IN. Each laying: the table of numbers ('.._ren') and one theorem, a field a fact of the dump's own or the kernel's comparison; each contract: ONE APPLICATION. -/
section
namespace Go.Proofs
open Go.Shelf
def Tryd.lays206_ren : Go.Shelf.Ren := ⟨fun | 206 => 70 | n => n, fun | 9 => 9 | 4 => 4 | 3 => 3 | n => n, fun | n => n⟩
theorem Tryd.lays206 : Go.Proofs.Lays.n206 Tryd.prog Tryd.lays206_ren := {
  mixed := by kernel_rfl
  f206 := Tryd.func70.trans (congrArg some (by kernel_rfl))
  t3 := Tryd.underlying3
  a3 := Tryd.isAgg3
  z3 := Tryd.sizeOf3
  v3 := Tryd.zeroValue3
  t4 := Tryd.underlying4
  a4 := Tryd.isAgg4
  z4 := Tryd.sizeOf4
  v4 := Tryd.zeroValue4
  t9 := Tryd.underlying9
  a9 := Tryd.isAgg9
  z9 := Tryd.sizeOf9
  v9 := Tryd.zeroValue9 }
open Go.RowKit Go.Lib in
/-- internal/stringslite.HasPrefix (what strings.HasPrefix calls). (LAID: no walk: one application.) -/
theorem Tryd.stringslite_HasPrefix (s p : ByteArray) (w : World) :
    Calls Tryd.prog 70 #[.string s, .string p] w fun e w' => e = .returned (.bool (Lib.hasPrefix s.data.toList p.data.toList)) ∧ w' = w := Any.stringslite_HasPrefix Tryd.lays206 s p w
def Tryd.lays99_ren : Go.Shelf.Ren := ⟨fun | 99 => 48 | 206 => 70 | n => n, fun | 9 => 9 | 4 => 4 | 3 => 3 | n => n, fun | n => n⟩
theorem Tryd.lays99 : Go.Proofs.Lays.n99 Tryd.prog Tryd.lays99_ren := {
  mixed := by kernel_rfl
  f99 := Tryd.func48.trans (congrArg some (by kernel_rfl))
  f206 := Tryd.func70.trans (congrArg some (by kernel_rfl))
  t3 := Tryd.underlying3
  a3 := Tryd.isAgg3
  z3 := Tryd.sizeOf3
  v3 := Tryd.zeroValue3
  t4 := Tryd.underlying4
  a4 := Tryd.isAgg4
  z4 := Tryd.sizeOf4
  v4 := Tryd.zeroValue4
  t9 := Tryd.underlying9
  a9 := Tryd.isAgg9
  z9 := Tryd.sizeOf9
  v9 := Tryd.zeroValue9 }
open Go.RowKit Go.Lib in
/-- strings.HasPrefix: "HasPrefix reports whether the string s begins with prefix.": IT RETURNS 'Lib.hasPrefix s prefix'; the world is as it was. (LAID: no walk: one application.) -/
theorem Tryd.strings_HasPrefix (s p : ByteArray) (w : World) :
    Calls Tryd.prog 48 #[.string s, .string p] w fun e w' => e = .returned (.bool (Lib.hasPrefix s.data.toList p.data.toList)) ∧ w' = w := Any.strings_HasPrefix Tryd.lays99 s p w
end Go.Proofs
end
/- PStep: The contract of the scanner's step. -/
section
namespace Go.Proofs.YtnjhmjkonmmomaaDoor.S
open Go.RowKit
open Go.Lib hiding intOf
open Go.Proofs.YtnjhmjkonmmomaaDoor.U Go.Proofs.YtnjhmjkonmmomaaDoor.L

def Stepped (d : Nat) (s : ByteArray) (r : Bool) (i : Nat) (w : World) (e : Ending) (w' : World) : Prop := ∃ (j : Nat) (O : List TokP), i < j ∧ j ≤ s.size ∧ ScSt r s j O ∧ Taken d s r j O w e w'
theorem at_end {d : Nat} {s : ByteArray} {r : Bool} {i j : Int} {v : Value} {O : List TokP} {w W : World} (hB : ScB d s r i v W) (hR : Row d v O W) (hl : Below w.heap.size w W) (hd : d < w.heap.size) :
    Taken d s r j O w (.returned (.tuple #[])) (W.setCell ⟨d, 2, none⟩ (.int .i64 j)) :=
  ⟨rfl, v, hB.set2 j, row_set hR, (Mut.of_below (⟨hl.os, hl.tape, hl.output, hl.size, fun k hk => hl.block k (by omega)⟩ : Below (d + 1) w W)).setCell 2 _⟩
theorem Taken.after {d : Nat} {s : ByteArray} {r : Bool} {j : Int} {O : List TokP} {w W w' : World} {e : Ending} (h : Taken d s r j O W e w') (hl : Below w.heap.size w W) (hd : d < w.heap.size) : Taken d s r j O w e w' := by
  obtain ⟨h1, v, h2, h3, h4⟩ := h
  exact ⟨h1, v, h2, h3, (Mut.of_below (⟨hl.os, hl.tape, hl.output, hl.size, fun k hk => hl.block k (by omega)⟩ : Below (d + 1) w W)).trans h4⟩
theorem tk_plain {x : Int} {s : ByteArray} {i k : Nat} {c : UInt8} (h : i < s.size) (hk : 1 ≤ k) (hc : s[i] = c) (h10 : c ≠ 10) : tkOf x (s.extract i (i + k)) i (i + k) = ⟨x, (s.extract i (i + k)).toList, i, ((i + k : Nat) : Int)⟩ := by
  unfold tkOf
  rw [if_neg]
  rw [ext_list, tl_drop s h, show i + k - i = (k - 1) + 1 by omega, List.take_succ_cons, hc]
  intro e
  exact h10 (List.cons.inj e).1
theorem tk_10 {s : ByteArray} {i : Nat} (h : i < s.size) (hc : s[i] = 10) : tkOf 5 (s.extract i (i + 1)) i (i + 1) = ⟨5, [], i, ((i + 1 : Nat) : Int)⟩ := by
  unfold tkOf
  rw [if_pos]
  rw [ext_list, tl_drop s h, show i + 1 - i = 0 + 1 by omega, List.take_succ_cons, hc]; rfl
theorem rBlank_is (c : UInt8) : rBlank c.toNat = (blank c && decide (c ≠ 10)) := by
  rw [Bool.eq_iff_iff]
  have e : ∀ d : UInt8, c.toNat = d.toNat ↔ c = d := fun d => ⟨fun h => UInt8.toNat_inj.1 h, fun h => by rw [h]⟩
  have e32 := e 32
  have e9 := e 9
  have e13 := e 13
  simp only [show (32 : UInt8).toNat = 32 from rfl, show (9 : UInt8).toNat = 9 from rfl, show (13 : UInt8).toNat = 13 from rfl] at e32 e9 e13
  unfold rBlank blank
  simp only [decide_eq_true_eq, e32, e9, e13, Bool.and_eq_true, Bool.or_eq_true, beq_iff_eq, ne_eq]
  constructor
  · rintro (h | h | h) <;> (subst h; decide)
  · rintro ⟨((h | h) | h) | h, h2⟩
    · exact .inl h
    · exact .inr (.inl h)
    · exact .inr (.inr h)
    · exact absurd h h2
theorem step_word {d : Nat} {s t : ByteArray} {r : Bool} {i k : Nat} {x : Int} {c : UInt8} {O : List TokP} {w W : World} (hS : ScSt r s i O) (hlt : i < s.size) (hc : s[i] = c) (hb : blank c = false) (ht : s.extract i s.size = t) (hk : cmtLen t.toList = 0) (hw : wordL r t.toList = (x, k)) (hl : Below w.heap.size w W) (hd : d < w.heap.size) :
    i + k ≤ s.size ∧ ∀ w', Taken d s r ((i + k : Nat) : Int) (O ++ [tkOf x (s.extract i (i + k)) i (i + k)]) W (.returned (.tuple #[])) w' → Stepped d s r i w (.returned (.tuple #[])) w' := by
  subst ht
  obtain ⟨h1, h2, h3⟩ := scSt_word hS hlt (by rw [hc]; exact hb) hk hw
  refine ⟨h1, fun w' h => ⟨i + k, _, by omega, h1, h3, ?_⟩⟩
  rw [tk_plain hlt h2 hc (fun e => by rw [e] at hb; cases hb)] at h
  exact h.after hl hd
set_option maxHeartbeats 8000000 in
set_option maxRecDepth 20000 in
theorem step_any (d : Nat) (s : ByteArray) (r : Bool) (i : Nat) (v : Value) (O : List TokP) (w : World) (hB : ScB d s r i v w) (hR : Row d v O w) (hS : ScSt r s i O) (hlt : i < s.size) (hs : s.size ≤ 1099511627776) :
    Calls Tryd.prog 30 #[.pointer (some ⟨d, 0, none⟩)] w (Stepped d s r i w) := by
  have h0 := hB.c0
  have h2 := hB.c2
  have hd := hB.lt
  have hf : O.length ≤ 1099511627776 := by have := hS.few; omega
  obtain ⟨t, ht⟩ : ∃ t, s.extract i s.size = t := ⟨_, rfl⟩
  have htz : t.size = s.size - i := by rw [← ht, size_extract s i s.size (by omega) (Nat.le_refl _)]
  have ht0 : 0 < t.size := by omega
  obtain ⟨c, hc⟩ : ∃ c, s[i] = c := ⟨_, rfl⟩
  have htc : t[0] = c := by
    have h1 := first_ext s hlt
    rw [ht, tl_get t ht0, hc] at h1
    exact Option.some.inj h1
  have hc256 : c.toNat < 256 := UInt8.toNat_lt c
  have HB := Lib.hid hB
  have HR := Lib.hid hR
  have HS := Lib.hid hS
  have HC := Lib.hid hc
  have hi0 : (0 : Int) ≤ (i : Int) := by omega
  have hi1 : (i : Int) ≤ (s.size : Int) := by omega
  obtain ⟨Q, hQ⟩ : ∃ Q, Stepped d s r i w = Q := ⟨_, rfl⟩
  rw [hQ]
  have HQ := Lib.hid hQ
  clear hB hR hS hc hQ
  go_enter Tryd.func30, Tryd.ntmps30
  go_upto_region 0 with fail
  go_quiet (fail)
  obtain ⟨W, hW⟩ : ∃ V, w.drewN nq = V := ⟨_, rfl⟩
  have HBl : Hid (Below w.heap.size w W) := Lib.hid (by rw [← hW]; exact drewB (Below.refl _ _) _)
  have HB1 := Lib.hid (HB.out.below HBl.out)
  have HR1 : Hid (Row d v O W) := Lib.hid (owns_later HR.out HBl.out)
  rw [hW]
  clear h0 h2 hW HB HR
  have cBl := blank_any c.toNat W
  rw [rBlank_is] at cBl
  go_wp2_with fail
  refine cBl.mono ?_
  rintro e w2 ⟨rfl, rfl⟩
  clear cBl
  by_cases hbl : blank c = true ∧ c ≠ 10
  · rw [show (blank c && decide (c ≠ 10)) = true by simp [hbl.1, hbl.2]]
    have HE : Hid (Stepped d s r i w (.returned (.tuple #[])) (W.setCell ⟨d, 2, none⟩ (.int .i64 ((i : Int) + 1)))) := Lib.hid ⟨i + 1, O, by omega, by omega, scSt_blank HS.out hlt (fun e => hbl.2 (HC.out.symm.trans e.1)) (by rw [HC.out]; exact hbl.1), at_end (j := (i : Int) + 1) HB1.out HR1.out HBl.out hd⟩
    have h2 := HB1.out.c2
    have f2 := HB1.out.f2
    clear hbl ht htc
    go_wp2_with fail
    refine bodyPost_end (results_none rfl _ _ _) rfl ?_
    rw [← HQ.out]
    exact HE.out
  · rw [show (blank c && decide (c ≠ 10)) = false by
      rw [Bool.and_eq_false_iff]
      by_cases hb : blank c = true
      · exact .inr (by simpa using fun h => hbl ⟨hb, h⟩)
      · exact .inl (by simpa using hb)]
    have HNB := Lib.hid hbl
    have cH : Calls Tryd.prog 48 #[.string t, .string ⟨#[47, 47]⟩] W fun e w' => e = .returned (.bool (Lib.hasPrefix t.toList [47, 47])) ∧ w' = W := by
      rw [ByteArray.toList_eq]
      exact Tryd.strings_HasPrefix t ⟨#[47, 47]⟩ W
    clear hbl
    go_wp2_with fail
    refine cH.mono ?_
    rintro e w2 ⟨rfl, rfl⟩
    clear cH
    rcases cmt_pre t with ⟨hp, hk, hw⟩ | ⟨hp, hk⟩
    · rw [hp]
      obtain ⟨n, hn⟩ : ∃ n, cmtLen t.toList = n := ⟨_, rfl⟩
      rw [hn] at hk hw
      have hle : i + n ≤ s.size := by have h := cmt_le t.toList; rw [hn, tl_len] at h; omega
      have HN2 : Hid (blank c = false → ScSt r s (i + n) O) := Lib.hid (fun hb => by
        have h := scSt_cmt HS.out hlt (by rw [HC.out]; exact hb) (by rw [ht, hn]; exact hk)
        rwa [ht, hn] at h)
      have HBB : Hid (blank c = false) := Lib.hid (by
        cases hb : blank c
        · rfl
        · exfalso
          have h10 : c = 10 := Classical.byContradiction (fun h => HNB.out ⟨hb, h⟩)
          have hl := tl_drop t ht0
          rw [List.drop_zero, htc, h10] at hl
          rw [hl, pre_two] at hp
          match t.toList.drop (0 + 1), hp with
          | [], hp => cases hp
          | x :: u, hp => simp at hp)
      have HST := Lib.hid (HN2.out HBB.out)
      have c1 : ∀ X, Below w2.heap.size w2 X → Calls Tryd.prog 49 #[.string t, .func (.func 50) #[] #[]] X fun e w' => e = .returned (.int .i64 (n : Nat)) ∧ (w'.cell? ⟨d, 2, none⟩ = some (.int .i64 i) ∧ w'.frozen? ⟨d, 2, none⟩ = false) ∧ Hid (Below w2.heap.size w2 w') := fun X hX => by
        have h := spanLine t X (by omega)
        rw [hw] at h
        refine h.mono fun e w' ⟨h1, h2⟩ => ⟨h1, ?_⟩
        have hb := hX.trans (h2.mono hX.size)
        exact ⟨⟨(HB1.out.below hb).c2, (HB1.out.below hb).f2⟩, Lib.hid hb⟩
      have h2 := HB1.out.c2
      have f2 := HB1.out.f2
      have hwr : IntKind.i64.wrap ((i : Int) + (n : Int)) = (i : Int) + (n : Int) := IntWalk.i64_in _ (by omega)
      clear hp hw hn ht htc HN2 HNB
      go_upto_region 10 with fail
      go_region_with (first
        | (go_at_call 49; (with_reducible refine (c1 _ ?_).mono ?_); (exact ⟨rfl, rfl, rfl, Nat.le_refl _, fun _ _ => rfl⟩); rintro e w6 ⟨rfl, ⟨q2, g2⟩, HB6⟩))
      all_goals
        have HE : Hid (Stepped d s r i w (.returned (.tuple #[])) (w6.setCell ⟨d, 2, none⟩ (.int .i64 ((i : Int) + (n : Int))))) := Lib.hid ⟨i + n, O, by omega, hle, HST.out, at_end (j := (i : Int) + (n : Int)) (HB1.out.below HB6.out) (owns_later HR1.out HB6.out) (HBl.out.trans (HB6.out.mono HBl.out.size)) hd⟩
        clear q2 g2 h2 f2 c1
        go_wp2_with fail
        refine bodyPost_end (results_none rfl _ _ _) rfl ?_
        rw [← HQ.out]
        exact HE.out
    · rw [hp]
      have HCM := Lib.hid hk
      clear hp hk
      by_cases h10 : c = 10
      · have e10 : ((c.toNat : Int) == 10) = true := by rw [h10]; rfl
        have cM := mayEnd_any d s r i v O w2 HB1.out HR1.out hf
        have HTEN := Lib.hid h10
        clear h10
        go_wp2_with fail
        refine cM.mono ?_
        rintro e w3 ⟨rfl, hb3⟩
        have HB3 := Lib.hid (HB1.out.below hb3)
        have HR3 : Hid (Row d v O w3) := Lib.hid (owns_later HR1.out hb3)
        have HL3 : Hid (Below w.heap.size w w3) := Lib.hid (HBl.out.trans (hb3.mono HBl.out.size))
        clear cM hb3
        cases hen : endL O
        · have HE : Hid (Stepped d s r i w (.returned (.tuple #[])) (w3.setCell ⟨d, 2, none⟩ (.int .i64 ((i : Int) + 1)))) := Lib.hid ⟨i + 1, O, by omega, by omega, scSt_blank HS.out hlt (fun e => by rw [hen] at e; cases e.2) (by rw [HC.out, HTEN.out]; decide), at_end (j := (i : Int) + 1) HB3.out HR3.out HL3.out hd⟩
          have h2 := HB3.out.c2
          have f2 := HB3.out.f2
          clear hen ht htc
          go_wp2_with fail
          refine bodyPost_end (results_none rfl _ _ _) rfl ?_
          rw [← HQ.out]
          exact HE.out
        · have cT := take_any d s r i 1 5 v O w3 HB3.out HR3.out hf hs (by omega)
          have HF : Hid (∀ w', Taken d s r ((i + 1 : Nat) : Int) (O ++ [tkOf 5 (s.extract i (i + 1)) i (i + 1)]) w3 (.returned (.tuple #[])) w' → Stepped d s r i w (.returned (.tuple #[])) w') := Lib.hid (fun w' h => ⟨i + 1, _, by omega, by omega, scSt_10 HS.out hlt (HC.out.trans HTEN.out) hen, by
            rw [tk_10 hlt (HC.out.trans HTEN.out)] at h
            exact h.after HL3.out hd⟩)
          clear hen ht htc
          go_wp2_with fail
          refine cT.mono ?_
          rintro e w4 ⟨rfl, hT⟩
          have HT := Lib.hid (HF.out w4 ⟨rfl, hT⟩)
          clear cT hT
          go_wp2_with fail
          refine bodyPost_end (results_none rfl _ _ _) rfl ?_
          rw [← HQ.out]
          exact HT.out
      · have e10 : ((c.toNat : Int) == 10) = false := by have h := u8_eq c 10; rw [decide_eq_false h10] at h; exact h
        have HBB : Hid (blank c = false) := Lib.hid (by
          cases hb : blank c
          · rfl
          · exact absurd ⟨hb, h10⟩ HNB.out)
        clear h10 HNB
        by_cases h59 : c = 59
        · have e59 : ((c.toNat : Int) == 59) = true := by rw [h59]; rfl
          obtain ⟨hik, hfin⟩ := step_word HS.out hlt HC.out HBB.out ht HCM.out (word_semi (right := r) ht0 (htc.trans h59)) HBl.out hd
          have HF := Lib.hid hfin
          have cT := take_any d s r i 1 5 v O w2 HB1.out HR1.out hf hs hik
          clear hfin h59 ht htc
          go_wp2_with fail
          refine cT.mono ?_
          rintro e w4 ⟨rfl, hT⟩
          have HT := Lib.hid (HF.out w4 ⟨rfl, hT⟩)
          clear cT hT
          go_wp2_with fail
          refine bodyPost_end (results_none rfl _ _ _) rfl ?_
          rw [← HQ.out]
          exact HT.out
        · have e59 : ((c.toNat : Int) == 59) = false := by have h := u8_eq c 59; rw [decide_eq_false h59] at h; exact h
          have cL := lett_any c.toNat w2
          rw [lett_r] at cL
          go_wp2_with fail
          refine cL.mono ?_
          rintro e w3 ⟨rfl, rfl⟩
          clear cL
          cases hle : lett c
          · have HLE := Lib.hid (htc ▸ hle : lett t[0] = false)
            have cF := fig_any c.toNat w2
            rw [fig_r] at cF
            clear hle
            go_wp2_with fail
            refine cF.mono ?_
            rintro e w4 ⟨rfl, rfl⟩
            clear cF
            cases hfi : figu c
            · have HFI := Lib.hid (htc ▸ hfi : figu t[0] = false)
              clear hfi
              have hmark : quoLen t.toList = 0 → (i + markLen r t.toList ≤ s.size ∧ ∀ W w', Below w.heap.size w W → Taken d s r ((i + markLen r t.toList : Nat) : Int) (O ++ [tkOf 4 (s.extract i (i + markLen r t.toList)) i (i + markLen r t.toList)]) W (.returned (.tuple #[])) w' → Stepped d s r i w (.returned (.tuple #[])) w') := fun hq =>
                ⟨(step_word HS.out hlt HC.out HBB.out ht HCM.out (word_mark ht0 HLE.out HFI.out hq (by rw [htc]; exact h59)) HBl.out hd).1, fun W w' hW h => (step_word HS.out hlt HC.out HBB.out ht HCM.out (word_mark ht0 HLE.out HFI.out hq (by rw [htc]; exact h59)) hW hd).2 w' h⟩
              have HMK := Lib.hid hmark
              clear hmark
              by_cases h34 : c = 34
              · have e34 : ((c.toNat : Int) == 34) = true := by rw [h34]; rfl
                have cQ := pquote_any t w2 (by omega) ht0 (htc.trans h34)
                obtain ⟨n, hn⟩ : ∃ n, quoLen t.toList = n := ⟨_, rfl⟩
                rw [hn] at cQ
                clear h34
                go_wp2_with fail
                refine cQ.mono ?_
                rintro e w5 ⟨rfl, hb5⟩
                have HB5 := Lib.hid (HB1.out.below hb5)
                have HR5 : Hid (Row d v O w5) := Lib.hid (owns_later HR1.out hb5)
                have HL5 : Hid (Below w.heap.size w w5) := Lib.hid (HBl.out.trans (hb5.mono HBl.out.size))
                clear cQ hb5
                by_cases hn0 : 0 < n
                · obtain ⟨hik, hfin⟩ := step_word HS.out hlt HC.out HBB.out ht HCM.out ((word_quo (right := r) ht0 HLE.out HFI.out (by rw [hn]; exact hn0)).trans (by rw [hn])) HL5.out hd
                  have HF := Lib.hid hfin
                  have cT := take_any d s r i n 2 v O w5 HB5.out HR5.out hf hs hik
                  clear hfin ht htc hn
                  go_wp2_with fail
                  refine cT.mono ?_
                  rintro e w8 ⟨rfl, hT⟩
                  have HT := Lib.hid (HF.out w8 ⟨rfl, hT⟩)
                  clear cT hT
                  go_wp2_with fail
                  refine bodyPost_end (results_none rfl _ _ _) rfl ?_
                  rw [← HQ.out]
                  exact HT.out
                · have hq0 : quoLen t.toList = 0 := by omega
                  obtain ⟨hik, hfin⟩ := HMK.out hq0
                  have cM := mark_any d s r i v w5 t HB5.out (by omega) ht0
                  obtain ⟨m, hm⟩ : ∃ m, markLen r t.toList = m := ⟨_, rfl⟩
                  rw [hm] at cM hik
                  simp only [hm] at hfin
                  clear hq0 hn hm HMK
                  go_wp2_with fail
                  refine cM.mono ?_
                  rintro e w6 ⟨rfl, hb6⟩
                  have hB6 := HB5.out.below hb6
                  have hR6 : Row d v O w6 := owns_later HR5.out hb6
                  have hL6 : Below w.heap.size w w6 := HL5.out.trans (hb6.mono HL5.out.size)
                  have HF := Lib.hid (fun w' h => hfin w6 w' hL6 h)
                  have cT := take_any d s r i m 4 v O w6 hB6 hR6 hf hs hik
                  clear hB6 hR6 hL6 cM hb6
                  clear hfin ht htc
                  go_wp2_with fail
                  refine cT.mono ?_
                  rintro e w8 ⟨rfl, hT⟩
                  have HT := Lib.hid (HF.out w8 ⟨rfl, hT⟩)
                  clear cT hT
                  go_wp2_with fail
                  refine bodyPost_end (results_none rfl _ _ _) rfl ?_
                  rw [← HQ.out]
                  exact HT.out
              · have e34 : ((c.toNat : Int) == 34) = false := by have h := u8_eq c 34; rw [decide_eq_false h34] at h; exact h
                obtain ⟨hik, hfin⟩ := HMK.out (quo_no ht0 (by rw [htc]; exact h34))
                have cM := mark_any d s r i v w2 t HB1.out (by omega) ht0
                obtain ⟨m, hm⟩ : ∃ m, markLen r t.toList = m := ⟨_, rfl⟩
                rw [hm] at cM hik
                simp only [hm] at hfin
                clear hm HMK h34
                go_wp2_with fail
                refine cM.mono ?_
                rintro e w6 ⟨rfl, hb6⟩
                have hB6 := HB1.out.below hb6
                have hR6 : Row d v O w6 := owns_later HR1.out hb6
                have hL6 : Below w.heap.size w w6 := HBl.out.trans (hb6.mono HBl.out.size)
                have HF := Lib.hid (fun w' h => hfin w6 w' hL6 h)
                have cT := take_any d s r i m 4 v O w6 hB6 hR6 hf hs hik
                clear hB6 hR6 hL6 cM hb6
                clear hfin ht htc
                go_wp2_with fail
                refine cT.mono ?_
                rintro e w8 ⟨rfl, hT⟩
                have HT := Lib.hid (HF.out w8 ⟨rfl, hT⟩)
                clear cT hT
                go_wp2_with fail
                refine bodyPost_end (results_none rfl _ _ _) rfl ?_
                rw [← HQ.out]
                exact HT.out
            · have hwn := word_num (right := r) ht0 HLE.out (htc ▸ hfi : figu t[0] = true)
              have cS := spanFig t w2 (by omega)
              obtain ⟨n, hn⟩ : ∃ n, whileAt figu t 0 = n := ⟨_, rfl⟩
              rw [hn] at cS hwn
              obtain ⟨hwn, hn1, hn2⟩ := hwn
              have HW := Lib.hid hwn
              clear hfi hn hwn
              go_wp2_with fail
              refine cS.mono ?_
              rintro e w6 ⟨rfl, hb6⟩
              have hB6 := HB1.out.below hb6
              have hR6 : Row d v O w6 := owns_later HR1.out hb6
              have hL6 : Below w.heap.size w w6 := HBl.out.trans (hb6.mono HBl.out.size)
              obtain ⟨hik, hfin⟩ := step_word HS.out hlt HC.out HBB.out ht HCM.out HW.out hL6 hd
              have HF := Lib.hid hfin
              have cT := take_any d s r i n 1 v O w6 hB6 hR6 hf hs hik
              clear hB6 hR6 hL6 cS hb6
              clear hfin ht htc
              go_wp2_with fail
              refine cT.mono ?_
              rintro e w8 ⟨rfl, hT⟩
              have HT := Lib.hid (HF.out w8 ⟨rfl, hT⟩)
              clear cT hT
              go_wp2_with fail
              refine bodyPost_end (results_none rfl _ _ _) rfl ?_
              rw [← HQ.out]
              exact HT.out
          · have hwn := word_name (right := r) ht0 (htc ▸ hle : lett t[0] = true)
            have cS := spanName t w2 (by omega)
            obtain ⟨n, hn⟩ : ∃ n, whileAt nmc t 0 = n := ⟨_, rfl⟩
            rw [hn] at cS hwn
            obtain ⟨hwn, hn1, hn2⟩ := hwn
            obtain ⟨y, hy⟩ : ∃ y, t.extract 0 n = y := ⟨_, rfl⟩
            rw [hy] at hwn
            obtain ⟨x, hx⟩ : ∃ x : Int, (if keyB y.toList then 3 else 0) = x := ⟨_, rfl⟩
            have cO := fun X => sortOf_any y X
            simp only [hx] at cO
            rw [hx] at hwn
            have HW := Lib.hid hwn
            clear hle hn hwn hx
            go_wp2_with fail
            refine cS.mono ?_
            rintro e w6 ⟨rfl, hb6⟩
            have HB6 := Lib.hid (HB1.out.below hb6)
            have HR6 : Hid (Row d v O w6) := Lib.hid (owns_later HR1.out hb6)
            have HL6 : Hid (Below w.heap.size w w6) := Lib.hid (HBl.out.trans (hb6.mono HBl.out.size))
            obtain ⟨hik, hfin⟩ := step_word HS.out hlt HC.out HBB.out ht HCM.out HW.out HL6.out hd
            have HF := Lib.hid hfin
            have cT := take_any d s r i n x v O w6 HB6.out HR6.out hf hs hik
            clear cS hb6 hfin
            go_wp2_with fail
            refine (cO w6).mono ?_
            rintro e w7 ⟨rfl, rfl⟩
            clear cO hy ht htc
            go_wp2_with fail
            refine cT.mono ?_
            rintro e w8 ⟨rfl, hT⟩
            have HT := Lib.hid (HF.out w8 ⟨rfl, hT⟩)
            clear cT hT
            go_wp2_with fail
            refine bodyPost_end (results_none rfl _ _ _) rfl ?_
            rw [← HQ.out]
            exact HT.out
end Go.Proofs.YtnjhmjkonmmomaaDoor.S
end
/- Lays: The library's utf8.ValidString, and what it calls, as they lie in this program: its bodies, types and tables are the ones over which the kit proves its contract. -/
section
namespace Go.Proofs.YtnjhmjkonmmomaaDoor.U
open Go.Shelf
def lays_ren : Go.Shelf.Ren := ⟨fun | 196 => 46 | 259 => 69 | n => n, fun | 9 => 9 | 4 => 4 | 3 => 3 | 5 => 5 | 12 => 12 | 119 => 80 | 0 => 0 | 46 => 84 | 139 => 83 | 138 => 82 | 53 => 85 | n => n, fun | 3 => 0 | 4 => 1 | n => n⟩
theorem lays : Lays.n196 Tryd.prog lays_ren := {
  mixed := by kernel_rfl,
  f196 := Tryd.func46.trans (congrArg some (by kernel_rfl)),
  f259 := Tryd.func69.trans (congrArg some (by kernel_rfl)),
  t0 := Tryd.underlying0,
  a0 := Tryd.isAgg0,
  z0 := Tryd.sizeOf0,
  v0 := Tryd.zeroValue0,
  t3 := Tryd.underlying3,
  a3 := Tryd.isAgg3,
  z3 := Tryd.sizeOf3,
  v3 := Tryd.zeroValue3,
  t4 := Tryd.underlying4,
  a4 := Tryd.isAgg4,
  z4 := Tryd.sizeOf4,
  v4 := Tryd.zeroValue4,
  t5 := Tryd.underlying5,
  a5 := Tryd.isAgg5,
  z5 := Tryd.sizeOf5,
  v5 := Tryd.zeroValue5,
  t9 := Tryd.underlying9,
  a9 := Tryd.isAgg9,
  z9 := Tryd.sizeOf9,
  v9 := Tryd.zeroValue9,
  t12 := Tryd.underlying12,
  a12 := Tryd.isAgg12,
  z12 := Tryd.sizeOf12,
  v12 := Tryd.zeroValue12,
  t46 := Tryd.underlying84,
  a46 := Tryd.isAgg84,
  z46 := Tryd.sizeOf84,
  v46 := Tryd.zeroValue84,
  t53 := Tryd.underlying85,
  a53 := Tryd.isAgg85,
  z53 := Tryd.sizeOf85,
  v53 := Tryd.zeroValue85,
  t119 := Tryd.underlying80,
  a119 := Tryd.isAgg80,
  z119 := Tryd.sizeOf80,
  t138 := Tryd.underlying82,
  a138 := Tryd.isAgg82,
  z138 := Tryd.sizeOf82,
  v138 := Tryd.zeroValue82,
  t139 := Tryd.underlying83,
  a139 := Tryd.isAgg83,
  z139 := Tryd.sizeOf83,
  v139 := Tryd.zeroValue83,
  g3 := by kernel_rfl,
  g4 := by kernel_rfl }
end Go.Proofs.YtnjhmjkonmmomaaDoor.U
end
/- WalksR: The contract of package utf's Right, at a seat that has nothing else of utf. -/
section
namespace Go.Proofs.YtnjhmjkonmmomaaDoor.U
open Go.RowKit
open Go.Lib hiding intOf

def Tabs (w : World) : Prop := Lib.Utf8Tabs 0 1 w
theorem Tabs.later {w w' : World} (hT : Tabs w) (hb : Below w.heap.size w w') : Tabs w' := Utf8Tabs_below hT hb
/-- utf.Right. -/
theorem right_any (s : ByteArray) (w : World) (hs : s.size ≤ 1099511627776) (hT : Tabs w) :
    Calls Tryd.prog 29 #[.string s] w fun e w' => e = .returned (.bool (okB s)) ∧ Below w.heap.size w w' := by
  have cV : Calls Tryd.prog 46 #[.string s] w (fun e w' => e = .returned (.bool (Lib.validD s.data.toList)) ∧ Below w.heap.size w w') := Any.utf8_ValidString lays s w (by omega) hT
  rw [valid_ok s] at cV
  generalize okB s = V at cV ⊢
  go_enter Tryd.func29, Tryd.ntmps29
  go_wp2_with (go_at_call 46; refine cV.mono ?_; rintro e w' ⟨rfl, hb⟩)
  go_ret
  exact ⟨rfl, hb⟩
end Go.Proofs.YtnjhmjkonmmomaaDoor.U
end
/- PScan: The contract of package scan's Scan. -/
section
namespace Go.Proofs.YtnjhmjkonmmomaaDoor.S
open Go.RowKit
open Go.Lib hiding intOf
open Go.Proofs.YtnjhmjkonmmomaaDoor.U Go.Proofs.YtnjhmjkonmmomaaDoor.L

def atOf (d : Nat) (w : World) : Nat := match w.cell? ⟨d, 2, none⟩ with
  | some (.int _ k) => k.toNat
  | _ => 0
theorem ScB.at {d : Nat} {s : ByteArray} {r : Bool} {i : Nat} {v : Value} {w : World} (h : ScB d s r i v w) : atOf d w = i := by unfold atOf; rw [h.c2]; rfl
theorem tk_end (s : ByteArray) : tkOf 5 (s.extract s.size (s.size + 0)) s.size (s.size + 0) = ⟨5, [], s.size, s.size⟩ := by
  unfold tkOf
  have h : (s.extract s.size (s.size + 0)).toList = [] := by rw [ext_list, tl_end s (Nat.le_refl _), List.take_nil]
  rw [h]; rfl
set_option maxHeartbeats 8000000 in
set_option maxRecDepth 20000 in
theorem scan_any (s : ByteArray) (w : World) (hs : s.size ≤ 1099511627776) (hT : Tabs w) :
    Calls Tryd.prog 22 #[.string s] w fun e w' => ∃ v, e = .returned v ∧ ToksIn w.heap.size w' (scanB (okB s) s.toList) v ∧ Below w.heap.size w w' := by
  have cR := right_any s w hs hT
  obtain ⟨r, hr⟩ : ∃ r, okB s = r := ⟨_, rfl⟩
  have HS0 : Hid (ScSt r s 0 []) := Lib.hid (scSt_start r s (fun h => by rw [hr]; exact h))
  rw [hr] at cR ⊢
  clear hr
  go_enter Tryd.func22, Tryd.ntmps22
  go_wp2_with fail
  refine cR.mono ?_
  rintro e w1 ⟨rfl, hb1⟩
  have HB1 := Lib.hid hb1
  clear cR hb1
  go_wp2_with fail
  obtain ⟨d, hd⟩ : ∃ d, w1.heap.size = d := ⟨_, rfl⟩
  obtain ⟨W0, hW0⟩ : ∃ W, w1.alloc (.cells #[.string s, .bool r, .int .i64 0, .slice none 0 0] 59) = W := ⟨_, rfl⟩
  have HB0 : Hid (ScB d s r ((0 : Nat) : Int) (.slice none 0 0) W0) := Lib.hid (by rw [← hd, ← hW0]; exact heap_alloc_new w1 _)
  have HL0 : Hid (Below d w1 W0) := Lib.hid (by rw [← hW0]; exact (Below.refl d w1).alloc (by omega) _)
  have hwd : w.heap.size ≤ d := by have := HB1.out.size; omega
  rw [hd, hW0]
  clear hW0 hd
  go_loopw [] (fun wr => ∃ (i : Nat) (O : List TokP) (v : Value), i ≤ s.size ∧ Hid (ScB d s r i v wr) ∧ Hid (Row d v O wr) ∧ Hid (ScSt r s i O) ∧ Hid (Mut (d + 1) d W0 wr)) (fun wr => s.size - atOf d wr)
  case atStart => exact ⟨0, [], _, Nat.zero_le _, HB0, Lib.hid (World.ownsRow_nil _ _ _ _), HS0, Lib.hid (Mut.refl _ _ _)⟩
  case round =>
    obtain ⟨i, O, v, hi, HB, HR, HS, HM⟩ := hrel
    clear HS0 HB0
    have h2 := HB.out.c2
    have hat := HB.out.at
    by_cases hlt : i < s.size
    · have cS := step_any d s r i v O wr HB.out HR.out HS.out hlt hs
      go_wp2_with fail
      refine cS.mono ?_
      rintro e w2 ⟨j, O2, hij, hjs, hS2, rfl, v2, hB2, hR2, hM2⟩
      have hat2 := hB2.at
      have HB2 := Lib.hid hB2
      have HR2 := Lib.hid hR2
      have HS2 := Lib.hid hS2
      have HM2 := Lib.hid (HM.out.trans hM2)
      clear cS hB2 hR2 hS2 hM2 h2
      go_wp2_with fail
      go_roundw
      case rel => exact ⟨j, O2, v2, hjs, HB2, HR2, HS2, HM2⟩
      case measure => rw [hat, hat2]; omega
    · obtain rfl : i = s.size := by omega
      have cM := mayEnd_any d s r s.size v O wr HB.out HR.out (by have := HS.out.few; omega)
      clear hat
      go_wp2_with fail
      refine cM.mono ?_
      rintro e w2 ⟨rfl, hb2⟩
      have HB2 := Lib.hid (HB.out.below hb2)
      have HR2 : Hid (Row d v O w2) := Lib.hid (owns_later HR.out hb2)
      have hdw := HB.out.lt
      have HM2 : Hid (Mut (d + 1) d W0 w2) := Lib.hid (HM.out.trans (Mut.of_below (⟨hb2.os, hb2.tape, hb2.output, hb2.size, fun k hk => hb2.block k (by omega)⟩ : Below (d + 1) wr w2)))
      have hfin : ∀ (w' : World), Mut (d + 1) d W0 w' → Below w.heap.size w w' := fun w' hm =>
        HB1.out.trans ((HL0.out.trans ((hm.mono (Nat.le_succ d)).below (Nat.le_refl d))).mono hwd)
      have HF := Lib.hid hfin
      clear cM hb2 h2 hfin
      cases hen : endL O
      · have HX : Hid (scanB r s.toList = O) := Lib.hid (by have h := HS.out.all; rw [scanAt_end, hen] at h; simpa using h)
        have h3 := HB2.out.c3
        clear hen
        go_wp2_with fail
        go_ret
        exact ⟨_, rfl, by rw [HX.out]; exact toks_row HR2.out rfl (by omega), HF.out _ HM2.out⟩
      · have HX : Hid (scanB r s.toList = O ++ [⟨5, [], s.size, s.size⟩]) := Lib.hid (by have h := HS.out.all; rw [scanAt_end, hen] at h; simpa using h)
        have cT := take_any d s r s.size 0 5 v O w2 HB2.out HR2.out (by have := HS.out.few; omega) hs (by omega)
        rw [tk_end] at cT
        clear hen
        go_wp2_with fail
        refine cT.mono ?_
        rintro e w3 ⟨rfl, v3, hB3, hR3, hM3⟩
        have h3 := hB3.c3
        have HR3 := Lib.hid hR3
        have HM3 := Lib.hid (HM2.out.trans hM3)
        clear cT hB3 hR3 hM3
        go_wp2_with fail
        go_ret
        exact ⟨_, rfl, by rw [HX.out]; exact toks_row HR3.out rfl (by omega), HF.out _ HM3.out⟩
end Go.Proofs.YtnjhmjkonmmomaaDoor.S
end
/- KScan: A program's words lie in memory of the call's own. -/
section
namespace Go.Proofs.YtnjhmjkonmmomaaDoor.S
open Go.RowKit
open Go.Lib hiding intOf
open Go.Proofs.YtnjhmjkonmmomaaDoor.U Go.Proofs.YtnjhmjkonmmomaaDoor.L
theorem owns_base {B B' n size : Nat} {e : TypeId} {v : Value} {xs : List Value} {W : World} (h : W.ownsRow B' e size v n xs) (hB : B ≤ B') : W.ownsRow B e size v n xs := by
  refine ⟨h.1, ?_⟩
  rcases h.2 with h | ⟨g, cap, cur, h1, h2, h3⟩
  · exact .inl h
  · exact .inr ⟨g, cap, cur, h1, Nat.le_trans hB h2, h3⟩
set_option maxHeartbeats 8000000 in
set_option maxRecDepth 20000 in
theorem scan_own (s : ByteArray) (w : World) (hs : s.size ≤ 1099511627776) (hT : Tabs w) :
    Calls Tryd.prog 22 #[.string s] w fun e w' => ∃ v, e = .returned v ∧ w'.ownsRow w.heap.size 44 4 v (scanB (okB s) s.toList).length (tokCs (scanB (okB s) s.toList)) ∧ Below w.heap.size w w' := by
  have cR := right_any s w hs hT
  obtain ⟨r, hr⟩ : ∃ r, okB s = r := ⟨_, rfl⟩
  have HS0 : Hid (ScSt r s 0 []) := Lib.hid (scSt_start r s (fun h => by rw [hr]; exact h))
  rw [hr] at cR ⊢
  clear hr
  go_enter Tryd.func22, Tryd.ntmps22
  go_wp2_with fail
  refine cR.mono ?_
  rintro e w1 ⟨rfl, hb1⟩
  have HB1 := Lib.hid hb1
  clear cR hb1
  go_wp2_with fail
  obtain ⟨d, hd⟩ : ∃ d, w1.heap.size = d := ⟨_, rfl⟩
  obtain ⟨W0, hW0⟩ : ∃ W, w1.alloc (.cells #[.string s, .bool r, .int .i64 0, .slice none 0 0] 59) = W := ⟨_, rfl⟩
  have HB0 : Hid (ScB d s r ((0 : Nat) : Int) (.slice none 0 0) W0) := Lib.hid (by rw [← hd, ← hW0]; exact heap_alloc_new w1 _)
  have HL0 : Hid (Below d w1 W0) := Lib.hid (by rw [← hW0]; exact (Below.refl d w1).alloc (by omega) _)
  have hwd : w.heap.size ≤ d := by have := HB1.out.size; omega
  rw [hd, hW0]
  clear hW0 hd
  go_loopw [] (fun wr => ∃ (i : Nat) (O : List TokP) (v : Value), i ≤ s.size ∧ Hid (ScB d s r i v wr) ∧ Hid (Row d v O wr) ∧ Hid (ScSt r s i O) ∧ Hid (Mut (d + 1) d W0 wr)) (fun wr => s.size - atOf d wr)
  case atStart => exact ⟨0, [], _, Nat.zero_le _, HB0, Lib.hid (World.ownsRow_nil _ _ _ _), HS0, Lib.hid (Mut.refl _ _ _)⟩
  case round =>
    obtain ⟨i, O, v, hi, HB, HR, HS, HM⟩ := hrel
    clear HS0 HB0
    have h2 := HB.out.c2
    have hat := HB.out.at
    by_cases hlt : i < s.size
    · have cS := step_any d s r i v O wr HB.out HR.out HS.out hlt hs
      go_wp2_with fail
      refine cS.mono ?_
      rintro e w2 ⟨j, O2, hij, hjs, hS2, rfl, v2, hB2, hR2, hM2⟩
      have hat2 := hB2.at
      have HB2 := Lib.hid hB2
      have HR2 := Lib.hid hR2
      have HS2 := Lib.hid hS2
      have HM2 := Lib.hid (HM.out.trans hM2)
      clear cS hB2 hR2 hS2 hM2 h2
      go_wp2_with fail
      go_roundw
      case rel => exact ⟨j, O2, v2, hjs, HB2, HR2, HS2, HM2⟩
      case measure => rw [hat, hat2]; omega
    · obtain rfl : i = s.size := by omega
      have cM := mayEnd_any d s r s.size v O wr HB.out HR.out (by have := HS.out.few; omega)
      clear hat
      go_wp2_with fail
      refine cM.mono ?_
      rintro e w2 ⟨rfl, hb2⟩
      have HB2 := Lib.hid (HB.out.below hb2)
      have HR2 : Hid (Row d v O w2) := Lib.hid (owns_later HR.out hb2)
      have hdw := HB.out.lt
      have HM2 : Hid (Mut (d + 1) d W0 w2) := Lib.hid (HM.out.trans (Mut.of_below (⟨hb2.os, hb2.tape, hb2.output, hb2.size, fun k hk => hb2.block k (by omega)⟩ : Below (d + 1) wr w2)))
      have hfin : ∀ (w' : World), Mut (d + 1) d W0 w' → Below w.heap.size w w' := fun w' hm =>
        HB1.out.trans ((HL0.out.trans ((hm.mono (Nat.le_succ d)).below (Nat.le_refl d))).mono hwd)
      have HF := Lib.hid hfin
      clear cM hb2 h2 hfin
      cases hen : endL O
      · have HX : Hid (scanB r s.toList = O) := Lib.hid (by have h := HS.out.all; rw [scanAt_end, hen] at h; simpa using h)
        have h3 := HB2.out.c3
        clear hen
        go_wp2_with fail
        go_ret
        exact ⟨_, rfl, by rw [HX.out]; exact owns_base HR2.out (by omega), HF.out _ HM2.out⟩
      · have HX : Hid (scanB r s.toList = O ++ [⟨5, [], s.size, s.size⟩]) := Lib.hid (by have h := HS.out.all; rw [scanAt_end, hen] at h; simpa using h)
        have cT := take_any d s r s.size 0 5 v O w2 HB2.out HR2.out (by have := HS.out.few; omega) hs (by omega)
        rw [tk_end] at cT
        clear hen
        go_wp2_with fail
        refine cT.mono ?_
        rintro e w3 ⟨rfl, v3, hB3, hR3, hM3⟩
        have h3 := hB3.c3
        have HR3 := Lib.hid hR3
        have HM3 := Lib.hid (HM2.out.trans hM3)
        clear cT hB3 hR3 hM3
        go_wp2_with fail
        go_ret
        exact ⟨_, rfl, by rw [HX.out]; exact owns_base HR3.out (by omega), HF.out _ HM3.out⟩
end Go.Proofs.YtnjhmjkonmmomaaDoor.S
end

/- The program's store in memory: what each operation on its map gives; New, Get. -/
import Derived.Test.YtccmicmlkgkheaaDoorDRep
import Derived.Test.YtccmicmlkgkheaaDoorDMap
namespace Go.Proofs.YtccmicmlkgkheaaDoor.D
open Go.RowKit
open Go.Lib hiding intOf
open Go.Proofs.YtccmicmlkgkheaaDoor.U Go.Proofs.YtccmicmlkgkheaaDoor.L Go.Proofs.YtccmicmlkgkheaaDoor.E

theorem strLaw : Maps.Keyed Tryd.prog 9 := Maps.string_keyed Tryd.underlying9
theorem zeroDoc (w : World) : (zeroValue 30).run Tryd.prog w = .ok (.agg #[.string ⟨#[]⟩, .int .i64 0, .string ⟨#[]⟩]) w := by kernel_rfl
def d0 : DocP := ⟨⟨#[]⟩, 0, ⟨#[]⟩⟩
/-- The program's store at p, whose map lies in the block y, if it has one. -/
structure PSt (p : Nat) (y : Option Nat) (l : List DocP) (W : World) : Prop where
  blk : W.heap[p]? = some (.cells #[.map y] 52 (0, 0))
  own : (y = none ∧ l = []) ∨ ∃ b D, y = some b ∧ W.ownsMap Tryd.prog 9 docElem b 8 D ∧ MapOf D l
/-- The store's own blocks. -/
def YY (p : Nat) (y : Option Nat) (k : Nat) : Prop := k = p ∨ y = some k
theorem PSt.lt {p : Nat} {y : Option Nat} {l : List DocP} {W : World} (h : PSt p y l W) : p < W.heap.size := (Array.getElem?_eq_some_iff.1 h.blk).1
theorem PSt.c0 {p : Nat} {y : Option Nat} {l : List DocP} {W : World} (h : PSt p y l W) : W.cell? ⟨p, 0, none⟩ = some (.map y) := by unfold World.cell?; rw [h.blk]; rfl
theorem PSt.f0 {p : Nat} {y : Option Nat} {l : List DocP} {W : World} (h : PSt p y l W) : W.frozen? ⟨p, 0, none⟩ = false := by unfold World.frozen?; rw [h.blk]; simp
theorem PSt.ylt {p : Nat} {y : Option Nat} {l : List DocP} {W : World} (h : PSt p y l W) {b : Nat} (hb : y = some b) : b < W.heap.size := by
  rcases h.own with ⟨h1, _⟩ | ⟨b2, D, h1, h2, _⟩
  · rw [h1] at hb; cases hb
  · rw [h1] at hb; cases hb; exact h2.lt
theorem PSt.yne {p : Nat} {y : Option Nat} {l : List DocP} {W : World} (h : PSt p y l W) : y ≠ some p := by
  intro e
  rcases h.own with ⟨h1, _⟩ | ⟨b2, D, h1, ⟨es, clock, hb, _⟩, _⟩
  · rw [h1] at e; cases e
  · rw [h1] at e; cases e; rw [h.blk] at hb; cases hb
theorem PSt.keep {p : Nat} {y : Option Nat} {l : List DocP} {W W' : World} {C : Nat} {X : Nat → Prop} (h : PSt p y l W) (hk : Keep C X W W') (hC : W.heap.size ≤ C) (hX : ∀ k, X k → ¬ YY p y k) : PSt p y l W' := by
  refine ⟨(hk.block p (by have := h.lt; omega) (fun hx => hX p hx (.inl rfl))).trans h.blk, ?_⟩
  rcases h.own with ⟨h1, h2⟩ | ⟨b, D, h1, h2, h3⟩
  · exact .inl ⟨h1, h2⟩
  · have hlt := h2.lt
    obtain ⟨es, clock, hb, r⟩ := h2
    exact .inr ⟨b, D, h1, ⟨es, clock, (hk.block b (by omega) (fun hx => hX b hx (.inr h1))).trans hb, r⟩, h3⟩
theorem PSt.later {p : Nat} {y : Option Nat} {l : List DocP} {W W' : World} (h : PSt p y l W) (hb : Below W.heap.size W W') : PSt p y l W' :=
  h.keep (Keep.of (X := fun _ => False) hb (Nat.le_refl _)) (Nat.le_refl _) (fun _ h => h.elim)
theorem owns_tight {w : World} {b n : Nat} {D : DataW Unit} (h : w.ownsMap Tryd.prog 9 docElem b n D) : w.ownsMap Tryd.prog 9 docElem b (Maps.size D) D := by
  obtain ⟨es, clock, hb, F, hs, rfl⟩ := h
  exact ⟨es, clock, hb, F, by simp [Maps.size, length_sorted], rfl⟩
theorem owns_strs {w : World} {b n : Nat} {D : DataW Unit} (h : w.ownsMap Tryd.prog 9 docElem b n D) : ∃ es, D = .map es ∧ ∀ p ∈ es, ∃ x, p.1 = Lit.string x := by
  obtain ⟨es, clock, hb, F, hs, rfl⟩ := h
  refine ⟨_, rfl, fun p hp => ?_⟩
  obtain ⟨x, hx, rfl⟩ := List.mem_map.1 (mem_sorted.1 hp)
  obtain ⟨z, hz⟩ := F.reads x hx
  obtain ⟨s, _, h2, _⟩ := Maps.keyOf_str Tryd.underlying9 (WideElems.rd_key hz)
  exact ⟨s, by rw [WideElems.rg_of hz]; exact h2⟩
theorem key_is {n : ByteArray} (hn : n.size ≤ 1000000) : keyOf Tryd.prog 9 (.string n) = some (kl n) := WideMaps.keyOf_string_mk Tryd.underlying9 (by unfold maxLen; omega)
/-- What a look-up gives. -/
def getL (l : List DocP) (n : ByteArray) : DocP := (findL l n).getD d0
theorem PSt.look {p : Nat} {y : Option Nat} {l : List DocP} {W : World} (h : PSt p y l W) {n : ByteArray} (hn : n.size ≤ 1000000) :
    (Instr.lookup 50 (.map y) (.string n) true).run Tryd.prog W = .ok (.tuple #[.agg #[.string (getL l n).n, .int .i64 (getL l n).v, .string (getL l n).t], .bool (findL l n).isSome]) W := by
  rcases h.own with ⟨rfl, rfl⟩ | ⟨b, D, rfl, h2, h3⟩
  · exact Maps.look_nil true strLaw Tryd.underlying50 (zeroDoc W) (key_is hn)
  · obtain ⟨v, ps, hrun, hv⟩ := h2.look_ok strLaw Tryd.underlying50 (zeroDoc W) (docElem_mk d0) (key_is hn)
    obtain ⟨d, rfl, hy⟩ := docElem_inv hv
    have hd : D.atKey (kl n) (docD d0) = docD d := congrArg Prod.fst hy
    rw [hrun, h3.has]
    unfold getL
    cases hf : findL l n with
    | none =>
      rw [h3.miss hf] at hd
      rw [← docD_inj hd]; rfl
    | some x =>
      rw [h3.fnd n x _ hf] at hd
      rw [← docD_inj hd]; rfl
theorem PSt.look1 {p : Nat} {y : Option Nat} {l : List DocP} {W : World} (h : PSt p y l W) {n : ByteArray} (hn : n.size ≤ 1000000) :
    (Instr.lookup 50 (.map y) (.string n) false).run Tryd.prog W = .ok (.agg #[.string (getL l n).n, .int .i64 (getL l n).v, .string (getL l n).t]) W := by
  rcases h.own with ⟨rfl, rfl⟩ | ⟨b, D, rfl, h2, h3⟩
  · exact Maps.look_nil false strLaw Tryd.underlying50 (zeroDoc W) (key_is hn)
  · obtain ⟨v, ps, hrun, hv⟩ := h2.lookup strLaw Tryd.underlying50 (zeroDoc W) (docElem_mk d0) (key_is hn)
    obtain ⟨d, rfl, hy⟩ := docElem_inv hv
    have hd : D.atKey (kl n) (docD d0) = docD d := congrArg Prod.fst hy
    rw [hrun]
    unfold getL
    cases hf : findL l n with
    | none =>
      rw [h3.miss hf] at hd
      rw [← docD_inj hd]; rfl
    | some x =>
      rw [h3.fnd n x _ hf] at hd
      rw [← docD_inj hd]; rfl
theorem PSt.len {p : Nat} {y : Option Nat} {l : List DocP} {W : World} (h : PSt p y l W) (hI : Inv l) (ty : TypeId) :
    (Builtin.len_ #[50] ty #[.map y]).run Tryd.prog W = .ok (.int .i64 (l.length : Nat)) W := by
  rcases h.own with ⟨rfl, rfl⟩ | ⟨b, D, rfl, h2, h3⟩
  · exact Maps.len_nil Tryd.underlying50 ty
  · rw [h2.len Tryd.underlying50 ty, h3.size hI (owns_strs h2)]
/-- One that is there gets in. -/
theorem PSt.store {p b : Nat} {l l' : List DocP} {W : World} (h : PSt p (some b) l W) (d : DocP) (hn : d.n.size ≤ 1000000) (hI : Inv l') (hm : ∀ D, MapOf D l → MapOf (D.put (kl d.n) (docD d)) l') :
    ∃ W', (Instr.mapUpdate 50 (.map (some b)) (.string d.n) (.agg #[.string d.n, .int .i64 d.v, .string d.t])).run Tryd.prog W = .ok () W' ∧ PSt p (some b) l' W' ∧ Keep W.heap.size (fun k => k = b) W W' := by
  rcases h.own with ⟨h1, _⟩ | ⟨b2, D, h1, h2, h3⟩
  · cases h1
  · cases h1
    obtain ⟨W', hrun, hown, hg⟩ := h2.update strLaw Tryd.underlying50 (by unfold maxLen; omega) (key_is hn) (docElem_mk d)
    have hne : b ≠ p := fun e => h.yne (by rw [e])
    have hk : Keep W.heap.size (fun k => k = b) W W' := ⟨hg.os, hg.tape, hg.output, hg.size, fun k hk hx => hg.block k hk (fun e => hx (by cases e; rfl))⟩
    refine ⟨W', hrun, ⟨(hk.block p h.lt (fun e => hne e.symm)).trans h.blk, .inr ⟨b, _, rfl, ?_, hm D h3⟩⟩, hk⟩
    have hm' := hm D h3
    exact (owns_tight hown).mono (by rw [hm'.size hI (owns_strs hown)]; exact hI.few)
/-- One goes. -/
theorem PSt.drop {p : Nat} {y : Option Nat} {l : List DocP} {W : World} (h : PSt p y l W) {n : ByteArray} (hn : n.size ≤ 1000000) (ty : TypeId) :
    ∃ W', (Builtin.delete_ #[50, 9] ty #[.map y, .string n]).run Tryd.prog W = .ok (.tuple #[]) W' ∧ PSt p y (cutL l n) W' ∧ Keep W.heap.size (fun k => y = some k) W W' := by
  have hblk := h.blk
  rcases h.own with ⟨rfl, rfl⟩ | ⟨b, D, rfl, h2, h3⟩
  · exact ⟨W, Maps.drop_nil strLaw Tryd.underlying50 (key_is hn) ty, ⟨hblk, .inl ⟨rfl, rfl⟩⟩, Keep.refl _ _ _⟩
  · obtain ⟨W', hrun, hown, hturn⟩ := h2.drop strLaw Tryd.underlying50 (key_is hn) ty
    have hg := hturn.grown
    have hne : b ≠ p := fun e => h.yne (by rw [e])
    have hk : Keep W.heap.size (fun k => some b = some k) W W' := ⟨hg.os, hg.tape, hg.output, hg.size, fun k hk hx => hg.block k hk (fun e => hx e.symm)⟩
    exact ⟨W', hrun, ⟨(hk.block p h.lt (fun e => hne (by cases e; rfl))).trans hblk, .inr ⟨b, _, rfl, hown, h3.cut n⟩⟩, hk⟩
/-- A new map. -/
theorem pst_made {p : Nat} {W : World} :
    ∀ W2, W2.heap[p]? = some (.cells #[.map (some W.heap.size)] 52 (0, 0)) → W2.heap[W.heap.size]? = some (.map #[] 0) → PSt p (some W.heap.size) [] W2 := fun W2 h1 h2 => by
  have hm := World.ownsMap_made W Tryd.prog 9 docElem
  obtain ⟨es, clock, hb, F, hs, hD⟩ := hm
  rw [(MapKept.heap_alloc W _).1] at hb
  cases hb
  exact ⟨h1, .inr ⟨_, .map [], rfl, ⟨#[], 0, h2, F, by simp, rfl⟩, mapOf_nil⟩⟩

/-- The cells of a document in a block of its own. -/
theorem sto_cells {W : World} {k : Nat} {a b c : Value} {t : TypeId} (h : W.heap[k]? = some (.cells #[a, b, c] t (0, 0))) :
    (W.cell? ⟨k, 0, none⟩ = some a ∧ W.cell? ⟨k, 1, none⟩ = some b ∧ W.cell? ⟨k, 2, none⟩ = some c) ∧ W.frozen? ⟨k, 0, none⟩ = false ∧ W.frozen? ⟨k, 1, none⟩ = false ∧ W.frozen? ⟨k, 2, none⟩ = false := by
  refine ⟨⟨?_, ?_, ?_⟩, ?_, ?_, ?_⟩ <;> first | (unfold World.cell?; rw [h]; rfl) | (unfold World.frozen?; rw [h]; simp)
/-- A document's result cell and one more result. -/
theorem results_doc {fn : Func} {p u : Tmp} (h : fn.results = #[.cell p 30, .tmp u]) {tmps : Array Value} {W : World} {q : Nat} {a b c : Value} (hp : tmps.getD p undef = .pointer (some ⟨q, 0, none⟩)) (hc : W.heap[q]? = some (.cells #[a, b, c] 30 (0, 0))) :
    (results fn tmps).run Tryd.prog W = .ok (.tuple #[.agg #[a, b, c], tmps.getD u undef]) W := by
  rw [results_cell_tmp h, hp]
  have hl := run_loadVar_row (P := Tryd.prog) W q 30 30 #[a, b, c] (0, 0) _ hc Tryd.underlying30 rfl (by kernel_rfl)
  simp [asAddr, Result.andThen, hl]
theorem set_row {W : World} {q : Nat} {a b c a' b' c' : Value} {t : TypeId} (h : W.heap[q]? = some (.cells #[a, b, c] t (0, 0))) :
    (((W.setCell ⟨q, 0, none⟩ a').setCell ⟨q, 1, none⟩ b').setCell ⟨q, 2, none⟩ c').heap[q]? = some (.cells #[a', b', c'] t (0, 0)) := by
  have hq : q < W.heap.size := (Array.getElem?_eq_some_iff.1 h).1
  simp [World.setCell, Array.getElem?_modify, h]

/-- How a call of the program's store ends. -/
def ProgPost (p : Nat) (y : Option Nat) (r : List DocP × Int) (w : World) (e : Ending) (w' : World) : Prop :=
  e = .returned (.int .i64 r.2) ∧ Keep w.heap.size (YY p y) w w' ∧ ∃ y', (y' = y ∨ (y = none ∧ ∃ b, y' = some b ∧ w.heap.size ≤ b)) ∧ PSt p y' r.1 w'

set_option maxRecDepth 20000 in
theorem snew_any (w : World) : Calls Tryd.prog 7 #[] w fun e w' => e = .returned (.pointer (some ⟨w.heap.size, 0, none⟩)) ∧ PSt w.heap.size none [] w' ∧ Below w.heap.size w w' := by
  go_enter Tryd.func7, Tryd.ntmps7
  go_wp2_with fail
  go_ret
  exact ⟨rfl, ⟨heap_alloc_new _ _, .inl ⟨rfl, rfl⟩⟩, (Below.refl _ _).alloc (Nat.le_refl _) _⟩
set_option maxRecDepth 20000 in
set_option maxHeartbeats 4000000 in
theorem get_any (p : Nat) (y : Option Nat) (l : List DocP) (n : ByteArray) (w : World) (h : PSt p y l w) (hn : n.size ≤ 1000000) :
    Calls Tryd.prog 10 #[.pointer (some ⟨p, 0, none⟩), .string n] w fun e w' => e = .returned (.tuple #[.agg #[.string (getL l n).n, .int .i64 (getL l n).v, .string (getL l n).t], .bool (findL l n).isSome]) ∧ Below w.heap.size w w' := by
  obtain ⟨W, hW⟩ : ∃ W, w.alloc (.cells #[.string ⟨#[]⟩, .int .i64 0, .string ⟨#[]⟩] 30) = W := ⟨_, rfl⟩
  have hbw : Below w.heap.size w W := by rw [← hW]; exact (Below.refl _ _).alloc (Nat.le_refl _) _
  have h1 := h.later hbw
  have p0 := h1.c0
  have hlk := h1.look hn
  have hx : W.heap[w.heap.size]? = some (.cells #[.string ⟨#[]⟩, .int .i64 0, .string ⟨#[]⟩] 30 (0, 0)) := by rw [← hW]; exact heap_alloc_new _ _
  have hz : w.heap.size < W.heap.size := (Array.getElem?_eq_some_iff.1 hx).1
  obtain ⟨⟨x0, x1, x2⟩, g0, g1, g2⟩ := sto_cells hx
  generalize getL l n = d at hlk ⊢
  generalize (findL l n).isSome = b at hlk ⊢
  have HBW := Lib.hid hbw
  clear h h1 hbw hn
  go_enter Tryd.func10, Tryd.ntmps10
  go_wp2_with fail
  refine bodyPost_ret (v := .tuple #[.agg #[.string d.n, .int .i64 d.v, .string d.t], .bool b]) ((results_doc (fn := Tryd.f10) (p := 4) (u := 5) (by rfl) (by rfl) (((MapKept.heap_alloc _ _).2 w.heap.size (by simpa using hz)).trans (set_row hx))).trans rfl) rfl ?_
  exact ⟨rfl, ((((HBW.out.setCell (Nat.le_refl _) _).setCell (Nat.le_refl _) _).setCell (Nat.le_refl _) _).alloc (by simp; omega) _)⟩
end Go.Proofs.YtccmicmlkgkheaaDoor.D

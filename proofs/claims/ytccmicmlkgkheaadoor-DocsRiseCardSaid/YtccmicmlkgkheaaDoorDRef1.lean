/- The contracts of the document's own newer and put. -/
import Derived.Test.YtccmicmlkgkheaaDoorDRep
import Derived.Laws.OwnMore
import Derived.OwnWalk
import Derived.Laws.AppendOwn
import Derived.Maps.AppendAt
namespace Go.Proofs.YtccmicmlkgkheaaDoor.D
open Go.RowKit
open Go.Lib hiding intOf
open Go.Proofs.YtccmicmlkgkheaaDoor.U Go.Proofs.YtccmicmlkgkheaaDoor.L Go.Proofs.YtccmicmlkgkheaaDoor.E

def newerL (l : List DocP) (n : ByteArray) (v : Int) : Int × Int :=
  match findL l n with
  | none => (0, 72)
  | some d => if v ≤ d.v then (0, 71) else (fndD l n 0, 0)
set_option maxHeartbeats 2000000 in
set_option maxRecDepth 20000 in
theorem newer_any (B q : Nat) (l : List DocP) (v : Value) (n : ByteArray) (ver : Int) (w : World) (h : Sto B q l v w) (hl : l.length ≤ 1000000) :
    Calls Tryd.prog 33 #[.pointer (some ⟨q, 0, none⟩), .string n, .int .i64 ver] w fun e w' => e = .returned (.tuple #[.int .i64 (newerL l n ver).1, .int .i64 (newerL l n ver).2]) ∧ w' = w := by
  have cF := find_any B q l v n w h hl
  have h0 := h.c0
  obtain ⟨a, cap, rfl, hcap, hc⟩ := h.row
  rcases fndD_or n l 0 with ⟨h1, h2⟩ | ⟨j, hj, h2, h1, h5, h6⟩
  · have hR : newerL l n ver = (0, 72) := by unfold newerL; rw [h1]
    rw [hR]
    rw [h2] at cF
    clear hR h1 h2 h hc
    go_enter Tryd.func33, Tryd.ntmps33
    go_wp2_with fail
    refine cF.mono ?_
    rintro e w1 ⟨rfl, hw⟩
    replace hw := hw.symm
    subst hw
    go_wp2_with fail
    go_ret2
    exact ⟨rfl, rfl⟩
  · obtain ⟨g, off, rfl, _, _, hat⟩ := hc.resolve_left (fun h => by rw [h] at hj; exact Nat.not_lt_zero _ hj)
    obtain ⟨p0, p1, p2⟩ := doc_at j hat hj
    rw [Nat.zero_add] at h2
    rw [h2] at cF
    have hR : newerL l n ver = if ver ≤ l[j].v then (0, 71) else ((j : Int), 0) := by unfold newerL; rw [h1, h2]
    obtain ⟨R, hRR⟩ : ∃ R, newerL l n ver = R := ⟨_, rfl⟩
    rw [hRR] at hR ⊢
    generalize l[j].v = y at p1 hR
    have hcs : (ver ≤ y ∧ R = (0, 71)) ∨ (¬ ver ≤ y ∧ R = ((j : Int), 0)) := by
      by_cases h : ver ≤ y
      · rw [if_pos h] at hR; exact .inl ⟨h, hR⟩
      · rw [if_neg h] at hR; exact .inr ⟨h, hR⟩
    have hjm : j < l.length := hj
    clear h5 h6
    have hn0 : ¬ ((j : Int) < 0) := by omega
    clear hR hRR h1 h2 h hc hat p0 p2 hj
    generalize l.length = m at hjm hl h0 hcap
    rcases hcs with ⟨h1, rfl⟩ | ⟨h1, rfl⟩
    all_goals
      go_enter Tryd.func33, Tryd.ntmps33
      go_wp2_with fail
      refine cF.mono ?_
      rintro e w1 ⟨rfl, hw⟩
      replace hw := hw.symm
      subst hw
      go_wp2_with fail
      go_ret2
      exact ⟨rfl, rfl⟩

theorem infoDoc : (Tryd.prog.info? 30).map (fun i => (i.zero, i.size, i.bytes)) = some (some (.agg #[.string ⟨#[]⟩, .int .i64 0, .string ⟨#[]⟩]), 3, 40) := by kernel_rfl
/-- A row of its own that is not empty. -/
theorem row_some {w : World} {B n size : Nat} {e : TypeId} {v : Value} {xs : List Value} (h : w.ownsRow B e size v n xs) (hn : 0 < n) : ∃ g c, v = .slice (some ⟨g, 0, none⟩) n c ∧ n ≤ c ∧ B ≤ g ∧ g < w.heap.size := by
  rcases h.2 with ⟨_, h0⟩ | ⟨g, cap, cur, rfl, _, _, hc, _⟩
  · have := h.1; omega
  · have := h.lt g rfl
    exact ⟨g, cap, rfl, hc, this.1, this.2⟩
theorem docCs_set : ∀ (l : List DocP) (i : Nat) (hi : i < l.length) (v : Int) (t : ByteArray), ((docCs l).set (i * 3 + 1) (.int .i64 v)).set (i * 3 + 2) (.string t) = docCs (l.set i ⟨l[i].n, v, t⟩)
  | [], i, hi, _, _ => by simp at hi
  | d :: r, 0, hi, v, t => by simp [docCs, docC]
  | d :: r, i + 1, hi, v, t => by
    have := docCs_set r i (by simpa using hi) v t
    have e1 : (i + 1) * 3 + 1 = i * 3 + 1 + 3 := by omega
    have e2 : (i + 1) * 3 + 2 = i * 3 + 2 + 3 := by omega
    rw [e1, e2]
    show ((Value.string d.n :: .int .i64 d.v :: .string d.t :: docCs r).set (i * 3 + 1 + 3) (.int .i64 v)).set (i * 3 + 2 + 3) (.string t) = Value.string d.n :: .int .i64 d.v :: .string d.t :: docCs (r.set i ⟨(r[i]'(by simpa using hi)).n, v, t⟩)
    rw [← this]; rfl
/-- A row of documents of its own, as a list of documents. -/
theorem docs_of_row {w : World} {B B' n c g : Nat} {l : List DocP} (h : w.ownsRow B' 30 3 (.slice (some ⟨g, 0, none⟩) n c) n (docCs l)) (hn : l.length = n) (hc : n ≤ c) (hB : B ≤ g) : DocsIn B w l (.slice (some ⟨g, 0, none⟩) n c) := by
  refine ⟨_, c, by rw [hn], by omega, .inr ⟨g, 0, rfl, hB, (h.lt g rfl).2, fun j u hj => ?_⟩⟩
  have hj2 := (List.getElem?_eq_some_iff.1 hj).1
  rw [docCs_length] at hj2
  rw [Nat.zero_add, h.cellAt j (by omega)]
  exact hj
theorem plain_cells : ∀ (l : List DocP), ∀ u ∈ docCs l, u.oneCell' = true
  | [], u, h => by simp [docCs] at h
  | d :: r, u, h => by
    simp only [docCs, List.mem_append] at h
    rcases h with h | h
    · simp only [docC, List.mem_cons, List.not_mem_nil, or_false] at h
      rcases h with rfl | rfl | rfl <;> rfl
    · exact plain_cells r u h
set_option maxHeartbeats 4000000 in
set_option maxRecDepth 20000 in
theorem put_any (B q i : Nat) (l : List DocP) (v : Value) (ver : Int) (t : ByteArray) (w : World) (h : Sto B q l v w) (hl : l.length ≤ 1000000) (hi : i < l.length) (hB : B ≤ w.heap.size) :
    Calls Tryd.prog 35 #[.pointer (some ⟨q, 0, none⟩), .int .i64 i, .int .i64 ver, .string t] w fun e w' => e = .returned (.int .i64 0) ∧ Keep w.heap.size (fun k => k = q) w w' ∧ ∃ v', Sto B q (l.set i ⟨l[i].n, ver, t⟩) v' w' := by
  obtain ⟨i0, hi0, hz0, hz1, hz2⟩ := info_parts infoDoc
  obtain ⟨W1, hW1⟩ : ∃ W, w.alloc (.cells #[] 30) = W := ⟨_, rfl⟩
  have hb1 : Below w.heap.size w W1 := by rw [← hW1]; exact (Below.refl _ _).alloc (Nat.le_refl _) _
  have hrow : W1.ownsRow w.heap.size 30 3 (.slice (some ⟨w.heap.size, 0, none⟩) 0 0) 0 [] := by
    rw [← hW1]; exact World.ownsRow_lit (base := w.heap.size) (e := 30) (size := 3) w #[] 0 (Nat.le_refl _) (by decide) rfl
  have h1 := h.later hb1
  have hlow := h.low
  have h0 := h1.c0
  obtain ⟨a, cap, rfl, hcap, hc⟩ := h1.row
  obtain ⟨g, off, rfl, hBg, hg, hat⟩ := hc.resolve_left (fun h => by rw [h] at hi; exact Nat.not_lt_zero _ hi)
  have HAT := Lib.hid hat
  have HRW := Lib.hid hrow
  have HH := Lib.hid h1
  have HB1 := Lib.hid hb1
  have hz1' := hb1.size
  obtain ⟨L', hL'⟩ : ∃ L', l.set i ⟨l[i].n, ver, t⟩ = L' := ⟨_, rfl⟩
  have HL' : Hid (((docCs l).set (i * 3 + 1) (.int .i64 ver)).set (i * 3 + 2) (.string t) = docCs L' ∧ L'.length = l.length) := Lib.hid ⟨by rw [← hL']; exact docCs_set l i hi ver t, by rw [← hL']; simp⟩
  rw [hL']
  obtain ⟨n, hn⟩ : ∃ n, l.length = n := ⟨_, rfl⟩
  have HN := Lib.hid hn
  have hnews : (docCs l).length = n * 3 := by rw [docCs_length, hn]; omega
  rw [hn] at hl hi h0 hcap
  clear h hc hat hrow h1 hb1 hL' hn
  go_enter Tryd.func35, Tryd.ntmps35
  go_wp2_with (at_builtin; refine wpList_append_own _ rfl _ _ 26 rfl w.heap.size 30 i0 (.agg #[.string ⟨#[]⟩, .int .i64 0, .string ⟨#[]⟩]) 3 40 Tryd.underlying26 hi0 hz0 hz1 hz2 rfl (by decide) _ _ _ rfl HRW.out ⟨g, off, none⟩ n cap (docCs l) rfl hnews ?c1 ?c2 ?c3 ?c4 ?c5 ?_)
  case c1 => exact fun j u hj => by rw [Addr.add_lit]; exact HAT.out j u hj
  case c2 => exact plain_cells l
  case c3 => unfold maxLen; omega
  case c4 => omega
  case c5 => exact hz1'
  intro v1 w2 hv1 hg1 _
  obtain ⟨g1, c1, rfl, hc1, hg1B, hg1z⟩ := row_some hv1 (by omega)
  have hq2 : w2.heap[q]? = W1.heap[q]? := hg1.block q (by have := HH.out.lt; omega) (fun e => by have := Option.some.inj (show some q = some w.heap.size from e); omega)
  have hblk2 : w2.heap[q]? = some (.cells #[.slice (some ⟨g, off, none⟩) n cap] 28 (0, 0)) := by
    rw [hq2]; have := HH.out.blk; rw [HN.out] at this; exact this
  have k0 : w2.cell? ⟨q, 0, none⟩ = some (.slice (some ⟨g, off, none⟩) n cap) := by unfold World.cell?; rw [hblk2]; rfl
  have k0f : w2.frozen? ⟨q, 0, none⟩ = false := by unfold World.frozen?; rw [hblk2]; simp
  have hlen : (docCs l).length = n * 3 := hnews
  obtain ⟨o1, k1⟩ : ∃ o, w2.cell? ⟨g1, i * 3 + 1, none⟩ = some o := ⟨(docCs l)[i * 3 + 1]'(by omega), by rw [hv1.cellAt _ (by omega), List.getElem?_eq_getElem (by omega)]⟩
  obtain ⟨o2, k2⟩ : ∃ o, w2.cell? ⟨g1, i * 3 + 2, none⟩ = some o := ⟨(docCs l)[i * 3 + 2]'(by omega), by rw [hv1.cellAt _ (by omega), List.getElem?_eq_getElem (by omega)]⟩
  have k1f := hv1.frozenAt (i * 3 + 1)
  have k2f := hv1.frozenAt (i * 3 + 2)
  have hne : ¬ g1 = q := by omega
  have HV1 := Lib.hid hv1
  have HG1 := Lib.hid hg1
  have HBLK := Lib.hid hblk2
  have HQW : Hid (q < w.heap.size) := Lib.hid (by omega)
  clear hv1 hg1 hq2 hblk2 hlen
  go_wp2_with fail
  go_ret
  have hq := HQW.out
  refine ⟨rfl, ?_, .slice (some ⟨g1, 0, none⟩) n c1, ?_, ?_, hlow⟩
  · have kk : Keep w.heap.size (fun k => k = q) W1 w2 := ⟨HG1.out.os, HG1.out.tape, HG1.out.output, HG1.out.size, fun k hk _ => HG1.out.block k (by omega) (fun e => by have := Option.some.inj (show some k = some w.heap.size from e); omega)⟩
    exact ((((Keep.of HB1.out (Nat.le_refl _)).trans kk).set (p := ⟨g1, i * 3 + 1, none⟩) (.inr hg1B) _).set (p := ⟨g1, i * 3 + 2, none⟩) (.inr hg1B) _).set (p := ⟨q, 0, none⟩) (.inl rfl) _
  · refine Go.Joins.block_setCell (i := 0) (cs := #[.slice (some ⟨g, off, none⟩) n cap]) ?_ _
    rw [Below.heap_setCell _ _ _ _ (fun e => hne e.symm), Below.heap_setCell _ _ _ _ (fun e => hne e.symm)]
    exact HBLK.out
  · have hs1 := (HV1.out.stored (i * 3 + 1) (.int .i64 ver)).1
    have hs2 := (hs1.stored (i * 3 + 2) (.string t)).1
    rw [HL'.out.1] at hs2
    have hs3 := ownsRow_setCell_below hs2 (a := ⟨q, 0, none⟩) hq (.slice (some ⟨g1, 0, none⟩) n c1)
    exact docs_of_row hs3 (by rw [HL'.out.2, HN.out]) hc1 (by omega)
end Go.Proofs.YtccmicmlkgkheaaDoor.D

/- The contract of the document's own Close of layer 7. -/
import Derived.Test.YtccmicmlkgkheaaDoorDRef3
namespace Go.Proofs.YtccmicmlkgkheaaDoor.D
open Go.RowKit
open Go.Lib hiding intOf
open Go.Proofs.YtccmicmlkgkheaaDoor.U Go.Proofs.YtccmicmlkgkheaaDoor.L Go.Proofs.YtccmicmlkgkheaaDoor.E

theorem sizeDoc (W : World) : (sizeOf (Tryd.prog.elem 26)).run Tryd.prog W = .ok 3 W := by
  rw [show Tryd.prog.elem 26 = 30 by kernel_rfl]
  obtain ⟨i0, hi0, _, hz1, _⟩ := info_parts infoDoc
  rw [run_sizeOf (w := W) hi0]
  have : Tryd.prog.cellsOf 30 = 3 := by kernel_rfl
  rw [this]
set_option maxRecDepth 20000 in
theorem cut_low (g off n c i : Nat) (hi : i ≤ c) : ∀ W, (Instr.slice 26 (.slice (some ⟨g, off, none⟩) n c) none (some (.int .i64 i)) none).run Tryd.prog W = .ok (.slice (some ⟨g, off, none⟩) i c) W := fun W => by
  rw [run_slice_h (P := Tryd.prog) (w := W) 26 _ n c Tryd.underlying26 .i64 i (by omega) (by omega), sizeDoc]
  simp only [Result.andThen, sliced, Int.toNat_natCast, Nat.sub_zero, Option.map_some, Addr.add_lit, Nat.zero_mul, Nat.add_zero, ite_self]
set_option maxRecDepth 20000 in
/-- Cut from a place on: what stands there. -/
theorem cut_high (g off n c i : Nat) (hi : i ≤ n) (hc : n ≤ c) : ∃ ad : Addr, (∀ W, (Instr.slice 26 (.slice (some ⟨g, off, none⟩) n c) (some (.int .i64 i)) none none).run Tryd.prog W = .ok (.slice (some ad) (n - i) (c - i)) W) ∧ (i < n → ad = ⟨g, off + i * 3, none⟩) := by
  refine ⟨if c = i then ⟨g, off, none⟩ else ⟨g, off + i * 3, none⟩, fun W => ?_, fun h => by rw [if_neg (by omega)]⟩
  rw [run_slice_l (P := Tryd.prog) (w := W) 26 _ n c Tryd.underlying26 .i64 i (by omega) (by omega), sizeDoc]
  simp only [Result.andThen, sliced, Int.toNat_natCast, Option.map_some, Addr.add_lit]
  by_cases h : c = i <;> simp [h]
theorem cutL_set {l : List DocP} (h : Inv l) {j : Nat} (hj : j < l.length) {n : ByteArray} (hn : l[j].n = n) : cutL l n = l.take j ++ l.drop (j + 1) := by
  have key := List.pairwise_iff_getElem.1 h.rise
  have h1 : ∀ d ∈ l.take j, d.n ≠ n := fun d hd => by
    obtain ⟨k, hk, rfl⟩ := List.getElem_of_mem hd
    rw [List.length_take] at hk
    rw [List.getElem_take, ← hn]
    exact bl_ne (key k j (by omega) hj (by omega))
  have h2 : ∀ d ∈ l.drop (j + 1), d.n ≠ n := fun d hd => by
    obtain ⟨k, hk, rfl⟩ := List.getElem_of_mem hd
    rw [List.length_drop] at hk
    rw [List.getElem_drop, ← hn]
    exact fun e => bl_ne (key j (j + 1 + k) hj (by omega) (by omega)) e.symm
  have e : cutL l n = cutL (l.take j ++ l[j] :: l.drop (j + 1)) n := by rw [← List.drop_eq_getElem_cons hj, List.take_append_drop]
  rw [e]
  unfold cutL
  rw [List.filter_append, List.filter_cons_of_neg (by simp [hn]), List.filter_eq_self.2 (fun d hd => by simpa using h1 d hd), List.filter_eq_self.2 (fun d hd => by simpa using h2 d hd)]
/-- A row of documents of its own, also an empty one. -/
theorem docs_row {w : World} {B B' n : Nat} {l : List DocP} {v : Value} (h : w.ownsRow B' 30 3 v n (docCs l)) (hn : l.length = n) (hB : B ≤ B') : DocsIn B w l v := by
  rcases Nat.eq_zero_or_pos n with h0 | h0
  · have hl : l = [] := List.length_eq_zero_iff.1 (hn.trans h0)
    rcases h.2 with ⟨rfl, _⟩ | ⟨g, cap, cur, rfl, _⟩
    · exact ⟨none, 0, by rw [hl]; rfl, by rw [hl]; simp, .inl hl⟩
    · exact ⟨_, cap, by rw [hn], by rw [hl]; simp, .inl hl⟩
  · obtain ⟨g, c, rfl, hc, hg, _⟩ := row_some h h0
    exact docs_of_row h hn hc (by omega)

set_option maxHeartbeats 4000000 in
set_option maxRecDepth 20000 in
theorem close_any (B q : Nat) (l : List DocP) (v : Value) (n : ByteArray) (w : World) (h : Sto B q l v w) (hI : Inv l) (hB : B ≤ w.heap.size) :
    Calls Tryd.prog 23 #[.pointer (some ⟨q, 0, none⟩), .string n] w (RefPost B q (closeL l n) w) := by
  have hl : l.length ≤ 1000000 := by have := hI.few; omega
  have cF := find_any B q l v n w h hl
  have hlow := h.low
  rcases fndD_or n l 0 with ⟨h1, h2⟩ | ⟨j, hj, h2, h1, h3, _⟩
  · have hR : closeL l n = (l, 72) := by unfold closeL; rw [h1]; simp
    rw [hR]
    rw [h2] at cF
    have HH := Lib.hid h
    clear hR h1 h2 h
    go_enter Tryd.func23, Tryd.ntmps23
    go_wp2_with fail
    refine cF.mono ?_
    rintro e w1 ⟨rfl, hw⟩
    replace hw := hw.symm
    subst hw
    go_wp2_with fail
    go_ret
    exact ⟨rfl, Keep.refl _ _ _, v, HH.out⟩
  · have hR : closeL l n = (l.take j ++ l.drop (j + 1), 0) := by unfold closeL; rw [h1]; simp only [Option.isSome_some, if_true]; rw [cutL_set hI hj h3]
    rw [hR]
    rw [Nat.zero_add] at h2
    rw [h2] at cF
    obtain ⟨i0, hi0, hz0, hz1, hz2⟩ := info_parts infoDoc
    obtain ⟨W1, hW1⟩ : ∃ W, w.alloc (.cells #[] 30) = W := ⟨_, rfl⟩
    have hb1 : Below w.heap.size w W1 := by rw [← hW1]; exact (Below.refl _ _).alloc (Nat.le_refl _) _
    have hrow : W1.ownsRow w.heap.size 30 3 (.slice (some ⟨w.heap.size, 0, none⟩) 0 0) 0 [] := by
      rw [← hW1]; exact World.ownsRow_lit (base := w.heap.size) (e := 30) (size := 3) w #[] 0 (Nat.le_refl _) (by decide) rfl
    have h1' := h.later hb1
    have h0 := h1'.c0
    obtain ⟨a, cap, rfl, hcap, hc⟩ := h1'.row
    obtain ⟨g, off, rfl, hBg, hg, hat⟩ := hc.resolve_left (fun h => by rw [h] at hj; exact Nat.not_lt_zero _ hj)
    have hgw : g < w.heap.size := by
      obtain ⟨a', cap', e', _, hc'⟩ := h.row
      obtain ⟨g', off', e2, _, hg', _⟩ := hc'.resolve_left (fun h => by rw [h] at hj; exact Nat.not_lt_zero _ hj)
      subst e2
      simp only [Value.slice.injEq, Option.some.injEq, Addr.mk.injEq] at e'
      omega
    have q1 := cut_low g off l.length cap j (by omega)
    obtain ⟨ad, q2, had⟩ := cut_high g off l.length cap (j + 1) (by omega) hcap
    replace q2 : ∀ W, (Instr.slice 26 (.slice (some ⟨g, off, none⟩) l.length cap) (some (.int .i64 ((j : Int) + 1))) none none).run Tryd.prog W = .ok (.slice (some ad) (l.length - (j + 1)) (cap - (j + 1))) W := fun W => by
      have := q2 W
      rwa [show ((j + 1 : Nat) : Int) = (j : Int) + 1 by omega] at this
    have split : docCs l = docCs (l.take j) ++ docCs (l.drop j) := by rw [← docCs_app, List.take_append_drop]
    have hlow1 : ∀ k u, (docCs (l.take j))[k]? = some u → W1.cell? ⟨g, off + k, none⟩ = some u := fun k u hk => hat k u (by
      rw [split, List.getElem?_append_left (List.getElem?_eq_some_iff.1 hk).1]; exact hk)
    have hhigh : ∀ k u, (docCs (l.drop (j + 1)))[k]? = some u → ad = ⟨g, off + (j + 1) * 3, none⟩ ∧ W1.cell? ⟨g, off + (j + 1) * 3 + k, none⟩ = some u := fun k u hk => by
      have hk2 := (List.getElem?_eq_some_iff.1 hk).1
      rw [docCs_length, List.length_drop] at hk2
      refine ⟨had (by omega), ?_⟩
      have e : docCs l = docCs (l.take (j + 1)) ++ docCs (l.drop (j + 1)) := by rw [← docCs_app, List.take_append_drop]
      have hz := docCs_length (l.take (j + 1))
      rw [List.length_take] at hz
      have := hat ((j + 1) * 3 + k) u (by rw [e, List.getElem?_append_right (by omega), show (j + 1) * 3 + k - (docCs (l.take (j + 1))).length = k by omega]; exact hk)
      rw [← Nat.add_assoc] at this; exact this
    have hn1 : (docCs (l.take j)).length = j * 3 := by rw [docCs_length, List.length_take]; omega
    have hn2 : (docCs (l.drop (j + 1))).length = (l.length - (j + 1)) * 3 := by rw [docCs_length, List.length_drop]; omega
    have hp1 := plain_cells (l.take j)
    have hp2 := plain_cells (l.drop (j + 1))
    have HAPP : Hid (docCs (l.take j) ++ docCs (l.drop (j + 1)) = docCs (l.take j ++ l.drop (j + 1)) ∧ (l.take j ++ l.drop (j + 1)).length = j + (l.length - (j + 1))) := Lib.hid ⟨(docCs_app _ _).symm, by rw [List.length_append, List.length_take, List.length_drop]; omega⟩
    generalize l.take j ++ l.drop (j + 1) = L' at HAPP ⊢
    generalize docCs (l.take j) = C1 at hlow1 hn1 hp1 HAPP
    generalize docCs (l.drop (j + 1)) = C2 at hhigh hn2 hp2 HAPP
    have HRW := Lib.hid hrow
    have HB1 := Lib.hid hb1
    have hz1' := hb1.size
    have hW1z : W1.heap.size = w.heap.size + 1 := by rw [← hW1]; simp
    have HW1Z := Lib.hid hW1z
    have HLOW := Lib.hid hlow1
    have HHIGH := Lib.hid hhigh
    have HQB := Lib.hid h1'.blk
    have hjm : j < l.length := hj
    have hjn : ¬ ((j : Int) < 0) := by omega
    clear hat hc split hlow1 hhigh hrow hb1 h1 h2 h3 hR h1' had hW1z
    generalize l.length = m at cF h0 hcap hjm hl q1 q2 hn2 HAPP HQB
    clear h
    go_enter Tryd.func23, Tryd.ntmps23
    go_wp2_with fail
    refine cF.mono ?_
    rintro e w1 ⟨rfl, hw⟩
    replace hw := hw.symm
    subst hw
    go_wp2_with (at_builtin; refine wpList_append_own _ rfl _ _ 26 rfl w.heap.size 30 i0 (.agg #[.string ⟨#[]⟩, .int .i64 0, .string ⟨#[]⟩]) 3 40 Tryd.underlying26 hi0 hz0 hz1 hz2 rfl (by decide) _ _ _ rfl HRW.out ⟨g, off, none⟩ j cap C1 rfl hn1 ?c1 hp1 ?c3 ?c4 hz1' ?_)
    case c1 => exact fun k u hk => by rw [Addr.add_lit]; exact HLOW.out k u hk
    case c3 => unfold maxLen; omega
    case c4 => omega
    intro v1 w2 hv1 hg1 _
    have hq2 : w2.heap[q]? = some (.cells #[.slice (some ⟨g, off, none⟩) m cap] 28 (0, 0)) := (hg1.block q (by have := HW1Z.out; omega) (fun e => by have := Option.some.inj (show some q = some w.heap.size from e); omega)).trans HQB.out
    have k0 : w2.cell? ⟨q, 0, none⟩ = some (.slice (some ⟨g, off, none⟩) m cap) := by unfold World.cell?; rw [hq2]; rfl
    have hg2 : w2.heap[g]? = W1.heap[g]? := hg1.block g (by have := HW1Z.out; omega) (fun e => by have := Option.some.inj (show some g = some w.heap.size from e); omega)
    have HHIGH2 : Hid (∀ k u, C2[k]? = some u → w2.cell? (ad.add k) = some u) := Lib.hid fun k u hk => by
      obtain ⟨e1, e2⟩ := HHIGH.out k u hk
      rw [e1, Addr.add_lit]
      unfold World.cell? at e2 ⊢
      rw [hg2]; exact e2
    have HV1 := Lib.hid hv1
    have HG1 := Lib.hid hg1
    have HQ2 := Lib.hid hq2
    clear hv1 hg1 hq2 hg2
    go_wp2_with (at_builtin; refine wpList_append_own _ rfl _ _ 26 rfl w.heap.size 30 i0 (.agg #[.string ⟨#[]⟩, .int .i64 0, .string ⟨#[]⟩]) 3 40 Tryd.underlying26 hi0 hz0 hz1 hz2 rfl (by decide) _ _ _ rfl HV1.out ad (m - (j + 1)) (cap - (j + 1)) C2 rfl hn2 HHIGH2.out hp2 ?c3 ?c4 ?c5 ?_)
    case c3 => unfold maxLen; omega
    case c4 => omega
    case c5 => have := HG1.out.size; omega
    intro v2 w3 hv2 hg3 _
    obtain ⟨a2, c2, rfl⟩ := owns_len hv2
    have hne : q ≠ w.heap.size := by omega
    have hv1b : ∀ k, v1.ownBlock = some k → w.heap.size ≤ k := fun k hk => (HV1.out.lt k hk).1
    have hq3 : w3.heap[q]? = some (.cells #[.slice (some ⟨g, off, none⟩) m cap] 28 (0, 0)) := (hg3.block q (by have := (Array.getElem?_eq_some_iff.1 HQ2.out).1; omega) (fun e => by have := hv1b q e.symm; omega)).trans HQ2.out
    have k3 : w3.cell? ⟨q, 0, none⟩ = some (.slice (some ⟨g, off, none⟩) m cap) := by unfold World.cell?; rw [hq3]; rfl
    have k3f : w3.frozen? ⟨q, 0, none⟩ = false := by unfold World.frozen?; rw [hq3]; simp
    have HV2 := Lib.hid hv2
    have HG3 := Lib.hid hg3
    have HQ3 := Lib.hid hq3
    have HV1B := Lib.hid hv1b
    clear hv2 hg3 hq3 hv1b k0
    go_wp2_with fail
    go_ret
    refine ⟨rfl, ?_, .slice a2 (j + (m - (j + 1))) c2, ?_, ?_, hlow⟩
    · have kk : Keep w.heap.size (fun k => k = q) W1 w2 := ⟨HG1.out.os, HG1.out.tape, HG1.out.output, HG1.out.size, fun k hk _ => HG1.out.block k (by omega) (fun e => by have := Option.some.inj (show some k = some w.heap.size from e); omega)⟩
      have kk2 : Keep w.heap.size (fun k => k = q) w2 w3 := ⟨HG3.out.os, HG3.out.tape, HG3.out.output, HG3.out.size, fun k hk _ => HG3.out.block k (by have := HG1.out.size; omega) (fun e => by have := HV1B.out k e.symm; omega)⟩
      exact (((Keep.of HB1.out (Nat.le_refl _)).trans kk).trans kk2).set (p := ⟨q, 0, none⟩) (.inl rfl) _
    · exact Go.Joins.block_setCell (i := 0) HQ3.out _
    · have hs := HV2.out
      rw [HAPP.out.1] at hs
      have hs3 := ownsRow_setCell_below hs (a := ⟨q, 0, none⟩) (by simp only; omega) (.slice a2 (j + (m - (j + 1))) c2)
      exact docs_row hs3 HAPP.out.2 hB
end Go.Proofs.YtccmicmlkgkheaaDoor.D

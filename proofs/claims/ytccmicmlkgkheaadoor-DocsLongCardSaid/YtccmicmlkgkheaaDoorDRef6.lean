/- The contract of the document's own Open of layer 7, where a document comes in. -/
import Derived.Test.YtccmicmlkgkheaaDoorDRef5
namespace Go.Proofs.YtccmicmlkgkheaaDoor.D
open Go.RowKit
open Go.Lib hiding intOf
open Go.Proofs.YtccmicmlkgkheaaDoor.U Go.Proofs.YtccmicmlkgkheaaDoor.L Go.Proofs.YtccmicmlkgkheaaDoor.E

theorem docCs_snoc (l : List DocP) (d : DocP) : docCs l ++ [.string d.n, .int .i64 d.v, .string d.t] = docCs (l ++ [d]) := by rw [docCs_app]; rfl
/-- Where the loop stands: what is out already, and what is still to come. -/
def OpSt (l : List DocP) (d : DocP) (i : Nat) (O : List DocP) (done : Bool) : Prop :=
  O.length = (if done then i + 1 else i) ∧ insL d l = O ++ (if done then l.drop i else insL d (l.drop i))
theorem opSt_start (l : List DocP) (d : DocP) : OpSt l d 0 [] false := ⟨rfl, rfl⟩
theorem opSt_put {l : List DocP} {d : DocP} {i : Nat} {O : List DocP} (h : OpSt l d i O false) (hi : i < l.length) (hb : bl d.n l[i].n = true) : OpSt l d (i + 1) (O ++ [d] ++ [l[i]]) true := by
  obtain ⟨h1, h2⟩ := h
  refine ⟨by simp at h1; simp [h1], ?_⟩
  rw [h2]
  simp only [Bool.false_eq_true, if_false, if_true]
  rw [List.drop_eq_getElem_cons hi]
  simp only [insL]
  rw [if_pos hb]
  simp
theorem opSt_pass {l : List DocP} {d : DocP} {i : Nat} {O : List DocP} (h : OpSt l d i O false) (hi : i < l.length) (hb : bl d.n l[i].n = false) : OpSt l d (i + 1) (O ++ [l[i]]) false := by
  obtain ⟨h1, h2⟩ := h
  refine ⟨by simp at h1; simp [h1], ?_⟩
  rw [h2]
  simp only [Bool.false_eq_true, if_false]
  rw [List.drop_eq_getElem_cons hi]
  simp only [insL]
  rw [if_neg (by rw [hb]; simp)]
  simp
theorem opSt_on {l : List DocP} {d : DocP} {i : Nat} {O : List DocP} (h : OpSt l d i O true) (hi : i < l.length) : OpSt l d (i + 1) (O ++ [l[i]]) true := by
  obtain ⟨h1, h2⟩ := h
  refine ⟨by simp at h1; simp [h1], ?_⟩
  rw [h2]
  simp only [if_true]
  rw [List.drop_eq_getElem_cons hi]
  simp
theorem opSt_end {l : List DocP} {d : DocP} {O : List DocP} (h : OpSt l d l.length O true) : insL d l = O := by
  have := h.2; simpa using this
theorem opSt_last {l : List DocP} {d : DocP} {O : List DocP} (h : OpSt l d l.length O false) : insL d l = O ++ [d] := by
  have := h.2; simpa [insL] using this
theorem below_grown {Z n size : Nat} {w2 W w' : World} {e : TypeId} {v : Value} {xs : List Value} {o : Obj} (hL : Below Z w2 W) (hR : W.ownsRow Z e size v n xs) (hg : (W.alloc o).grownBy w' v.ownBlock) (hz : Z ≤ W.heap.size) : Below Z w2 w' := by
  refine ⟨hg.os.trans hL.os, hg.tape.trans hL.tape, hg.output.trans hL.output, ?_, fun k hk => ?_⟩
  · have h1 := hg.size
    have h2 := hL.size
    rw [World.size_alloc] at h1; omega
  · exact ((hg.block k (by rw [World.size_alloc]; omega) (fun e => by have := (hR.lt k e.symm).1; omega)).trans (Below.heap_alloc _ _ _ (by omega))).trans (hL.block k hk)
theorem one_new (W : World) (d : DocP) : ∀ k u, (docCs [d])[k]? = some u → (W.alloc (.cells #[.string d.n, .int .i64 d.v, .string d.t] 30)).cell? ((⟨W.heap.size, 0, none⟩ : Addr).add k) = some u := one_doc (heap_alloc_new W _)

set_option maxHeartbeats 8000000 in
set_option maxRecDepth 20000 in
theorem open_ok (B q : Nat) (l : List DocP) (v : Value) (d : DocP) (w : World) (h : Sto B q l v w) (hI : Inv l) (hB : B ≤ w.heap.size) (hn : d.n.size ≤ 1000000) (ht : d.t.size ≤ 1000000) (hr : (openL l d).2 = 0) :
    Calls Tryd.prog 20 #[.pointer (some ⟨q, 0, none⟩), .agg #[.string d.n, .int .i64 d.v, .string d.t]] w (RefPost B q (openL l d) w) := by
  have hl : l.length ≤ 8 := hI.few
  have hlow := h.low
  obtain ⟨W, hW⟩ : ∃ W, w.alloc (.cells #[.string d.n, .int .i64 d.v, .string d.t] 30) = W := ⟨_, rfl⟩
  have hbw : Below w.heap.size w W := by rw [← hW]; exact (Below.refl _ _).alloc (Nat.le_refl _) _
  have HBX := Lib.hid (show W.heap[w.heap.size]? = some (.cells #[.string d.n, .int .i64 d.v, .string d.t] 30 (0, 0)) by rw [← hW]; exact heap_alloc_new _ _)
  have HBW := Lib.hid hbw
  obtain ⟨p0, p1, p2⟩ := three_cells HBX.out
  have cN := name_any d.n W hn
  have cR := fun X => ref_right d.t X ht
  have CF := Lib.hid (fun X (hb : Below w.heap.size w X) => find_any B q l v d.n X (h.later hb) (by omega))
  have HH := Lib.hid h
  obtain ⟨a, cap, rfl, _, hc⟩ := h.row
  obtain ⟨i0, hi0, hz0, hz1, hz2⟩ := info_parts infoDoc
  rcases open_or l d with ⟨h1, h2⟩ | ⟨h1, h3, h2⟩ | ⟨h1, h3, h4, h2⟩ | ⟨h1, h3, h4, h5, h2⟩ | ⟨h1, h3, h4, h5, ⟨h6, h2⟩ | ⟨h6, h2⟩⟩
  · rw [h2] at hr; cases hr
  · rw [h2] at hr; cases hr
  · rw [h2] at hr; cases hr
  · rw [h2] at hr; cases hr
  · rw [h2] at hr; cases hr
  rw [h2]
  rw [h1] at cN
  rw [h3] at cR
  have HC := Lib.hid hc
  have hz : decide ((16384 : Int) < (d.t.size : Int)) = false := by simp; omega
  obtain ⟨m, hm⟩ : ∃ m, l.length = m := ⟨_, rfl⟩
  have HM := Lib.hid hm
  rw [hm] at h5 hl HH
  have hz2' : decide ((8 : Int) ≤ (m : Int)) = false := by simp; omega
  clear h1 h2 h3 hr h hc hm hbw
  rw [h6] at CF
  clear h6
  have HST : Hid (OpSt l d 0 [] false) := Lib.hid (opSt_start l d)
  go_enter Tryd.func20, Tryd.ntmps20
  go_wp2_with fail
  refine cN.mono ?_
  rintro e w1 ⟨rfl, hb1⟩
  have HB1 := Lib.hid hb1
  clear p0 p1 p2
  obtain ⟨p0, p1, p2⟩ := three_cells (bx_block HBX.out hb1)
  clear hb1 cN hW
  go_wp2_with fail
  refine (cR w1).mono ?_
  rintro e w2 ⟨rfl, hb2⟩
  have HB12 := Lib.hid (next HB1.out hb2)
  have HB2 := Lib.hid (next HBW.out HB12.out)
  clear p0 p1 p2
  obtain ⟨p0, p1, p2⟩ := three_cells (bx_block HBX.out HB12.out)
  have k0 := (HH.out.later HB2.out).c0
  clear hb2 cR
  go_wp2_with fail
  refine (CF.out w2 HB2.out).mono ?_
  rintro e w3 ⟨rfl, hw⟩
  replace hw := hw.symm
  subst hw
  clear p0 p1 p2 k0
  obtain ⟨Z, hZ⟩ : ∃ Z, w2.heap.size = Z := ⟨_, rfl⟩
  have hZw : w.heap.size < Z := by
    have h1 := HB12.out.size
    have h2 := (Array.getElem?_eq_some_iff.1 HBX.out).1
    omega
  have HZ := Lib.hid hZ
  clear hZ
  go_wp2_with fail
  go_loopw [7, 8, 9] (fun ov bv iv wr => ∃ (i : Nat) (done : Bool) (O : List DocP), bv = .bool done ∧ iv = .int .i64 i ∧ i ≤ m ∧ O.length ≤ i + 1 ∧ Hid (OpSt l d i O done) ∧ Hid (wr.ownsRow Z 30 3 ov O.length (docCs O)) ∧ Hid (Below Z w2 wr)) (fun _ _ iv _ => m - (intOf iv).toNat)
  case atStart => exact ⟨0, false, [], rfl, rfl, Nat.zero_le _, by simp, HST, Lib.hid (World.ownsRow_nil _ _ _ _), Lib.hid (Below.refl _ _)⟩
  case round =>
    obtain ⟨i, done, O, rfl, rfl, hi, hO, HS, HR, HL⟩ := hrel
    clear HST
    obtain ⟨oa, oc, rfl⟩ := owns_len HR.out
    have hzr : Z ≤ wr.heap.size := by have := HL.out.size; have := HZ.out; omega
    by_cases hlt : i < m
    · have hil : i < l.length := by rw [HM.out]; exact hlt
      obtain ⟨g, off, rfl, hBg, hgw, hat⟩ := HC.out.resolve_left (fun h => by rw [h] at hil; exact Nat.not_lt_zero _ hil)
      have hgZ : g < Z := by omega
      have HBX2 := Lib.hid (bx_block HBX.out HB12.out)
      have HQ2 := Lib.hid (HH.out.later HB2.out).blk
      have hat2 : DocsAt w2 g off l := fun j u hj => (HB2.out.cell (p := ⟨g, off + j, none⟩) hgw).trans (hat j u hj)
      have HCE := Lib.hid (doc_at i hat2 hil)
      clear hat hat2
      obtain ⟨x, hx⟩ : ∃ x, l[i] = x := ⟨_, rfl⟩
      rw [hx] at HCE
      have HXE := Lib.hid hx
      clear hx
      have hbx := (HL.out.block w.heap.size hZw).trans HBX2.out
      obtain ⟨p0, p1, p2⟩ := three_cells hbx
      have k0 : wr.cell? ⟨q, 0, none⟩ = some (.slice (some ⟨g, off, none⟩) m cap) := by unfold World.cell?; rw [HL.out.block q (by omega), HQ2.out]; rfl
      have lc : ∀ j, wr.cell? ⟨g, j, none⟩ = w2.cell? ⟨g, j, none⟩ := fun j => by unfold World.cell?; rw [HL.out.block g hgZ]
      obtain ⟨c0, c1, c2⟩ := HCE.out
      rw [← lc] at c0 c1 c2
      clear lc hbx
      cases done
      · cases hb : bl d.n x.n
        · have hbb : Op.bytesLess d.n.toList x.n.toList = false := hb
          have HS2 := Lib.hid (show OpSt l d (i + 1) (O ++ [x]) false by have := opSt_pass HS.out hil (by rw [HXE.out]; exact hb); rwa [HXE.out] at this)
          clear hb HS
          go_wp2_with fail
          go_quiet (fail)
          obtain ⟨w4, hw4⟩ : ∃ w4, wr.drewN nq = w4 := ⟨_, rfl⟩
          have hzr4 : Z ≤ w4.heap.size := by rw [← hw4]; exact hzr
          have HR4 : Hid (w4.ownsRow Z 30 3 (.slice oa O.length oc) O.length (docCs O)) := Lib.hid (by rw [← hw4]; exact HR.out)
          have HL4 : Hid (Below Z w2 w4) := Lib.hid (by rw [← hw4]; exact HL.out.trans ((L.below_drewN wr nq).mono hzr))
          rw [hw4]
          clear p0 p1 p2 k0 c0 c1 c2
          have hbx := (HL4.out.block w.heap.size hZw).trans HBX2.out
          obtain ⟨p0, p1, p2⟩ := three_cells hbx
          have k0 : w4.cell? ⟨q, 0, none⟩ = some (.slice (some ⟨g, off, none⟩) m cap) := by unfold World.cell?; rw [HL4.out.block q (by omega), HQ2.out]; rfl
          have lc : ∀ j, w4.cell? ⟨g, j, none⟩ = w2.cell? ⟨g, j, none⟩ := fun j => by unfold World.cell?; rw [HL4.out.block g hgZ]
          obtain ⟨c0, c1, c2⟩ := HCE.out
          rw [← lc] at c0 c1 c2
          clear lc hbx
          clear hw4
          go_wp2_with (at_builtin; refine wpList_append_own _ rfl _ _ 26 rfl Z 30 i0 (.agg #[.string ⟨#[]⟩, .int .i64 0, .string ⟨#[]⟩]) 3 40 Tryd.underlying26 hi0 hz0 hz1 hz2 rfl (by decide) _ _ _ rfl (HR4.out.alloc _) ⟨w4.heap.size, 0, none⟩ 1 1 (docCs [x]) rfl rfl ?c1 (plain_cells _) ?c3 ?c4 ?c5 ?_)
          case c1 => exact one_new _ _
          case c3 => unfold maxLen; omega
          case c4 => omega
          case c5 => rw [World.size_alloc]; omega
          intro v5 w5 hv5 hg5 _
          have HV5 := Lib.hid hv5
          have HB5 := Lib.hid (below_grown HL4.out HR4.out hg5 (by omega))
          clear hv5 hg5
          go_wp2_with fail
          go_roundw
          case rel => exact ⟨i + 1, false, O ++ [x], rfl, by go_num, by omega, by simp only [List.length_append, List.length_singleton]; omega, HS2, Lib.hid (by have := HV5.out; rw [← docCs_app] at this; simpa [List.length_append] using this), HB5⟩
          case measure => simp [intOf]; omega
        · have hbb : Op.bytesLess d.n.toList x.n.toList = true := hb
          have hOi : O.length ≤ i := by have := HS.out.1; simp at this; omega
          have HS2 := Lib.hid (show OpSt l d (i + 1) (O ++ [d] ++ [x]) true by have := opSt_put HS.out hil (by rw [HXE.out]; exact hb); rwa [HXE.out] at this)
          clear hb HS
          go_wp2_with fail
          go_quiet (fail)
          obtain ⟨w4, hw4⟩ : ∃ w4, wr.drewN nq = w4 := ⟨_, rfl⟩
          have hzr4 : Z ≤ w4.heap.size := by rw [← hw4]; exact hzr
          have HR4 : Hid (w4.ownsRow Z 30 3 (.slice oa O.length oc) O.length (docCs O)) := Lib.hid (by rw [← hw4]; exact HR.out)
          have HL4 : Hid (Below Z w2 w4) := Lib.hid (by rw [← hw4]; exact HL.out.trans ((L.below_drewN wr nq).mono hzr))
          rw [hw4]
          clear p0 p1 p2 k0 c0 c1 c2
          have hbx := (HL4.out.block w.heap.size hZw).trans HBX2.out
          obtain ⟨p0, p1, p2⟩ := three_cells hbx
          have k0 : w4.cell? ⟨q, 0, none⟩ = some (.slice (some ⟨g, off, none⟩) m cap) := by unfold World.cell?; rw [HL4.out.block q (by omega), HQ2.out]; rfl
          have lc : ∀ j, w4.cell? ⟨g, j, none⟩ = w2.cell? ⟨g, j, none⟩ := fun j => by unfold World.cell?; rw [HL4.out.block g hgZ]
          obtain ⟨c0, c1, c2⟩ := HCE.out
          rw [← lc] at c0 c1 c2
          clear lc hbx
          clear hw4
          go_wp2_with (at_builtin; refine wpList_append_own _ rfl _ _ 26 rfl Z 30 i0 (.agg #[.string ⟨#[]⟩, .int .i64 0, .string ⟨#[]⟩]) 3 40 Tryd.underlying26 hi0 hz0 hz1 hz2 rfl (by decide) _ _ _ rfl (HR4.out.alloc _) ⟨w4.heap.size, 0, none⟩ 1 1 (docCs [d]) rfl rfl ?c1 (plain_cells _) ?c3 ?c4 ?c5 ?_)
          case c1 => exact one_new _ _
          case c3 => unfold maxLen; omega
          case c4 => omega
          case c5 => rw [World.size_alloc]; omega
          intro v6 w6 hv6 hg6 _
          have hlen6 : O.length + 1 = (O ++ [d]).length := by simp
          have HR6 : Hid (w6.ownsRow Z 30 3 v6 (O ++ [d]).length (docCs (O ++ [d]))) := Lib.hid (by rw [← hlen6, docCs_app]; exact hv6)
          obtain ⟨a6, c6, rfl⟩ := owns_len HR6.out
          have HL6 := Lib.hid (below_grown HL4.out HR4.out hg6 hzr4)
          have hzr6 : Z ≤ w6.heap.size := by have := hg6.size; rw [World.size_alloc] at this; omega
          clear hv6 hg6 p0 p1 p2 k0 c0 c1 c2
          have hbx := (HL6.out.block w.heap.size hZw).trans HBX2.out
          obtain ⟨p0, p1, p2⟩ := three_cells hbx
          have k0 : w6.cell? ⟨q, 0, none⟩ = some (.slice (some ⟨g, off, none⟩) m cap) := by unfold World.cell?; rw [HL6.out.block q (by omega), HQ2.out]; rfl
          have lc : ∀ j, w6.cell? ⟨g, j, none⟩ = w2.cell? ⟨g, j, none⟩ := fun j => by unfold World.cell?; rw [HL6.out.block g hgZ]
          obtain ⟨c0, c1, c2⟩ := HCE.out
          rw [← lc] at c0 c1 c2
          clear lc hbx
          generalize hOL : O ++ [d] = O6 at HR6 HS2 hlen6 ⊢
          have hO6 : O6.length ≤ i + 1 := by rw [← hlen6]; omega
          have HO6 := Lib.hid hlen6
          clear hlen6 hOL
          go_wp2_with (at_builtin; refine wpList_append_own _ rfl _ _ 26 rfl Z 30 i0 (.agg #[.string ⟨#[]⟩, .int .i64 0, .string ⟨#[]⟩]) 3 40 Tryd.underlying26 hi0 hz0 hz1 hz2 rfl (by decide) _ _ _ rfl (HR6.out.alloc _) ⟨w6.heap.size, 0, none⟩ 1 1 (docCs [x]) rfl rfl ?c1 (plain_cells _) ?c3 ?c4 ?c5 ?_)
          case c1 => exact one_new _ _
          case c3 => unfold maxLen; omega
          case c4 => omega
          case c5 => rw [World.size_alloc]; omega
          intro v5 w5 hv5 hg5 _
          have HV5 := Lib.hid hv5
          have HB5 := Lib.hid (below_grown HL6.out HR6.out hg5 hzr6)
          clear hv5 hg5
          go_wp2_with fail
          go_roundw
          case rel => exact ⟨i + 1, true, O6 ++ [x], rfl, by go_num, by omega, by simp only [List.length_append, List.length_singleton]; omega, HS2, Lib.hid (by have := HV5.out; rw [← docCs_app] at this; simpa [List.length_append] using this), HB5⟩
          case measure => simp [intOf]; omega
      · have HS2 := Lib.hid (show OpSt l d (i + 1) (O ++ [x]) true by have := opSt_on HS.out hil; rwa [HXE.out] at this)
        clear HS
        go_wp2_with fail
        go_quiet (fail)
        obtain ⟨w4, hw4⟩ : ∃ w4, wr.drewN nq = w4 := ⟨_, rfl⟩
        have hzr4 : Z ≤ w4.heap.size := by rw [← hw4]; exact hzr
        have HR4 : Hid (w4.ownsRow Z 30 3 (.slice oa O.length oc) O.length (docCs O)) := Lib.hid (by rw [← hw4]; exact HR.out)
        have HL4 : Hid (Below Z w2 w4) := Lib.hid (by rw [← hw4]; exact HL.out.trans ((L.below_drewN wr nq).mono hzr))
        rw [hw4]
        clear p0 p1 p2 k0 c0 c1 c2
        have hbx := (HL4.out.block w.heap.size hZw).trans HBX2.out
        obtain ⟨p0, p1, p2⟩ := three_cells hbx
        have k0 : w4.cell? ⟨q, 0, none⟩ = some (.slice (some ⟨g, off, none⟩) m cap) := by unfold World.cell?; rw [HL4.out.block q (by omega), HQ2.out]; rfl
        have lc : ∀ j, w4.cell? ⟨g, j, none⟩ = w2.cell? ⟨g, j, none⟩ := fun j => by unfold World.cell?; rw [HL4.out.block g hgZ]
        obtain ⟨c0, c1, c2⟩ := HCE.out
        rw [← lc] at c0 c1 c2
        clear lc hbx
        clear hw4
        go_wp2_with (at_builtin; refine wpList_append_own _ rfl _ _ 26 rfl Z 30 i0 (.agg #[.string ⟨#[]⟩, .int .i64 0, .string ⟨#[]⟩]) 3 40 Tryd.underlying26 hi0 hz0 hz1 hz2 rfl (by decide) _ _ _ rfl (HR4.out.alloc _) ⟨w4.heap.size, 0, none⟩ 1 1 (docCs [x]) rfl rfl ?c1 (plain_cells _) ?c3 ?c4 ?c5 ?_)
        case c1 => exact one_new _ _
        case c3 => unfold maxLen; omega
        case c4 => omega
        case c5 => rw [World.size_alloc]; omega
        intro v5 w5 hv5 hg5 _
        have HV5 := Lib.hid hv5
        have HB5 := Lib.hid (below_grown HL4.out HR4.out hg5 (by omega))
        clear hv5 hg5
        go_wp2_with fail
        go_roundw
        case rel => exact ⟨i + 1, true, O ++ [x], rfl, by go_num, by omega, by simp only [List.length_append, List.length_singleton]; omega, HS2, Lib.hid (by have := HV5.out; rw [← docCs_app] at this; simpa [List.length_append] using this), HB5⟩
        case measure => simp [intOf]; omega
    · obtain rfl : i = m := by omega
      have k0 : wr.cell? ⟨q, 0, none⟩ = some (.slice a i cap) := by unfold World.cell?; rw [HL.out.block q (by omega), (HH.out.later HB2.out).blk]; rfl
      have HBX2 := Lib.hid (bx_block HBX.out HB12.out)
      have hbx := (HL.out.block w.heap.size hZw).trans HBX2.out
      obtain ⟨p0, p1, p2⟩ := three_cells hbx
      clear hbx
      have k0f : wr.frozen? ⟨q, 0, none⟩ = false := by unfold World.frozen?; rw [HL.out.block q (by omega), (HH.out.later HB2.out).blk]; simp
      cases done
      · have HF : Hid (insL d l = O ++ [d]) := Lib.hid (by have := HS.out; rw [← HM.out] at this; exact opSt_last this)
        have hOi : O.length ≤ i := by have := HS.out.1; simp at this; omega
        have HR0 := Lib.hid HR.out
        clear HS
        go_wp2_with (at_builtin; refine wpList_append_own _ rfl _ _ 26 rfl Z 30 i0 (.agg #[.string ⟨#[]⟩, .int .i64 0, .string ⟨#[]⟩]) 3 40 Tryd.underlying26 hi0 hz0 hz1 hz2 rfl (by decide) _ _ _ rfl (HR0.out.alloc _) ⟨wr.heap.size, 0, none⟩ 1 1 (docCs [d]) rfl rfl ?c1 (plain_cells _) ?c3 ?c4 ?c5 ?_)
        case c1 => exact one_new _ _
        case c3 => unfold maxLen; omega
        case c4 => omega
        case c5 => rw [World.size_alloc]; omega
        intro v6 w6 hv6 hg6 _
        obtain ⟨a6, c6, rfl⟩ := owns_len hv6
        have HL6 := Lib.hid (below_grown HL.out HR.out hg6 hzr)
        have HV6 := Lib.hid hv6
        have HQ6 : Hid (w6.heap[q]? = some (.cells #[.slice a i cap] 28 (0, 0))) := Lib.hid (by rw [HL6.out.block q (by omega)]; exact (HH.out.later HB2.out).blk)
        have k6 : w6.cell? ⟨q, 0, none⟩ = some (.slice a i cap) := by unfold World.cell?; rw [HQ6.out]; rfl
        have k6f : w6.frozen? ⟨q, 0, none⟩ = false := by unfold World.frozen?; rw [HQ6.out]; simp
        clear hv6 hg6 k0 k0f p0 p1 p2
        go_wp2_with fail
        go_ret
        refine ⟨rfl, ?_, .slice a6 (O.length + 1) c6, ?_, ?_, hlow⟩
        · have kk : Keep w.heap.size (fun k => k = q) w2 w6 := ⟨HL6.out.os, HL6.out.tape, HL6.out.output, HL6.out.size, fun k hk _ => HL6.out.block k (by omega)⟩
          exact ((Keep.of HB2.out (Nat.le_refl _)).trans kk).set (p := ⟨q, 0, none⟩) (.inl rfl) _
        · exact Go.Joins.block_setCell (i := 0) HQ6.out _
        · have hs := HV6.out
          rw [← docCs_app] at hs
          have hs3 := ownsRow_setCell_below hs (a := ⟨q, 0, none⟩) (by simp only; omega) (.slice a6 (O.length + 1) c6)
          exact docs_row (l := insL d l) (by rw [HF.out]; exact hs3) (by rw [HF.out]; simp) (by omega)
      · have HF : Hid (insL d l = O) := Lib.hid (by have := HS.out; rw [← HM.out] at this; exact opSt_end this)
        have HQ6 : Hid (wr.heap[q]? = some (.cells #[.slice a i cap] 28 (0, 0))) := Lib.hid (by rw [HL.out.block q (by omega)]; exact (HH.out.later HB2.out).blk)
        clear HS p0 p1 p2
        go_wp2_with fail
        go_ret
        refine ⟨rfl, ?_, .slice oa O.length oc, ?_, ?_, hlow⟩
        · have kk : Keep w.heap.size (fun k => k = q) w2 wr := ⟨HL.out.os, HL.out.tape, HL.out.output, HL.out.size, fun k hk _ => HL.out.block k (by omega)⟩
          exact ((Keep.of HB2.out (Nat.le_refl _)).trans kk).set (p := ⟨q, 0, none⟩) (.inl rfl) _
        · exact Go.Joins.block_setCell (i := 0) HQ6.out _
        · have hs3 := ownsRow_setCell_below HR.out (a := ⟨q, 0, none⟩) (by simp only; omega) (.slice oa O.length oc)
          exact docs_row (l := insL d l) (by rw [HF.out]; exact hs3) (by rw [HF.out]) (by omega)
theorem refOpen_any (B q : Nat) (l : List DocP) (v : Value) (d : DocP) (w : World) (h : Sto B q l v w) (hI : Inv l) (hB : B ≤ w.heap.size) (hn : d.n.size ≤ 1000000) (ht : d.t.size ≤ 1000000) :
    Calls Tryd.prog 20 #[.pointer (some ⟨q, 0, none⟩), .agg #[.string d.n, .int .i64 d.v, .string d.t]] w (RefPost B q (openL l d) w) := by
  by_cases hr : (openL l d).2 = 0
  · exact open_ok B q l v d w h hI hB hn ht hr
  · exact open_refused B q l v d w h hI hn ht hr
end Go.Proofs.YtccmicmlkgkheaaDoor.D

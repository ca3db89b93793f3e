/- The contract of the document's own Open of layer 7. -/
import Derived.Test.YtccmicmlkgkheaaDoorDRef4
import Derived.Deep.QuietTactic
import Derived.BigQuiet
namespace Go.Proofs.YtccmicmlkgkheaaDoor.D
open Go.RowKit
open Go.Lib hiding intOf
open Go.Proofs.YtccmicmlkgkheaaDoor.U Go.Proofs.YtccmicmlkgkheaaDoor.L Go.Proofs.YtccmicmlkgkheaaDoor.E

theorem three_cells {w : World} {q : Nat} {x0 x1 x2 : Value} {t : TypeId} (h : w.heap[q]? = some (.cells #[x0, x1, x2] t (0, 0))) :
    w.cell? ⟨q, 0, none⟩ = some x0 ∧ w.cell? ⟨q, 1, none⟩ = some x1 ∧ w.cell? ⟨q, 2, none⟩ = some x2 := by
  unfold World.cell?; rw [h]; exact ⟨rfl, rfl, rfl⟩
theorem one_doc {w : World} {q : Nat} {d : DocP} {t : TypeId} (h : w.heap[q]? = some (.cells #[.string d.n, .int .i64 d.v, .string d.t] t (0, 0))) :
    ∀ k u, (docCs [d])[k]? = some u → w.cell? ((⟨q, 0, none⟩ : Addr).add k) = some u := fun k u hk => by
  obtain ⟨c0, c1, c2⟩ := three_cells h
  rw [Addr.add_lit, Nat.zero_add]
  have hk2 := (List.getElem?_eq_some_iff.1 hk).1
  rw [docCs_length] at hk2
  simp only [docCs, docC, List.append_nil] at hk
  match k, hk2 with
  | 0, _ => simp at hk; subst hk; exact c0
  | 1, _ => simp at hk; subst hk; exact c1
  | 2, _ => simp at hk; subst hk; exact c2
theorem open_or (l : List DocP) (d : DocP) :
    (nameOk d.n = false ∧ openL l d = (l, 1)) ∨ (nameOk d.n = true ∧ okB d.t = false ∧ openL l d = (l, 11)) ∨
    (nameOk d.n = true ∧ okB d.t = true ∧ 16384 < d.t.size ∧ openL l d = (l, 73)) ∨ (nameOk d.n = true ∧ okB d.t = true ∧ d.t.size ≤ 16384 ∧ 8 ≤ l.length ∧ openL l d = (l, 73)) ∨
    (nameOk d.n = true ∧ okB d.t = true ∧ d.t.size ≤ 16384 ∧ l.length < 8 ∧ ((0 ≤ fndD l d.n 0 ∧ openL l d = (l, 74)) ∨ (fndD l d.n 0 = -1 ∧ openL l d = (insL d l, 0)))) := by
  unfold openL
  cases h1 : nameOk d.n
  · exact .inl ⟨rfl, by simp⟩
  · right
    cases h2 : okB d.t
    · exact .inl ⟨rfl, rfl, by simp⟩
    · right
      by_cases h3 : 16384 < d.t.size
      · exact .inl ⟨rfl, rfl, h3, by simp [h3]⟩
      · right
        by_cases h4 : 8 ≤ l.length
        · exact .inl ⟨rfl, rfl, by omega, h4, by simp [h4]⟩
        · right
          refine ⟨rfl, rfl, by omega, by omega, ?_⟩
          rw [if_neg (by simp), if_neg (by simp), if_neg (by omega)]
          rcases fndD_or d.n l 0 with ⟨h5, h6⟩ | ⟨j, hj, h6, h5, _⟩
          · exact .inr ⟨h6, by rw [h5]; simp⟩
          · exact .inl ⟨by rw [h6]; omega, by rw [h5]; simp⟩

set_option maxHeartbeats 4000000 in
set_option maxRecDepth 20000 in
theorem open_refused (B q : Nat) (l : List DocP) (v : Value) (d : DocP) (w : World) (h : Sto B q l v w) (hI : Inv l) (hn : d.n.size ≤ 1000000) (ht : d.t.size ≤ 1000000) (hr : (openL l d).2 ≠ 0) :
    Calls Tryd.prog 20 #[.pointer (some ⟨q, 0, none⟩), .agg #[.string d.n, .int .i64 d.v, .string d.t]] w (RefPost B q (openL l d) w) := by
  have hl : l.length ≤ 8 := hI.few
  obtain ⟨W, hW⟩ : ∃ W, w.alloc (.cells #[.string d.n, .int .i64 d.v, .string d.t] 30) = W := ⟨_, rfl⟩
  have hbw : Below w.heap.size w W := by rw [← hW]; exact (Below.refl _ _).alloc (Nat.le_refl _) _
  have HBX := Lib.hid (show W.heap[w.heap.size]? = some (.cells #[.string d.n, .int .i64 d.v, .string d.t] 30 (0, 0)) by rw [← hW]; exact heap_alloc_new _ _)
  have HBW := Lib.hid hbw
  obtain ⟨p0, p1, p2⟩ := three_cells HBX.out
  have cN := name_any d.n W hn
  have cR := fun X => ref_right d.t X ht
  have CF := Lib.hid (fun X (hb : Below w.heap.size w X) => find_any B q l v d.n X (h.later hb) (by omega))
  have HH := Lib.hid h
  obtain ⟨a, cap, rfl, _, _⟩ := h.row
  clear hbw
  rcases open_or l d with ⟨h1, h2⟩ | ⟨h1, h3, h2⟩ | ⟨h1, h3, h4, h2⟩ | ⟨h1, h3, h4, h5, h2⟩ | ⟨h1, h3, h4, h5, ⟨h6, h2⟩ | ⟨_, h2⟩⟩
  · rw [h2]
    rw [h1] at cN
    clear h1 h2 hr h
    obtain ⟨n, ver, t⟩ := d
    simp only at cN cR p0 p1 p2 HBX hW ⊢
    generalize okB t = K at cR
    go_enter Tryd.func20, Tryd.ntmps20
    go_wp2_with fail
    refine cN.mono ?_
    rintro e w1 ⟨rfl, hb1⟩
    have HB1 := Lib.hid hb1
    clear p0 p1 p2
    obtain ⟨p0, p1, p2⟩ := three_cells (bx_block HBX.out hb1)
    clear hb1 cN hW
    go_wp2_with fail
    refine (cR w1).mono ?_
    rintro e w2 ⟨rfl, hb2⟩
    have HB2 := Lib.hid (next HBW.out (next HB1.out hb2))
    clear hb2 cR
    go_wp2_with fail
    go_ret
    exact ⟨rfl, Keep.of HB2.out (Nat.le_refl _), _, HH.out.later HB2.out⟩
  · rw [h2]
    rw [h1] at cN
    rw [h3] at cR
    clear h1 h2 h3 hr h
    obtain ⟨n, ver, t⟩ := d
    simp only at cN cR p0 p1 p2 HBX hW ⊢
    go_enter Tryd.func20, Tryd.ntmps20
    go_wp2_with fail
    refine cN.mono ?_
    rintro e w1 ⟨rfl, hb1⟩
    have HB1 := Lib.hid hb1
    clear p0 p1 p2
    obtain ⟨p0, p1, p2⟩ := three_cells (bx_block HBX.out hb1)
    clear hb1 cN hW
    go_wp2_with fail
    refine (cR w1).mono ?_
    rintro e w2 ⟨rfl, hb2⟩
    have HB2 := Lib.hid (next HBW.out (next HB1.out hb2))
    clear hb2 cR
    go_wp2_with fail
    go_ret
    exact ⟨rfl, Keep.of HB2.out (Nat.le_refl _), _, HH.out.later HB2.out⟩
  · rw [h2]
    rw [h1] at cN
    rw [h3] at cR
    clear h1 h2 h3 hr h
    obtain ⟨n, ver, t⟩ := d
    simp only at cN cR p0 p1 p2 HBX hW h4 ⊢
    have hz : decide ((16384 : Int) < (t.size : Int)) = true := by simp; omega
    go_enter Tryd.func20, Tryd.ntmps20
    go_wp2_with fail
    refine cN.mono ?_
    rintro e w1 ⟨rfl, hb1⟩
    have HB1 := Lib.hid hb1
    clear p0 p1 p2
    obtain ⟨p0, p1, p2⟩ := three_cells (bx_block HBX.out hb1)
    clear hb1 cN hW
    go_wp2_with fail
    refine (cR w1).mono ?_
    rintro e w2 ⟨rfl, hb2⟩
    have HB12 := Lib.hid (next HB1.out hb2)
    have HB2 := Lib.hid (next HBW.out HB12.out)
    clear p0 p1 p2
    obtain ⟨p0, p1, p2⟩ := three_cells (bx_block HBX.out HB12.out)
    clear hb2 cR
    go_wp2_with fail
    go_ret
    exact ⟨rfl, Keep.of HB2.out (Nat.le_refl _), _, HH.out.later HB2.out⟩
  · rw [h2]
    rw [h1] at cN
    rw [h3] at cR
    clear h1 h2 h3 hr h
    obtain ⟨n, ver, t⟩ := d
    simp only at cN cR p0 p1 p2 HBX hW h4 ⊢
    have hz : decide ((16384 : Int) < (t.size : Int)) = false := by simp; omega
    obtain ⟨m, hm⟩ : ∃ m, l.length = m := ⟨_, rfl⟩
    rw [hm] at h5 hl HH
    have hz2 : decide ((8 : Int) ≤ (m : Int)) = true := by simp; omega
    go_enter Tryd.func20, Tryd.ntmps20
    go_wp2_with fail
    refine cN.mono ?_
    rintro e w1 ⟨rfl, hb1⟩
    have HB1 := Lib.hid hb1
    clear p0 p1 p2
    obtain ⟨p0, p1, p2⟩ := three_cells (bx_block HBX.out hb1)
    clear hb1 cN hW
    go_wp2_with fail
    refine (cR w1).mono ?_
    rintro e w2 ⟨rfl, hb2⟩
    have HB12 := Lib.hid (next HB1.out hb2)
    have HB2 := Lib.hid (next HBW.out HB12.out)
    clear p0 p1 p2
    obtain ⟨p0, p1, p2⟩ := three_cells (bx_block HBX.out HB12.out)
    have k0 := (HH.out.later HB2.out).c0
    clear hb2 cR
    go_wp2_with fail
    go_ret
    exact ⟨rfl, Keep.of HB2.out (Nat.le_refl _), _, HH.out.later HB2.out⟩
  · rw [h2]
    rw [h1] at cN
    rw [h3] at cR
    clear h1 h2 h3 hr h
    obtain ⟨n, ver, t⟩ := d
    simp only at cN cR p0 p1 p2 HBX hW h4 h6 CF ⊢
    have hz : decide ((16384 : Int) < (t.size : Int)) = false := by simp; omega
    obtain ⟨m, hm⟩ : ∃ m, l.length = m := ⟨_, rfl⟩
    rw [hm] at h5 hl HH
    have hz2 : decide ((8 : Int) ≤ (m : Int)) = false := by simp; omega
    generalize fndD l n 0 = F at h6 CF
    go_enter Tryd.func20, Tryd.ntmps20
    go_wp2_with fail
    refine cN.mono ?_
    rintro e w1 ⟨rfl, hb1⟩
    have HB1 := Lib.hid hb1
    clear p0 p1 p2
    obtain ⟨p0, p1, p2⟩ := three_cells (bx_block HBX.out hb1)
    clear hb1 cN hW
    go_wp2_with fail
    refine (cR w1).mono ?_
    rintro e w2 ⟨rfl, hb2⟩
    have HB12 := Lib.hid (next HB1.out hb2)
    have HB2 := Lib.hid (next HBW.out HB12.out)
    clear p0 p1 p2
    obtain ⟨p0, p1, p2⟩ := three_cells (bx_block HBX.out HB12.out)
    have k0 := (HH.out.later HB2.out).c0
    clear hb2 cR
    go_wp2_with fail
    refine (CF.out w2 HB2.out).mono ?_
    rintro e w3 ⟨rfl, hw⟩
    replace hw := hw.symm
    subst hw
    go_wp2_with fail
    go_ret
    exact ⟨rfl, Keep.of HB2.out (Nat.le_refl _), _, HH.out.later HB2.out⟩
  · rw [h2] at hr; exact absurd rfl hr
end Go.Proofs.YtccmicmlkgkheaaDoor.D

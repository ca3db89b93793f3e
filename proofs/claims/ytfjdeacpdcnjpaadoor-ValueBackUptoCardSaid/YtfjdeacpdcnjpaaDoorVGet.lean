/- The contract of Get at one key whose part is a leaf. -/
import Derived.Test.YtfjdeacpdcnjpaaDoorVCopy
namespace Go.Proofs.YtfjdeacpdcnjpaaDoor.V
open Go.RowKit
open Go.Lib

theorem six_set {W : World} {q : Nat} {c0 c1 c2 c3 c4 c5 : Value} {t : TypeId} (h : W.heap[q]? = some (.cells #[c0, c1, c2, c3, c4, c5] t (0, 0))) (x0 x1 x2 x3 x4 x5 : Value) :
    ((((((W.setCell ⟨q, 0, none⟩ x0).setCell ⟨q, 1, none⟩ x1).setCell ⟨q, 2, none⟩ x2).setCell ⟨q, 3, none⟩ x3).setCell ⟨q, 4, none⟩ x4).setCell ⟨q, 5, none⟩ x5).heap[q]? = some (.cells #[x0, x1, x2, x3, x4, x5] t (0, 0)) :=
  Go.Joins.block_setCell (i := 5) (Go.Joins.block_setCell (i := 4) (Go.Joins.block_setCell (i := 3) (Go.Joins.block_setCell (i := 2) (Go.Joins.block_setCell (i := 1) (Go.Joins.block_setCell (i := 0) h x0) x1) x2) x3) x4) x5
theorem below6 {B q : Nat} {w W : World} (h : Below B w W) (hq : B ≤ q) (x0 x1 x2 x3 x4 x5 : Value) :
    Below B w ((((((W.setCell ⟨q, 0, none⟩ x0).setCell ⟨q, 1, none⟩ x1).setCell ⟨q, 2, none⟩ x2).setCell ⟨q, 3, none⟩ x3).setCell ⟨q, 4, none⟩ x4).setCell ⟨q, 5, none⟩ x5) :=
  (((((h.setCell (p := ⟨q, 0, none⟩) hq _).setCell (p := ⟨q, 1, none⟩) hq _).setCell (p := ⟨q, 2, none⟩) hq _).setCell (p := ⟨q, 3, none⟩) hq _).setCell (p := ⟨q, 4, none⟩) hq _).setCell (p := ⟨q, 5, none⟩) hq _

set_option maxHeartbeats 4000000 in
theorem get_one (on : Bool) (n : Int) (t : List UInt8) (l : List Val) (ks : List (List UInt8)) (lv kv : Value) (R : Nat → Prop) (w : World) (hv : ValIn w R (.mk 5 on n t l ks) lv kv) (hw : wt (.mk 5 on n t l ks) ≤ 1099511627776) (hkl : ks.length = l.length)
    (k : List UInt8) (i : Nat) (hi : i < l.length) (hk : Lib.idxOfS (ks.map fun k => ⟨k.toArray⟩) ⟨k.toArray⟩ = (i : Int)) (pg po pc : Nat) (hp : w.cell? ⟨pg, po, none⟩ = some (.string ⟨k.toArray⟩))
    (so' : Int) (on' : Bool) (n' : Int) (t' : List UInt8) (ks' : List (List UInt8)) (hli : l[i] = .mk so' on' n' t' [] ks') (hso : so' ≠ 4 ∧ so' ≠ 5) :
    Calls Tryd.prog 13 #[arg (.mk 5 on n t l ks) lv kv, .slice (some ⟨pg, po, none⟩) 1 pc] w fun e w' => ∃ lv' kv', e = .returned (.tuple #[arg (.mk so' on' n' t' [] ks') lv' kv', .bool true]) ∧ ValIn w' (fun g => w.heap.size ≤ g) (.mk so' on' n' t' [] ks') lv' kv' ∧ Below w.heap.size w w' := by
  have hV : ∀ {W : World}, Below w.heap.size w W → ValIn W R (.mk 5 on n t l ks) lv kv := fun hb => hv.later (fun b _ hlt => hb.block b hlt) (fun _ h => h) _ _ _
  have hv' := hv
  obtain ⟨⟨a1, c1, rfl, hl⟩, ⟨a2, c2, rfl, hkk⟩⟩ := hv'
  obtain ⟨g, off, xs, rfl, hg, hc, hL⟩ := hl.resolve_left (fun h => by rw [h] at hi; exact Nat.not_lt_zero _ hi)
  obtain ⟨so1, on1, n1, t1, l1, ks1, b1, d1, b2, d2, he, hpv, p0, p1, p2, p3, p4, p5⟩ := part_at i hL hc hi
  rw [hli] at he
  obtain ⟨rfl, rfl, rfl, rfl, rfl, rfl⟩ : so1 = so' ∧ on1 = on' ∧ n1 = n' ∧ t1 = t' ∧ l1 = [] ∧ ks1 = ks' := by cases he; exact ⟨rfl, rfl, rfl, rfl, rfl, rfl⟩
  obtain ⟨kg, ko, rfl, _, hkc⟩ := hkk.resolve_left (fun h => by rw [h] at hkl; simp at hkl; omega)
  have hw2 := hw
  simp only [wt] at hw2
  have hkb := wt_keys ks
  have cI : ∀ W, Below w.heap.size w W → Calls Tryd.prog 22 #[.slice (some ⟨kg, ko, none⟩) ks.length c2, .string ⟨k.toArray⟩] W fun e w' => e = .returned (.int .i64 (i : Int)) ∧ w' = W := fun W hb => by
    have h := Tryd.slices_Index_string kg ko ks.length c2 (ks.map fun k => ⟨k.toArray⟩) ⟨k.toArray⟩ W (by simp) (by omega) (fun j hj => by
      have := hkc j (.string ⟨(ks[j]'(by simpa using hj)).toArray⟩) (by simp at hj; simp [hj, strCell])
      rw [hb.cell (lt_of_cell this), this]
      simp at hj; simp [hj])
    rw [List.take_of_length_le (by simp), hk] at h
    exact h
  have hwm : wt l[i] ≤ wtL l := wtL_mem (List.getElem_mem hi)
  have cN : ∀ W, Below w.heap.size w W → Calls Tryd.prog 16 #[arg (.mk so1 on1 n1 t1 [] ks1) (.slice b1 0 d1) (.slice b2 ks1.length d2), .int .i64 65536] W fun e w' => e = .returned (.bool true) ∧ Below W.heap.size W w' := fun W hb => by
    have h := nest_any (.mk so1 on1 n1 t1 [] ks1) _ _ R 65536 W (hpv.later (fun b _ hlt => hb.block b hlt) (fun _ h => h) _ _ _) (by omega) (by rw [hli] at hwm; omega)
    exact h.mono fun e w' ⟨h1, h2⟩ => ⟨by rw [h1]; simp [nestP, nestL], h2⟩
  have hkb1 : ks1.length ≤ 1099511627776 := by rw [hli] at hwm; simp only [wt] at hwm; have := wt_keys ks1; omega
  have cC : ∀ W, Below w.heap.size w W → _ := fun W hb => copy_leaf so1 on1 n1 t1 ks1 (.slice b1 0 d1) (.slice b2 ks1.length d2) R W (hpv.later (fun b _ hlt => hb.block b hlt) (fun _ h => h) _ _ _) hkb1
  rw [hkl] at cI
  have HI := Lib.hid cI
  have HN := Lib.hid cN
  have HC := Lib.hid cC
  simp only [List.length_nil] at p4
  have hlb : l.length ≤ 1099511627776 := by have := wtL_length l; omega
  have hgw : g < w.heap.size := lt_of_cell p0
  rw [hkl]
  clear hV hv hw hpv hL hc hkc cI cN cC hw2 hkb hwm hkb1 he hli hk hkl
  simp only [arg, six', six, strCell] at HN HC ⊢
  go_enter Tryd.func13, Tryd.ntmps13
  go_wp2_with fail
  obtain ⟨t1', t2', tb, tz⟩ := two w (.cells #[.int .i64 5, .bool on, .int .i64 n, .string ⟨t.toArray⟩, .slice (some ⟨g, off, none⟩) l.length c1, .slice (some ⟨kg, ko, none⟩) l.length c2] 34) (.cells #[.int .i64 0, .bool false, .int .i64 0, .string ⟨#[]⟩, .slice none 0 0, .slice none 0 0] 34)
  have T1 := Lib.hid t1'
  have T2 := Lib.hid t2'
  have TB := Lib.hid tb
  generalize (w.alloc (.cells #[.int .i64 5, .bool on, .int .i64 n, .string ⟨t.toArray⟩, .slice (some ⟨g, off, none⟩) l.length c1, .slice (some ⟨kg, ko, none⟩) l.length c2] 34)).alloc (.cells #[.int .i64 0, .bool false, .int .i64 0, .string ⟨#[]⟩, .slice none 0 0, .slice none 0 0] 34) = w0 at t1' t2' tb tz T1 T2 TB ⊢
  clear t1' t2' tb
  have hpw : pg < w.heap.size := lt_of_cell hp
  go_loopw [11] (fun iv wr => Hid (wr.heap[w.heap.size + 1]? = some (.cells #[.int .i64 0, .bool false, .int .i64 0, .string ⟨#[]⟩, .slice none 0 0, .slice none 0 0] 34 (0, 0))) ∧ Hid (Below w.heap.size w wr) ∧ ((iv = .int .i64 0 ∧ Hid (wr.heap[w.heap.size]? = some (.cells #[.int .i64 5, .bool on, .int .i64 n, .string ⟨t.toArray⟩, .slice (some ⟨g, off, none⟩) l.length c1, .slice (some ⟨kg, ko, none⟩) l.length c2] 34 (0, 0)))) ∨ (iv = .int .i64 1 ∧ Hid (wr.heap[w.heap.size]? = some (.cells #[.int .i64 so1, .bool on1, .int .i64 n1, .string ⟨t1.toArray⟩, .slice b1 0 d1, .slice b2 ks1.length d2] 34 (0, 0)))))) (fun iv _ => 1 - (Go.RowKit.intOf iv).toNat)
  case atStart => exact ⟨T2, TB, .inl ⟨rfl, T1⟩⟩
  case round =>
    obtain ⟨HZ, HB, ⟨rfl, HX⟩ | ⟨rfl, HX⟩⟩ := hrel
    · obtain ⟨⟨k0, k1, k2, k3, k4, k5⟩, kf⟩ := cells_six HX.out
      have q := (HB.out.cell hpw).trans hp
      have cQ := HI.out wr HB.out
      have r0 := (HB.out.cell hgw).trans p0
      have r1 := (HB.out.cell hgw).trans p1
      have r2 := (HB.out.cell hgw).trans p2
      have r3 := (HB.out.cell hgw).trans p3
      have r4 := (HB.out.cell hgw).trans p4
      have r5 := (HB.out.cell hgw).trans p5
      clear hp p0 p1 p2 p3 p4 p5 HI HN HC
      go_wp2_with fail
      refine cQ.mono ?_
      rintro e w2 ⟨rfl, rfl⟩
      clear cQ
      go_wp2_with fail
      go_roundw
      case rel => exact ⟨Lib.hid ((far6 _ _ _ _ _ _ _ _ _ (by omega)).trans HZ.out), Lib.hid (below6 HB.out (Nat.le_refl _) _ _ _ _ _ _), .inr ⟨rfl, Lib.hid (six_set HX.out _ _ _ _ _ _)⟩⟩
      case measure => simp [Go.RowKit.intOf]
    · obtain ⟨⟨k0, k1, k2, k3, k4, k5⟩, kf⟩ := cells_six HX.out
      have cQ := HN.out wr HB.out
      clear hp p0 p1 p2 p3 p4 p5 HI HN
      go_wp2_with fail
      refine cQ.mono ?_
      rintro e w2 ⟨rfl, hb2⟩
      have hzz := lt_of_cell k0
      have HB2 := Lib.hid (HB.out.trans (hb2.mono HB.out.size))
      obtain ⟨⟨m0, m1, m2, m3, m4, m5⟩, mf⟩ := cells_six ((hb2.block w.heap.size hzz).trans HX.out)
      have HZ2 := Lib.hid ((hb2.block (w.heap.size + 1) (Array.getElem?_eq_some_iff.1 HZ.out).1).trans HZ.out)
      have cQ2 := HC.out w2 HB2.out
      clear cQ hb2 HC k0 k1 k2 k3 k4 k5 kf
      go_wp2_with fail
      refine cQ2.mono ?_
      rintro e w3 ⟨lv', kv', rfl, hv3, hb3⟩
      have hv4 := hv3
      obtain ⟨⟨a3, c3, rfl, _⟩, ⟨a4, c4, rfl, _⟩⟩ := hv4
      have hzy := (Array.getElem?_eq_some_iff.1 HZ2.out).1
      have HB3 := Lib.hid (HB2.out.trans (hb3.mono HB2.out.size))
      have HV3 := Lib.hid hv3
      obtain ⟨⟨j0, j1, j2, j3, j4, j5⟩, jf⟩ := cells_six ((hb3.block (w.heap.size + 1) hzy).trans HZ2.out)
      clear cQ2 hb3 hv3 m0 m1 m2 m3 m4 m5 mf
      simp only [List.length_nil]
      go_wp2_with fail
      refine bodyPost_ret (v := .tuple #[.agg #[.int .i64 so1, .bool on1, .int .i64 n1, .string ⟨t1.toArray⟩, .slice a3 0 c3, .slice a4 ks1.length c4], .bool true]) (by simp [results, Tryd.results13, go_sem, j0, j1, j2, j3, j4, j5]) rfl ?_
      exact ⟨_, _, rfl, HV3.out.later (fun g hg _ => far6 w3 (w.heap.size + 1) g _ _ _ _ _ _ (by have := HB2.out.size; omega)) (fun g hg => Nat.le_trans HB2.out.size hg) _ _ _, below6 HB3.out (Nat.le_succ _) _ _ _ _ _ _⟩
end Go.Proofs.YtfjdeacpdcnjpaaDoor.V

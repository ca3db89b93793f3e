/- The contract of copyOf. -/
import Derived.Test.YtfjdeacpdcnjpaaDoorVClone
namespace Go.Proofs.YtfjdeacpdcnjpaaDoor.V
open Go.RowKit
open Go.Lib

theorem keys_own {W : World} {B : Nat} {v : Value} {ks : List (List UInt8)} (h : W.ownsRow B 9 1 v ks.length (ks.map strCell)) : KeysIn W (fun g => B ≤ g) ks v := by
  rcases h.2 with ⟨rfl, h0⟩ | ⟨g, cap, cur, rfl, hg, hgg, hle, hcap, hsz, htake⟩
  · exact ⟨none, 0, by rw [h0], .inl (List.eq_nil_of_length_eq_zero h0)⟩
  · refine ⟨_, cap, rfl, .inr ⟨g, 0, rfl, hg, ?_⟩⟩
    intro j u hj
    have h := World.ownsRowF.cells (World.ownsRowF_of h) (g := g) rfl j u hj
    rw [show (⟨g, 0, none⟩ : Addr).add j = ⟨g, 0 + j, none⟩ from by unfold Addr.add; split <;> simp_all] at h
    exact h

set_option maxHeartbeats 4000000 in
/-- The contract of copyOf at a value that has no parts. -/
theorem copy_leaf (so : Int) (on : Bool) (n : Int) (t : List UInt8) (ks : List (List UInt8)) (lv kv : Value) (R : Nat → Prop) (w : World) (hv : ValIn w R (.mk so on n t [] ks) lv kv) (hkl : ks.length ≤ 1099511627776) :
    Calls Tryd.prog 23 #[arg (.mk so on n t [] ks) lv kv] w fun e w' => ∃ lv' kv', e = .returned (arg (.mk so on n t [] ks) lv' kv') ∧ ValIn w' (fun g => w.heap.size ≤ g) (.mk so on n t [] ks) lv' kv' ∧ Below w.heap.size w w' := by
  have hv' := hv
  obtain ⟨⟨a1, c1, rfl, _⟩, hk⟩ := hv'
  have hk' := hk
  obtain ⟨a2, c2, rfl, _⟩ := hk'
  have cK := fun W (hb : Below w.heap.size w W) => clone_keys ks (.slice a2 ks.length c2) R W (hk.later (fun b _ hb' => hb.block b hb') (fun _ h => h)) hkl
  have cL := fun W (hb : Below w.heap.size w W) => clone_values [] a1 c1 R W (parts_of (hv.later (fun b _ hb' => hb.block b hb') (fun _ h => h) _ _ _)) (by simp)
  have HL := Lib.hid cL
  clear cL hk hv
  simp only [arg, six', six, strCell, List.length_nil] at HL ⊢
  go_enter Tryd.func23, Tryd.ntmps23
  go_wp2_with fail
  obtain ⟨t1, t2, tb, tz⟩ := two w (.cells #[Value.int IntKind.i64 so, Value.bool on, Value.int IntKind.i64 n, Value.string { data := t.toArray }, Value.slice a1 0 c1, Value.slice a2 ks.length c2] 34) (.cells #[.int .i64 0, .bool false, .int .i64 0, .string ⟨#[]⟩, .slice none 0 0, .slice none 0 0] 34)
  refine (cK _ tb).mono ?_
  rintro e w1 ⟨kv1, rfl, hk1, hb1⟩
  have hx := (hb1.block w.heap.size (by omega)).trans t1
  have hy := (hb1.block (w.heap.size + 1) (by omega)).trans t2
  have HB1 := Lib.hid (tb.trans (hb1.mono (by omega)))
  have hz1 := hb1.size
  rw [tz] at hz1 hk1
  have HK1 := Lib.hid (keys_own hk1)
  obtain ⟨ka, kc, rfl⟩ := slice_form hk1
  obtain ⟨⟨k0, k1, k2, k3, k4, k5⟩, kf⟩ := cells_six hx
  clear cK hb1 tb tz t1 t2 hk1
  go_wp2_with fail
  have hb2 := HB1.out.setCell (p := ⟨w.heap.size, 5, none⟩) (Nat.le_refl _) (.slice ka ks.length kc)
  refine (HL.out _ hb2).mono ?_
  rintro e w2 ⟨lv1, xs, rfl, _, hl1, hb3⟩
  have hz3 := hb3.size
  have HB2 := Lib.hid (hb2.trans (hb3.mono (by simp; omega)))
  have hx2 := (hb3.block w.heap.size (by simp; omega)).trans (Go.Joins.block_setCell (i := 5) hx (.slice ka ks.length kc))
  have hy2 := (hb3.block (w.heap.size + 1) (by simp; omega)).trans ((Below.heap_setCell _ _ _ _ (by simp)).trans hy)
  have HK2 := Lib.hid (HK1.out.later (W' := w2) (R' := fun g => w.heap.size + 2 ≤ g) (fun g hg hlt => (hb3.block g (by simpa using hlt)).trans (Below.heap_setCell _ _ _ _ (by simp; omega))) (fun _ h => h))
  rw [sc_size] at hz3
  obtain ⟨la, lc, rfl⟩ := slice_form hl1
  clear hb2 hx hy k0 k1 k2 k3 k4 k5 kf HK1 hl1 hb3 HL
  obtain ⟨⟨k0, k1, k2, k3, k4, k5⟩, kf⟩ := cells_six hx2
  go_wp2_with fail
  have hb4 := HB2.out.setCell (p := ⟨w.heap.size, 4, none⟩) (Nat.le_refl _) (.slice la 0 lc)
  have hx4 := Go.Joins.block_setCell (i := 4) hx2 (.slice la 0 lc)
  have hy4 := (Below.heap_setCell w2 ⟨w.heap.size, 4, none⟩ (.slice la 0 lc) (w.heap.size + 1) (by simp)).trans hy2
  have HK4 := Lib.hid (HK2.out.later (W' := w2.setCell ⟨w.heap.size, 4, none⟩ (.slice la 0 lc)) (R' := fun g => w.heap.size + 2 ≤ g) (fun g hg hlt => Below.heap_setCell _ _ _ _ (by simp; omega)) (fun _ h => h))
  have HB4 := Lib.hid hb4
  generalize w2.setCell ⟨w.heap.size, 4, none⟩ (.slice la 0 lc) = w4 at hb4 hx4 hy4 HK4 HB4 ⊢
  clear hx2 hy2 HK2 k0 k1 k2 k3 k4 k5 kf hb4
  go_loopw [16] (fun iv wr => iv = .int .i64 0 ∧ wr = w4) (fun iv _ => 0)
  case atStart => exact ⟨rfl, rfl⟩
  case round =>
    obtain ⟨rfl, rfl⟩ := hrel
    obtain ⟨⟨k0, k1, k2, k3, k4, k5⟩, kf⟩ := cells_six hx4
    obtain ⟨⟨j0, j1, j2, j3, j4, j5⟩, jf⟩ := cells_six hy4
    go_wp2_with fail
    refine bodyPost_ret (v := .agg #[.int .i64 so, .bool on, .int .i64 n, .string ⟨t.toArray⟩, .slice la 0 lc, .slice ka ks.length kc]) (by simp [results, Tryd.results23, go_sem, j0, j1, j2, j3, j4, j5]) rfl ?_
    refine ⟨_, _, rfl, ⟨⟨la, lc, rfl, .inl rfl⟩, ?_⟩, ?_⟩
    · exact HK4.out.later (fun g hg _ => far6 wr (w.heap.size + 1) g _ _ _ _ _ _ (by omega)) (fun g hg => by omega)
    · exact (((((HB4.out.setCell (p := ⟨w.heap.size + 1, 0, none⟩) (Nat.le_succ _) _).setCell (p := ⟨w.heap.size + 1, 1, none⟩) (Nat.le_succ _) _).setCell (p := ⟨w.heap.size + 1, 2, none⟩) (Nat.le_succ _) _).setCell (p := ⟨w.heap.size + 1, 3, none⟩) (Nat.le_succ _) _).setCell (p := ⟨w.heap.size + 1, 4, none⟩) (Nat.le_succ _) _).setCell (p := ⟨w.heap.size + 1, 5, none⟩) (Nat.le_succ _) _
end Go.Proofs.YtfjdeacpdcnjpaaDoor.V

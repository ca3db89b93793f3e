/- The contract of one part that is read and appended to a list. -/
import Derived.Test.YtfjdeacpdcnjpaaGreatDoorVRead7
import Derived.Test.YtfjdeacpdcnjpaaGreatDoorVPart
import Derived.Deep.RegionLaw
import Derived.Deep.AppendLies
import Derived.OwnWalk
import Derived.Laws.Pointers
namespace Go.Proofs.YtfjdeacpdcnjpaaGreatDoor.V
open Go.RowKit
open Go.Lib

theorem infoV : (Tryz.prog.info? 34).map (fun i => (i.zero, i.size, i.bytes)) = some (some (.agg #[.int .i64 0, .bool false, .int .i64 0, .string ⟨#[]⟩, .slice none 0 0, .slice none 0 0]), 6, 88) := by kernel_rfl

theorem row_cells {W : World} {Bl g n cap : Nat} {xs : List Value} (h : W.ownsRow Bl 34 6 (.slice (some ⟨g, 0, none⟩) (n + 1) cap) (n + 1) xs) :
    Bl ≤ g ∧ (∀ j, j < 6 → ∃ u, W.cell? ⟨g, n * 6 + j, none⟩ = some u) ∧ (∀ i, W.frozen? ⟨g, i, none⟩ = false) := by
  rcases h.2 with ⟨h2, _⟩ | ⟨g', cap', cur, he, hg, hgg, hle, hcap, hsz, htake⟩
  · cases h2
  · cases he
    refine ⟨hg, fun j hj => ?_, fun i => by unfold World.frozen?; rw [hgg]; simp⟩
    have : n * 6 + j < cur.size := by rw [hsz]; omega
    exact ⟨cur[n * 6 + j], by unfold World.cell?; rw [hgg]; simp [this]⟩
theorem row_cells0 {W : World} {Bl g cap : Nat} {xs : List Value} (h : W.ownsRow Bl 34 6 (.slice (some ⟨g, 0, none⟩) (0 + 1) cap) (0 + 1) xs) :
    Bl ≤ g ∧ (∀ j, j < 6 → ∃ u, W.cell? ⟨g, j, none⟩ = some u) ∧ (∀ i, W.frozen? ⟨g, i, none⟩ = false) := by
  have := row_cells (n := 0) h
  simpa using this
theorem oneCell_six (so n : Int) (on : Bool) (t : List UInt8) (a b : Option Addr) (n1 c1 n2 c2 : Nat) : ∀ u ∈ [Value.int .i64 so, .bool on, .int .i64 n, .string ⟨t.toArray⟩, .slice a n1 c1, .slice b n2 c2], u.oneCell' = true := by
  intro u hu
  simp at hu
  rcases hu with rfl | rfl | rfl | rfl | rfl | rfl <;> rfl

set_option maxHeartbeats 8000000 in
set_option maxRecDepth 100000 in
theorem part_any (d b Bl n : Nat) (s : ByteArray) (o : Int) (so : Int) (lv kv : Value) (xs : List Value) (vs : List Val) (r : Res Val) (w : World)
    (hb : w.heap[b]? = some (.cells (six so false 0 [] lv kv).toArray 34 (0, 0))) (hown : w.ownsRow Bl 34 6 lv n xs) (hn : n = vs.length) (A : Nat → Prop) (hA : ∀ g, A g → g < w.heap.size) (hin : ListIn w (fun g => Bl ≤ g ∧ lv.ownBlock ≠ some g ∧ ¬ A g) vs xs)
    (hdl : d < Bl) (hbl : b < Bl) (hdb : d ≠ b) (hBl : Bl ≤ w.heap.size) (hn2 : n ≤ 1099511627776)
    (hval : Calls Tryz.prog 29 #[.pointer (some ⟨d, 0, none⟩)] w (ReadsV d s o r w)) :
    Calls Tryz.prog 65 #[.pointer (some ⟨d, 0, none⟩), .pointer (some ⟨b, 0, none⟩)] w (ReadsE d b s o so kv lv A Bl vs r w) := by
  obtain ⟨i0, hi0, hz0, hz1, hz2⟩ := info_parts infoV
  have HN := Lib.hid hn
  clear hn
  cases r with
  | bad =>
    go_enter Tryz.func65, Tryz.ntmps65
    go_wp2_with fail
    refine hval.mono ?_; rintro e w1 ⟨hm1, rfl, l1, hr1⟩
    simp only [six, strCell]
    go_wp2_with fail
    go_ret
    exact ⟨rfl, ⟨l1, hr1.below ((Below.refl _ _).alloc (Nat.le_refl _) _)⟩, hm1.alloc hm1.size _⟩
  | deep =>
    go_enter Tryz.func65, Tryz.ntmps65
    go_wp2_with fail
    refine hval.mono ?_; rintro e w1 ⟨hm1, rfl, l1, hr1⟩
    simp only [six, strCell]
    go_wp2_with fail
    go_ret
    exact ⟨rfl, ⟨l1, hr1.below ((Below.refl _ _).alloc (Nat.le_refl _) _)⟩, hm1.alloc hm1.size _⟩
  | ok v rest =>
    obtain ⟨vso, von, vn, vt, vl, vks⟩ := v
    have hn63 : (0 : Int) ≤ n := by omega
    have hn64 : (n : Int) < (n : Int) + 1 := by omega
    rcases hown.2 with ⟨rfl, rfl⟩ | ⟨g, cap, cur, rfl, hg, hgg, hle, hcap, hsz, htake⟩
    · go_enter Tryz.func65, Tryz.ntmps65
      go_wp2_with fail
      refine hval.mono ?_; rintro e w1 ⟨hm1, lv1, kv1, rfl, hv1, hr1⟩
      have hv1' := hv1
      obtain ⟨⟨a1, cap1, rfl, _⟩, ⟨a2, cap2, rfl, _⟩⟩ := hv1'
      have hlt := (Array.getElem?_eq_some_iff.1 hb).1
      have zw1 := hm1.size
      have hb1 : w1.heap[b]? = _ := (hm1.block b hlt (by omega)).trans hb
      have hown1 : w1.ownsRow Bl 34 6 (.slice none 0 0) 0 xs := ⟨hown.1, .inl ⟨rfl, rfl⟩⟩
      have HB := Lib.hid hb
      have HOWN := Lib.hid hown
      have HM1 := Lib.hid hm1
      have HV1 := Lib.hid hv1
      clear hown hval hb hv1
      simp only [six, strCell]
      go_wp2_with fail
      have hB2 : ∀ ob, (w1.alloc ob).heap[b]? = _ := fun ob => ((Below.refl w1.heap.size w1).alloc (Nat.le_refl _) ob).block b (by omega) |>.trans hb1
      have hP2 : ∀ ob, (w1.alloc ob).heap[w1.heap.size]? = some ob := fun ob => heap_alloc_new w1 ob
      have hO2 : ∀ ob, (w1.alloc ob).ownsRow Bl 34 6 (.slice none 0 0) 0 xs := fun ob => hown1.alloc ob
      have hb2 := hB2 (.cells #[.int .i64 vso, .bool von, .int .i64 vn, .string ⟨vt.toArray⟩, .slice a1 vl.length cap1, .slice a2 vks.length cap2] 34)
      have hp2 := hP2 (.cells #[.int .i64 vso, .bool von, .int .i64 vn, .string ⟨vt.toArray⟩, .slice a1 vl.length cap1, .slice a2 vks.length cap2] 34)
      have hown2 := hO2 (.cells #[.int .i64 vso, .bool von, .int .i64 vn, .string ⟨vt.toArray⟩, .slice a1 vl.length cap1, .slice a2 vks.length cap2] 34)
      have hbel2 : Below w1.heap.size w1 (w1.alloc (.cells #[.int .i64 vso, .bool von, .int .i64 vn, .string ⟨vt.toArray⟩, .slice a1 vl.length cap1, .slice a2 vks.length cap2] 34)) := (Below.refl _ _).alloc (Nat.le_refl _) _
      have zw2 : (w1.alloc (.cells #[.int .i64 vso, .bool von, .int .i64 vn, .string ⟨vt.toArray⟩, .slice a1 vl.length cap1, .slice a2 vks.length cap2] 34)).heap.size = w1.heap.size + 1 := by simp
      clear hB2 hP2 hO2
      generalize w1.alloc (.cells #[.int .i64 vso, .bool von, .int .i64 vn, .string ⟨vt.toArray⟩, .slice a1 vl.length cap1, .slice a2 vks.length cap2] 34) = w2 at *
      have hbt : b < w2.heap.size := by omega
      have hbs : w1.heap.size < w2.heap.size := by omega
      have hbn : ¬ b = w1.heap.size := by omega
      have HZ2 := Lib.hid zw2
      have HBEL := Lib.hid hbel2
      clear zw2 hbel2
      generalize hbp : w1.heap.size = bp at *
      have HBP := Lib.hid hbp
      clear hbp
      have k4 : w2.cell? ⟨b, 4, none⟩ = some (.slice none 0 0) := by unfold World.cell?; rw [hb2]; rfl
      have p0 : w2.cell? ⟨bp, 0, none⟩ = some (.int .i64 vso) := by unfold World.cell?; rw [hp2]; rfl
      have p1 : w2.cell? ⟨bp, 1, none⟩ = some (.bool von) := by unfold World.cell?; rw [hp2]; rfl
      have p2 : w2.cell? ⟨bp, 2, none⟩ = some (.int .i64 vn) := by unfold World.cell?; rw [hp2]; rfl
      have p3 : w2.cell? ⟨bp, 3, none⟩ = some (.string ⟨vt.toArray⟩) := by unfold World.cell?; rw [hp2]; rfl
      have p4 : w2.cell? ⟨bp, 4, none⟩ = some (.slice a1 vl.length cap1) := by unfold World.cell?; rw [hp2]; rfl
      have p5 : w2.cell? ⟨bp, 5, none⟩ = some (.slice a2 vks.length cap2) := by unfold World.cell?; rw [hp2]; rfl
      have hf2 : w2.frozen? ⟨b, 4, none⟩ = false := by unfold World.frozen?; rw [hb2]; simp
      have hbg : some b ≠ (Value.slice none 0 0).ownBlock := by simp [Value.ownBlock]
      go_region_law (refine step_append_lies _ (by rfl) _ _ _ (by rfl) Bl 34 i0 _ 6 88 Tryz.underlying32 hi0 hz0 hz1 hz2 rfl (by omega) (.slice none 0 0) 0 xs (by rfl) ((hown2.alloc _).drew) ⟨w2.heap.size, 0, none⟩ 1 1 [.int .i64 0, .bool false, .int .i64 0, .string ⟨#[]⟩, .slice none 0 0, .slice none 0 0] (by rfl) (by rfl) (World.news_of_block (cs := #[.int .i64 0, .bool false, .int .i64 0, .string ⟨#[]⟩, .slice none 0 0, .slice none 0 0]) (t := 34) (fr := (0, 0)) (heap_alloc_new w2 _)) (by simp [Value.oneCell']) (by omega) (by unfold maxLen; omega) (by omega) (by simp; omega) (w2.heap.size + 1) (by simp) ?_; intro gg capg w3 hown3 hgrow hat hlt3; obtain ⟨rg, rc, rf⟩ := row_cells0 hown3; obtain ⟨u0, r0⟩ := rc 0 (by omega); obtain ⟨u1, r1⟩ := rc 1 (by omega); obtain ⟨u2, r2⟩ := rc 2 (by omega); obtain ⟨u3, r3⟩ := rc 3 (by omega); obtain ⟨u4, r4⟩ := rc 4 (by omega); obtain ⟨u5, r5⟩ := rc 5 (by omega); clear rc; have kb3 := (hgrow.cell_far ⟨b, 4, none⟩ (by simp; omega) hbg).trans ((World.cell?_alloc_past _ _ _ hbt).trans k4); have fb3 := (hgrow.frozen_far ⟨b, 4, none⟩ (by simp; omega) hbg).trans ((World.frozen?_alloc_past _ _ _ hbt).trans hf2))
      all_goals
        clear r0 r1 r2 r3 r4 r5 rf kb3 fb3 k4 p0 p1 p2 p3 p4 p5 hf2
        go_wp2_with fail
        go_ret
        have hgb : gg ≠ b := by omega
        have hbel3 : Below w1.heap.size w1 w2 := by rw [HBP.out]; exact HBEL.out
        have hz3 : w2.heap.size = w1.heap.size + 1 := by rw [HZ2.out, HBP.out]
        have fin := fun W' => part_done (W' := W') (rest := rest) (kv := kv) (so := so) (o := o) HM1.out hbel3 hz3 hgrow HOWN.out HN.out hown3 hat hA hin HV1.out hr1 HB.out hdl hbl hdb hBl
        refine fin _ ?_
        first | (with_reducible exact putIn_a _ _ _ _ _ _ _ _ _ _ _ hgb) | (with_reducible exact putIn_b _ _ _ _ _ _ _ _ _ _ _ hgb)
    · go_enter Tryz.func65, Tryz.ntmps65
      go_wp2_with fail
      refine hval.mono ?_; rintro e w1 ⟨hm1, lv1, kv1, rfl, hv1, hr1⟩
      have hv1' := hv1
      obtain ⟨⟨a1, cap1, rfl, _⟩, ⟨a2, cap2, rfl, _⟩⟩ := hv1'
      have hlt := (Array.getElem?_eq_some_iff.1 hb).1
      have hglt := (Array.getElem?_eq_some_iff.1 hgg).1
      have zw1 := hm1.size
      have hb1 : w1.heap[b]? = _ := (hm1.block b hlt (by omega)).trans hb
      have hg1 : w1.heap[g]? = _ := (hm1.block g hglt (by omega)).trans hgg
      have hown1 : w1.ownsRow Bl 34 6 (.slice (some ⟨g, 0, none⟩) n cap) n xs := ⟨hown.1, .inr ⟨g, cap, cur, rfl, hg, hg1, hle, hcap, hsz, htake⟩⟩
      have HB := Lib.hid hb
      have HOWN := Lib.hid hown
      have HM1 := Lib.hid hm1
      have HV1 := Lib.hid hv1
      clear hown hval hb hgg hv1
      simp only [six, strCell]
      go_wp2_with fail
      have hB2 : ∀ ob, (w1.alloc ob).heap[b]? = _ := fun ob => ((Below.refl w1.heap.size w1).alloc (Nat.le_refl _) ob).block b (by omega) |>.trans hb1
      have hP2 : ∀ ob, (w1.alloc ob).heap[w1.heap.size]? = some ob := fun ob => heap_alloc_new w1 ob
      have hO2 : ∀ ob, (w1.alloc ob).ownsRow Bl 34 6 (.slice (some ⟨g, 0, none⟩) n cap) n xs := fun ob => hown1.alloc ob
      have hb2 := hB2 (.cells #[.int .i64 vso, .bool von, .int .i64 vn, .string ⟨vt.toArray⟩, .slice a1 vl.length cap1, .slice a2 vks.length cap2] 34)
      have hp2 := hP2 (.cells #[.int .i64 vso, .bool von, .int .i64 vn, .string ⟨vt.toArray⟩, .slice a1 vl.length cap1, .slice a2 vks.length cap2] 34)
      have hown2 := hO2 (.cells #[.int .i64 vso, .bool von, .int .i64 vn, .string ⟨vt.toArray⟩, .slice a1 vl.length cap1, .slice a2 vks.length cap2] 34)
      have hbel2 : Below w1.heap.size w1 (w1.alloc (.cells #[.int .i64 vso, .bool von, .int .i64 vn, .string ⟨vt.toArray⟩, .slice a1 vl.length cap1, .slice a2 vks.length cap2] 34)) := (Below.refl _ _).alloc (Nat.le_refl _) _
      have zw2 : (w1.alloc (.cells #[.int .i64 vso, .bool von, .int .i64 vn, .string ⟨vt.toArray⟩, .slice a1 vl.length cap1, .slice a2 vks.length cap2] 34)).heap.size = w1.heap.size + 1 := by simp
      clear hB2 hP2 hO2
      generalize w1.alloc (.cells #[.int .i64 vso, .bool von, .int .i64 vn, .string ⟨vt.toArray⟩, .slice a1 vl.length cap1, .slice a2 vks.length cap2] 34) = w2 at *
      have hbt : b < w2.heap.size := by omega
      have hbs : w1.heap.size < w2.heap.size := by omega
      have hbn : ¬ b = w1.heap.size := by omega
      have HZ2 := Lib.hid zw2
      have HBEL := Lib.hid hbel2
      clear zw2 hbel2
      generalize hbp : w1.heap.size = bp at *
      have HBP := Lib.hid hbp
      clear hbp
      have k4 : w2.cell? ⟨b, 4, none⟩ = some (.slice (some ⟨g, 0, none⟩) n cap) := by unfold World.cell?; rw [hb2]; rfl
      have p0 : w2.cell? ⟨bp, 0, none⟩ = some (.int .i64 vso) := by unfold World.cell?; rw [hp2]; rfl
      have p1 : w2.cell? ⟨bp, 1, none⟩ = some (.bool von) := by unfold World.cell?; rw [hp2]; rfl
      have p2 : w2.cell? ⟨bp, 2, none⟩ = some (.int .i64 vn) := by unfold World.cell?; rw [hp2]; rfl
      have p3 : w2.cell? ⟨bp, 3, none⟩ = some (.string ⟨vt.toArray⟩) := by unfold World.cell?; rw [hp2]; rfl
      have p4 : w2.cell? ⟨bp, 4, none⟩ = some (.slice a1 vl.length cap1) := by unfold World.cell?; rw [hp2]; rfl
      have p5 : w2.cell? ⟨bp, 5, none⟩ = some (.slice a2 vks.length cap2) := by unfold World.cell?; rw [hp2]; rfl
      have hf2 : w2.frozen? ⟨b, 4, none⟩ = false := by unfold World.frozen?; rw [hb2]; simp
      have hbg : some b ≠ some g := by simp; omega
      go_region_law (refine step_append_lies _ (by rfl) _ _ _ (by rfl) Bl 34 i0 _ 6 88 Tryz.underlying32 hi0 hz0 hz1 hz2 rfl (by omega) (.slice (some ⟨g, 0, none⟩) n cap) n xs (by rfl) ((hown2.alloc _).drew) ⟨w2.heap.size, 0, none⟩ 1 1 [.int .i64 0, .bool false, .int .i64 0, .string ⟨#[]⟩, .slice none 0 0, .slice none 0 0] (by rfl) (by rfl) (World.news_of_block (cs := #[.int .i64 0, .bool false, .int .i64 0, .string ⟨#[]⟩, .slice none 0 0, .slice none 0 0]) (t := 34) (fr := (0, 0)) (heap_alloc_new w2 _)) (by simp [Value.oneCell']) (by omega) (by unfold maxLen; omega) (by omega) (by simp; omega) (w2.heap.size + 1) (by simp) ?_; intro gg capg w3 hown3 hgrow hat hlt3; obtain ⟨rg, rc, rf⟩ := row_cells hown3; obtain ⟨u0, r0⟩ := rc 0 (by omega); obtain ⟨u1, r1⟩ := rc 1 (by omega); obtain ⟨u2, r2⟩ := rc 2 (by omega); obtain ⟨u3, r3⟩ := rc 3 (by omega); obtain ⟨u4, r4⟩ := rc 4 (by omega); obtain ⟨u5, r5⟩ := rc 5 (by omega); clear rc; rw [Nat.add_zero] at r0; have kb3 := (hgrow.cell_far ⟨b, 4, none⟩ (by simp; omega) hbg).trans ((World.cell?_alloc_past _ _ _ hbt).trans k4); have fb3 := (hgrow.frozen_far ⟨b, 4, none⟩ (by simp; omega) hbg).trans ((World.frozen?_alloc_past _ _ _ hbt).trans hf2))
      all_goals
        clear r0 r1 r2 r3 r4 r5 rf kb3 fb3 k4 p0 p1 p2 p3 p4 p5 hf2
        go_wp2_with fail
        go_ret
        have hgb : gg ≠ b := by omega
        have hbel3 : Below w1.heap.size w1 w2 := by rw [HBP.out]; exact HBEL.out
        have hz3 : w2.heap.size = w1.heap.size + 1 := by rw [HZ2.out, HBP.out]
        have fin := fun W' => part_done (W' := W') (rest := rest) (kv := kv) (so := so) (o := o) HM1.out hbel3 hz3 hgrow HOWN.out HN.out hown3 hat hA hin HV1.out hr1 HB.out hdl hbl hdb hBl
        refine fin _ ?_
        first | (with_reducible exact putIn_a _ _ _ _ _ _ _ _ _ _ _ hgb) | (with_reducible exact putIn_b _ _ _ _ _ _ _ _ _ _ _ hgb)
end Go.Proofs.YtfjdeacpdcnjpaaGreatDoor.V

/- The contract of an index's Place. -/
import Derived.Test.YtlmefchcljfjlaaDoorLOff
import Derived.Deep.RegionHeld3
import Derived.Deep.RegionWith
import Derived.BigRegion
import Derived.IntWalk
namespace Go.Proofs.YtlmefchcljfjlaaDoor.L
open Go.RowKit
open Go.Lib hiding intOf
open Go.Proofs.YtlmefchcljfjlaaDoor.U

def PlaceAns (p : Int × Int × Int) (w : World) (e : Ending) (w' : World) : Prop := e = .returned (.tuple #[.agg #[.int .i64 p.1, .int .i64 p.2.1], .int .i64 p.2.2]) ∧ Below w.heap.size w w'
theorem placeAns {p : Int × Int × Int} {a b c : Int} {w w' : World} (h : p = (a, b, c)) (hb : Below w.heap.size w w') : PlaceAns p w (.returned (.tuple #[.agg #[.int .i64 a, .int .i64 b], .int .i64 c])) w' := ⟨by rw [h], hb⟩
theorem two_frozen {w : World} {q : Nat} {x y : Value} {t : TypeId} (h : w.heap[q]? = some (.cells #[x, y] t (0, 0))) : w.frozen? ⟨q, 0, none⟩ = false ∧ w.frozen? ⟨q, 1, none⟩ = false := by
  unfold World.frozen?; rw [h]; simp
theorem place_nil (at' : Int) (w : World) : Calls Tryd.prog 22 #[.pointer none, .int .i64 at'] w (PlaceAns (0, 0, 1) w) := by
  go_enter Tryd.func22, Tryd.ntmps22
  go_wp2_with fail
  refine bodyPost_ret (v := .tuple #[.agg #[.int .i64 0, .int .i64 0], .int .i64 1]) (by simp [results, Tryd.results22, go_sem]) rfl ?_
  exact placeAns rfl ((Below.refl _ _).alloc (Nat.le_refl _) _)

set_option maxHeartbeats 1000000 in
set_option maxRecDepth 20000 in
theorem place_any (b : Nat) (s : ByteArray) (v : Value) (at' : Int) (w : World) (h : Idx b s v w) (hs : s.size ≤ 1099511627776) (ha : -9223372036854775808 ≤ at' ∧ at' < 9223372036854775808) (hT : Tabs w) :
    Calls Tryd.prog 22 #[.pointer (some ⟨b, 0, none⟩), .int .i64 at'] w (PlaceAns (placeL s at') w) := by
  obtain ⟨W, hW⟩ : ∃ W, w.alloc (.cells #[.int .i64 0, .int .i64 0] 30) = W := ⟨_, rfl⟩
  have hbw : Below w.heap.size w W := by rw [← hW]; exact (Below.refl _ _).alloc (Nat.le_refl _) _
  have hbx : W.heap[w.heap.size]? = some (.cells #[.int .i64 0, .int .i64 0] 30 (0, 0)) := by rw [← hW]; exact heap_alloc_new _ _
  have hzW : w.heap.size < W.heap.size := by rw [← hW, World.size_alloc]; omega
  have hi := h.later hbw
  have hbz := hi.blk.lt
  have hn := ahead_le (ends s) at'
  have hlo := ahead_low (E := ends s) at'
  have hle := ln_le s _ hn
  obtain ⟨k1, k2⟩ := nx_le_en (rise_ends s) _ hn
  have cS := search_any b s v at' W hi hs
  have cB := fun W' (hb : Below W.heap.size W W') => begin_any b s v (ahead (ends s) at') W' (hi.later hb) hs hn
  have cE := fun W' (hb : Below W.heap.size W W') => end_any b s v (ahead (ends s) at') W' (hi.later hb) hs hn
  have cU := fun W' (hb : Below W.heap.size W W') => unit_any (ln s (ahead (ends s) at')) (at' - nx (ends s) (ahead (ends s) at')) W' (by omega) (Utf8Tabs_below (Utf8Tabs_below hT hbw) hb)
  have hob := uniB_or (ln s (ahead (ends s) at')) (at' - nx (ends s) (ahead (ends s) at'))
  have hx0 : at' < 0 → nx (ends s) (ahead (ends s) at') = 0 := fun h => by rw [hlo h]; rfl
  unfold placeL
  unfold ln at *
  generalize ahead (ends s) at' = n at *
  generalize nx (ends s) n = x at *
  generalize en (ends s) s.size n = y at *
  have hnl : n ≤ s.size := by have := ends_le s; omega
  obtain ⟨d, hd⟩ : ∃ d, at' - (x : Int) = d := ⟨_, rfl⟩
  have hd1 : -9223372036854775808 ≤ at' - (x : Int) ∧ at' - (x : Int) < 9223372036854775808 := by
    by_cases h0 : at' < 0
    · rw [hx0 h0]; simp; omega
    · omega
  have hwr : Hid (IntKind.i64.wrap (at' - (x : Int)) = d) := Lib.hid (by rw [← hd]; exact IntWalk.i64_in _ (by omega))
  rw [hd] at cU hob ⊢
  obtain ⟨t, ht⟩ : ∃ t, s.extract x y = t := ⟨_, rfl⟩
  rw [ht] at cU hob ⊢
  have c0 := hi.blk.c0
  have c1 := hi.blk.c1
  have HBW := Lib.hid hbw
  have HBX := Lib.hid hbx
  have CB := Lib.hid cB
  have CE := Lib.hid cE
  have CU := Lib.hid cU
  have HC0 := Lib.hid c0
  have HTX := Lib.hid ht
  clear hbw hbx hi h cB cE cU hlo hle hn hx0 hT hd1 hd ha ht c0
  generalize uniB t d = p at CU hob ⊢
  obtain ⟨r, hr⟩ : ∃ r : Int × Int × Int, (if p.2 = 0 then ((n : Int), p.1, 0) else (0, 0, 51)) = r := ⟨_, rfl⟩
  rw [hr]
  have hpr : (p.2 = 0 ∧ r = ((n : Int), p.1, 0)) ∨ ((p.2 == 0) = false ∧ r = (0, 0, 51)) := by
    by_cases h0 : p.2 = 0
    · rw [if_pos h0] at hr; exact .inl ⟨h0, hr.symm⟩
    · rw [if_neg h0] at hr; exact .inr ⟨by simpa using h0, hr.symm⟩
  clear hr hob
  obtain ⟨p1, p2⟩ := p
  simp only at CU hpr
  rcases hpr with ⟨rfl, rfl⟩ | ⟨hp2, rfl⟩
  · go_enter Tryd.func22, Tryd.ntmps22
    go_wp2_with fail
    refine cS.mono ?_
    rintro e w1 ⟨yy, rfl, hb⟩
    have HB1 := Lib.hid hb
    clear cS hb c1 hW
    go_wp2_with fail
    refine (CB.out w1 HB1.out).mono ?_
    rintro e w2 ⟨rfl, rfl⟩
    go_upto_region 5 with fail
    have cE2 : ∀ X, (X.cell? ⟨b, 0, none⟩ = some (.string s) ∧ Below w1.heap.size w1 X) → Calls Tryd.prog 37 #[.pointer (some ⟨b, 0, none⟩), .int .i64 n] X fun e w' => e = .returned (.int .i64 y) ∧ (w'.cell? ⟨b, 0, none⟩ = some (.string s) ∧ Below w1.heap.size w1 w') := fun X hS =>
      (CE.out X (HB1.out.trans (hS.2.mono HB1.out.size))).mono fun e w' ⟨h1, h2⟩ => ⟨h1, by rw [← h2]; exact hS⟩
    have cU2 : ∀ X, (X.cell? ⟨b, 0, none⟩ = some (.string s) ∧ Below w1.heap.size w1 X) → Calls Tryd.prog 36 #[.string (s.extract x y), .int .i64 (IntKind.i64.wrap (at' - (x : Int)))] X fun e w' => e = .returned (.tuple #[.int .i64 p1, .int .i64 0]) ∧ (w'.cell? ⟨b, 0, none⟩ = some (.string s) ∧ Below w1.heap.size w1 w') := fun X hS => by
      rw [hwr.out, HTX.out]
      exact (CU.out X (HB1.out.trans (hS.2.mono HB1.out.size))).mono fun e w' ⟨h1, h2⟩ => ⟨h1, (h2.cell (p := ⟨b, 0, none⟩) (by have := HB1.out.size; have := hS.2.size; simp only; omega)).trans hS.1, hS.2.trans (h2.mono hS.2.size)⟩
    have hS0 : w1.drew.cell? ⟨b, 0, none⟩ = some (.string s) ∧ Below w1.heap.size w1 w1.drew := ⟨(HB1.out.cell (p := ⟨b, 0, none⟩) hbz).trans HC0.out, (Below.refl _ _).drew⟩
    clear CB CE CU HTX hwr
    go_region_held3 (fun X => X.cell? ⟨b, 0, none⟩ = some (.string s) ∧ Below w1.heap.size w1 X) (with_reducible (repeat (first | assumption))) (first
        | (go_at_call 37; (with_reducible refine (cE2 _ ?_).mono ?_); assumption; rintro e w3 ⟨rfl, hS3⟩)
        | (go_at_call 36; (with_reducible refine (cU2 _ ?_).mono ?_); assumption; rintro e w4 ⟨rfl, hS4⟩))
    have hz4 : w.heap.size < w1.heap.size := by have := HB1.out.size; omega
    have hbq := (hS4.2.block w.heap.size hz4).trans ((HB1.out.block w.heap.size hzW).trans HBX.out)
    obtain ⟨r0, r1⟩ := two_cells hbq
    obtain ⟨f0, f1⟩ := two_frozen hbq
    have HBE := Lib.hid (HBW.out.trans ((HB1.out.trans (hS4.2.mono HB1.out.size)).mono HBW.out.size))
    clear hbq hS4 hS3 hS0 cE2 cU2
    go_wp2_with fail
    refine bodyPost_ret (v := .tuple #[.agg #[.int .i64 n, .int .i64 p1], .int .i64 0]) (by simp [results, Tryd.results22, go_sem, r0, r1]) rfl ?_
    exact placeAns rfl ((HBE.out.setCell (p := ⟨w.heap.size, 0, none⟩) (Nat.le_refl _) _).setCell (p := ⟨w.heap.size, 1, none⟩) (Nat.le_refl _) _)
  · go_enter Tryd.func22, Tryd.ntmps22
    go_wp2_with fail
    refine cS.mono ?_
    rintro e w1 ⟨yy, rfl, hb⟩
    have HB1 := Lib.hid hb
    clear cS hb c1 hW
    go_wp2_with fail
    refine (CB.out w1 HB1.out).mono ?_
    rintro e w2 ⟨rfl, rfl⟩
    go_upto_region 5 with fail
    have cE2 : ∀ X, (X.cell? ⟨b, 0, none⟩ = some (.string s) ∧ Below w1.heap.size w1 X) → Calls Tryd.prog 37 #[.pointer (some ⟨b, 0, none⟩), .int .i64 n] X fun e w' => e = .returned (.int .i64 y) ∧ (w'.cell? ⟨b, 0, none⟩ = some (.string s) ∧ Below w1.heap.size w1 w') := fun X hS =>
      (CE.out X (HB1.out.trans (hS.2.mono HB1.out.size))).mono fun e w' ⟨h1, h2⟩ => ⟨h1, by rw [← h2]; exact hS⟩
    have cU2 : ∀ X, (X.cell? ⟨b, 0, none⟩ = some (.string s) ∧ Below w1.heap.size w1 X) → Calls Tryd.prog 36 #[.string (s.extract x y), .int .i64 (IntKind.i64.wrap (at' - (x : Int)))] X fun e w' => e = .returned (.tuple #[.int .i64 p1, .int .i64 p2]) ∧ (w'.cell? ⟨b, 0, none⟩ = some (.string s) ∧ Below w1.heap.size w1 w') := fun X hS => by
      rw [hwr.out, HTX.out]
      exact (CU.out X (HB1.out.trans (hS.2.mono HB1.out.size))).mono fun e w' ⟨h1, h2⟩ => ⟨h1, (h2.cell (p := ⟨b, 0, none⟩) (by have := HB1.out.size; have := hS.2.size; simp only; omega)).trans hS.1, hS.2.trans (h2.mono hS.2.size)⟩
    have hS0 : w1.drew.cell? ⟨b, 0, none⟩ = some (.string s) ∧ Below w1.heap.size w1 w1.drew := ⟨(HB1.out.cell (p := ⟨b, 0, none⟩) hbz).trans HC0.out, (Below.refl _ _).drew⟩
    clear CB CE CU HTX hwr
    go_region_held3 (fun X => X.cell? ⟨b, 0, none⟩ = some (.string s) ∧ Below w1.heap.size w1 X) (with_reducible (repeat (first | assumption))) (first
        | (go_at_call 37; (with_reducible refine (cE2 _ ?_).mono ?_); assumption; rintro e w3 ⟨rfl, hS3⟩)
        | (go_at_call 36; (with_reducible refine (cU2 _ ?_).mono ?_); assumption; rintro e w4 ⟨rfl, hS4⟩))
    have hz4 : w.heap.size < w1.heap.size := by have := HB1.out.size; omega
    have hbq := (hS4.2.block w.heap.size hz4).trans ((HB1.out.block w.heap.size hzW).trans HBX.out)
    obtain ⟨r0, r1⟩ := two_cells hbq
    obtain ⟨f0, f1⟩ := two_frozen hbq
    have HBE := Lib.hid (HBW.out.trans ((HB1.out.trans (hS4.2.mono HB1.out.size)).mono HBW.out.size))
    clear hbq hS4 hS3 hS0 cE2 cU2
    go_wp2_with fail
    refine bodyPost_ret (v := .tuple #[.agg #[.int .i64 0, .int .i64 0], .int .i64 51]) (by simp [results, Tryd.results22, go_sem, r0, r1]) rfl ?_
    first | exact placeAns rfl ((HBE.out.setCell (p := ⟨w.heap.size, 0, none⟩) (Nat.le_refl _) _).setCell (p := ⟨w.heap.size, 1, none⟩) (Nat.le_refl _) _) | exact placeAns rfl HBE.out
end Go.Proofs.YtlmefchcljfjlaaDoor.L

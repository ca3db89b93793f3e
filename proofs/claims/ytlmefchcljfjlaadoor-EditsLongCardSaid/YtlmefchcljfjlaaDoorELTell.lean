/- The walk of the statement 'the edit between, and where a byte stands' of layer 6. -/
import Derived.Test.YtlmefchcljfjlaaDoorELApply
namespace Go.Proofs.YtlmefchcljfjlaaDoor.E
open Go.RowKit
open Go.Lib hiding intOf
open Go.Proofs.YtlmefchcljfjlaaDoor.U Go.Proofs.YtlmefchcljfjlaaDoor.L

theorem refBetw_is {a b : ByteArray} {n k : Nat} {x : EdP} (w : World) (ha : a.size ≤ 400) (hb : b.size ≤ 400) (hok : okB a = true) (hok2 : okB b = true) (h : BetwE a b n k x) :
    Calls Tryd.prog 13 #[.string a, .string b] w fun e w' => e = .returned (.tuple #[.agg #[.int .i64 x.fl, .int .i64 x.fu, .int .i64 x.tl, .int .i64 x.tu, .string x.t], .int .i64 0]) ∧ Below w.heap.size w w' := by
  refine (refBetween_any a b w ha hb).mono ?_
  rintro e w' ⟨hb', ⟨_, _, n', k', y, hy, rfl⟩ | ⟨hq, _⟩⟩
  · rw [h.one hy]; exact ⟨rfl, hb'⟩
  · rcases hq with hq | hq
    · rw [hok] at hq; cases hq
    · rw [hok2] at hq; cases hq
theorem refBetw_no {a b : ByteArray} (w : World) (ha : a.size ≤ 400) (hb : b.size ≤ 400) (hq : okB a = false ∨ okB b = false) :
    Calls Tryd.prog 13 #[.string a, .string b] w fun e w' => e = .returned (.tuple #[.agg #[.int .i64 0, .int .i64 0, .int .i64 0, .int .i64 0, .string ⟨#[]⟩], .int .i64 11]) ∧ Below w.heap.size w w' := by
  refine (refBetween_any a b w ha hb).mono ?_
  rintro e w' ⟨hb', ⟨h1, h2, _⟩ | ⟨_, rfl⟩⟩
  · rcases hq with hq | hq
    · rw [hq] at h1; cases h1
    · rw [hq] at h2; cases h2
  · exact ⟨rfl, hb'⟩
/-- What both Betweens answer of two texts. -/
theorem betws (a b : ByteArray) (ha : a.size ≤ 400) (hb : b.size ≤ 400) : ∃ (x : EdP) (c : Int), ∀ w, Tabs w →
    (Calls Tryd.prog 12 #[.string a, .string b] w fun e w' => e = .returned (.tuple #[.agg #[.int .i64 x.fl, .int .i64 x.fu, .int .i64 x.tl, .int .i64 x.tu, .string x.t], .int .i64 c]) ∧ Below w.heap.size w w') ∧
    (Calls Tryd.prog 13 #[.string a, .string b] w fun e w' => e = .returned (.tuple #[.agg #[.int .i64 x.fl, .int .i64 x.fu, .int .i64 x.tl, .int .i64 x.tu, .string x.t], .int .i64 c]) ∧ Below w.heap.size w w') := by
  by_cases h : okB a = true ∧ okB b = true
  · obtain ⟨n, k, hB⟩ := betw_ex b h.1
    obtain ⟨x, hx, _⟩ := betwE_of hB h.1 h.2
    exact ⟨x, 0, fun w hT => ⟨betw_is w (by omega) (by omega) hT h.1 h.2 hx, refBetw_is w ha hb h.1 h.2 hx⟩⟩
  · have hq : okB a = false ∨ okB b = false := by
      cases h1 : okB a
      · exact .inl rfl
      · cases h2 : okB b
        · exact .inr rfl
        · exact absurd ⟨h1, h2⟩ h
    exact ⟨⟨0, 0, 0, 0, ⟨#[]⟩⟩, 11, fun w hT => ⟨betw_no w (by omega) (by omega) hT hq, refBetw_no w ha hb hq⟩⟩
theorem refMove_is (s : ByteArray) (e : EdP) (x a c : Int) (w : World) (hs : s.size ≤ 400) (ht : e.t.size ≤ 400) (h : moveL s e x = (a, c)) :
    Calls Tryd.prog 15 #[.string s, .agg #[.int .i64 e.fl, .int .i64 e.fu, .int .i64 e.tl, .int .i64 e.tu, .string e.t], .int .i64 x] w fun e w' => e = .returned (.tuple #[.int .i64 a, .int .i64 c]) ∧ Below w.heap.size w w' := by
  have := refMove_any s e x w hs ht
  rw [h] at this
  exact this
theorem six_cells {w : World} {q : Nat} {x0 x1 x2 x3 x4 x5 : Value} {t : TypeId} (h : w.heap[q]? = some (.cells #[x0, x1, x2, x3, x4, x5] t (0, 0))) :
    w.cell? ⟨q, 0, none⟩ = some x0 ∧ w.cell? ⟨q, 1, none⟩ = some x1 ∧ w.cell? ⟨q, 2, none⟩ = some x2 ∧ w.cell? ⟨q, 3, none⟩ = some x3 ∧ w.cell? ⟨q, 4, none⟩ = some x4 ∧ w.cell? ⟨q, 5, none⟩ = some x5 := by
  unfold World.cell?; rw [h]; exact ⟨rfl, rfl, rfl, rfl, rfl, rfl⟩

set_option maxHeartbeats 8000000 in
set_option maxRecDepth 100000 in
theorem ltell_walk (a b : ByteArray) (e : EdP) (x : Int) (w : World) (hT : Tabs w) :
    Calls Tryd.prog 4 #[.string a, .string b, .agg #[.int .i64 e.fl, .int .i64 e.fu, .int .i64 e.tl, .int .i64 e.tu, .string e.t, .int .i64 x]] w (True' w) := by
  obtain ⟨W, hW⟩ : ∃ W, w.alloc (.cells #[.int .i64 e.fl, .int .i64 e.fu, .int .i64 e.tl, .int .i64 e.tu, .string e.t, .int .i64 x] 34) = W := ⟨_, rfl⟩
  have hbw : Below w.heap.size w W := by rw [← hW]; exact (Below.refl _ _).alloc (Nat.le_refl _) _
  have HBX := Lib.hid (show W.heap[w.heap.size]? = some (.cells #[.int .i64 e.fl, .int .i64 e.fu, .int .i64 e.tl, .int .i64 e.tu, .string e.t, .int .i64 x] 34 (0, 0)) by rw [← hW]; exact heap_alloc_new _ _)
  have HBW := Lib.hid hbw
  have HT := Lib.hid (tabs_later hT hbw)
  obtain ⟨p0, p1, p2, p3, p4, p5⟩ := six_cells HBX.out
  clear hbw hT
  by_cases hfar : 300 < a.size ∨ 300 < b.size ∨ 300 < e.t.size
  · have cA := alive_any W HT.out
    have hc : (decide ((300 : Int) < (a.size : Int)) = true) ∨ (decide ((300 : Int) < (a.size : Int)) = false ∧ decide ((300 : Int) < (b.size : Int)) = true) ∨ (decide ((300 : Int) < (a.size : Int)) = false ∧ decide ((300 : Int) < (b.size : Int)) = false ∧ decide ((300 : Int) < (e.t.size : Int)) = true) := by
      simp only [decide_eq_true_eq, decide_eq_false_iff_not]; omega
    clear hfar
    obtain ⟨fl, fu, tl, tu, t⟩ := e
    simp only at hc p0 p1 p2 p3 p4 p5 HBX hW ⊢
    rcases hc with h1 | ⟨h1, h2⟩ | ⟨h1, h2, h3⟩
    all_goals
      go_enter Tryd.func4, Tryd.ntmps4
      go_wp2_with fail
      refine cA.mono ?_
      rintro e w1 ⟨rfl, hb1⟩
      go_wp2_with fail
      go_ret
      exact ⟨rfl, next HBW.out hb1⟩
  · have ha : a.size ≤ 300 := by omega
    have hb : b.size ≤ 300 := by omega
    have ht : e.t.size ≤ 300 := by omega
    have h1 : decide ((300 : Int) < (a.size : Int)) = false := by simp; omega
    have h2 : decide ((300 : Int) < (b.size : Int)) = false := by simp; omega
    have h3 : decide ((300 : Int) < (e.t.size : Int)) = false := by simp; omega
    obtain ⟨y, c, hB⟩ := betws a b (by omega) (by omega)
    obtain ⟨mx, mc, hm⟩ : ∃ mx mc, moveL a e x = (mx, mc) := ⟨_, _, rfl⟩
    have cM := fun W (hT : Tabs W) => move_is a e x mx mc W (by omega) (by omega) hT hm
    have cR := fun W => refMove_is a e x mx mc W (by omega) (by omega) hm
    have heq := fun W => eql_edit y y W
    rw [edB_self] at heq
    clear hfar hm
    obtain ⟨fl, fu, tl, tu, t⟩ := e
    obtain ⟨yfl, yfu, ytl, ytu, yt⟩ := y
    simp only at cM cR hB heq ht h3 p0 p1 p2 p3 p4 p5 HBX hW ⊢
    have CM := Lib.hid cM
    have CR := Lib.hid cR
    have CB := Lib.hid hB
    have HEQ := Lib.hid heq
    clear cM cR hB heq
    go_enter Tryd.func4, Tryd.ntmps4
    go_wp2_with fail
    refine (CB.out W HT.out).1.mono ?_
    rintro e w1 ⟨rfl, hb1⟩
    have HB1 := Lib.hid hb1
    clear hb1 hW p0 p1 p2 p3 p4 p5
    go_upto_region 4 with fail
    obtain ⟨q2, hq2⟩ : ∃ q, w1.heap.size = q := ⟨_, rfl⟩
    obtain ⟨W2, hW2⟩ : ∃ W2, w1.alloc (.cells #[.int .i64 yfl, .int .i64 yfu, .int .i64 ytl, .int .i64 ytu, .string yt] 32) = W2 := ⟨_, rfl⟩
    have HX2 := Lib.hid (show W2.heap[q2]? = some (.cells #[.int .i64 yfl, .int .i64 yfu, .int .i64 ytl, .int .i64 ytu, .string yt] 32 (0, 0)) by rw [← hW2, ← hq2]; exact heap_alloc_new _ _)
    have HB2 := Lib.hid (next HB1.out (show Below w1.heap.size w1 W2 by rw [← hW2]; exact (Below.refl _ _).alloc (Nat.le_refl _) _))
    rw [hW2, hq2]
    clear hW2 hq2
    go_wp2_with fail
    refine (CB.out W2 (tabs_later HT.out HB2.out)).2.mono ?_
    rintro e w3 ⟨rfl, hb3⟩
    have HB3 := Lib.hid hb3
    clear hb3
    go_upto_region 5 with fail
    obtain ⟨q4, hq4⟩ : ∃ q, w3.heap.size = q := ⟨_, rfl⟩
    obtain ⟨W4, hW4⟩ : ∃ W4, w3.alloc (.cells #[.int .i64 yfl, .int .i64 yfu, .int .i64 ytl, .int .i64 ytu, .string yt] 32) = W4 := ⟨_, rfl⟩
    have HX4 := Lib.hid (show W4.heap[q4]? = some (.cells #[.int .i64 yfl, .int .i64 yfu, .int .i64 ytl, .int .i64 ytu, .string yt] 32 (0, 0)) by rw [← hW4, ← hq4]; exact heap_alloc_new _ _)
    have HB4 := Lib.hid (next HB3.out (show Below w3.heap.size w3 W4 by rw [← hW4]; exact (Below.refl _ _).alloc (Nat.le_refl _) _))
    rw [hW4, hq4]
    clear hW4 hq4 HB3
    have HB14 := Lib.hid (next HB2.out HB4.out)
    obtain ⟨p0, p1, p2, p3, p4, p5⟩ := six_cells (bx_block HBX.out HB14.out)
    go_wp2_with fail
    refine (CM.out W4 (tabs_later HT.out HB14.out)).mono ?_
    rintro e w5 ⟨rfl, hb5⟩
    have HB5 := Lib.hid (next HB4.out hb5)
    have HB15 := Lib.hid (next HB14.out hb5)
    have HB45 := Lib.hid hb5
    clear hb5 p0 p1 p2 p3 p4 p5
    obtain ⟨p0, p1, p2, p3, p4, p5⟩ := six_cells (bx_block HBX.out HB15.out)
    go_wp2_with fail
    refine (CR.out w5).mono ?_
    rintro e w6 ⟨rfl, hb6⟩
    have HB16 := Lib.hid (next HB15.out hb6)
    have HB46 := Lib.hid (next HB45.out hb6)
    have cA := alive_any w6 (tabs_later HT.out HB16.out)
    clear hb6 p0 p1 p2 p3 p4 p5
    go_wp2_with fail
    refine cA.mono ?_
    rintro e w7 ⟨rfl, hb7⟩
    have HB17 := Lib.hid (next HB16.out hb7)
    have HB47 := Lib.hid (next HB46.out hb7)
    have HB27 := Lib.hid (next HB4.out HB47.out)
    obtain ⟨r0, r1, r2, r3, r4⟩ := ed_cells HX2.out HB27.out
    obtain ⟨t0, t1, t2, t3, t4⟩ := ed_cells HX4.out HB47.out
    have heq := HEQ.out
    clear hb7 cA
    go_wp2_with fail
    go_ret
    exact ⟨by first | rfl | simp, next HBW.out HB17.out⟩
end Go.Proofs.YtlmefchcljfjlaaDoor.E

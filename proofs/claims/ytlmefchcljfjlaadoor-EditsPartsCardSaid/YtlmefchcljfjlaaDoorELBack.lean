/- The walk of the statement 'there and back' of layer 6. -/
import Derived.Test.YtlmefchcljfjlaaDoorELTell
namespace Go.Proofs.YtlmefchcljfjlaaDoor.E
open Go.RowKit
open Go.Lib hiding intOf
open Go.Proofs.YtlmefchcljfjlaaDoor.U Go.Proofs.YtlmefchcljfjlaaDoor.L

/-- The edit between two texts is empty just if they are one. -/
theorem betw_empty {a b : ByteArray} {n k : Nat} {x : EdP} (h : BetwE a b n k x) (ha : okB a = true) :
    (a = b ∧ x.tl = x.fl ∧ x.tu = x.fu ∧ x.t = ⟨#[]⟩) ∨ (a ≠ b ∧ edB x ⟨x.fl, x.fu, x.fl, x.fu, ⟨#[]⟩⟩ = false) := by
  obtain ⟨l1, l2⟩ := h.betw.le
  by_cases hab : a = b
  · obtain ⟨h1, h2⟩ := (h.betw.none ha).1 hab
    have e := h.til
    rw [← h1, h.frm] at e
    simp only [Prod.mk.injEq, and_true] at e
    exact .inl ⟨hab, e.1.symm, e.2.symm, by rw [h.text]; exact size_nil (by rw [size_extract b _ _ (by omega) (by omega)]; omega)⟩
  · refine .inr ⟨hab, ?_⟩
    cases hq : edB x ⟨x.fl, x.fu, x.fl, x.fu, ⟨#[]⟩⟩ with
    | false => rfl
    | true =>
      exfalso
      unfold edB at hq
      simp only [BEq.rfl, Bool.and_self, Bool.true_and, Bool.and_eq_true, beq_iff_eq, decide_eq_true_eq] at hq
      obtain ⟨⟨h1, h2⟩, h3⟩ := hq
      have e1 := place_back a _ _ _ h.frm
      have e2 := place_back a _ _ _ h.til
      rw [h1, h2, e1] at e2
      simp only [Prod.mk.injEq, and_true] at e2
      have e3 : (b.extract n (b.size - k)).size = 0 := by rw [← h.text, h3]; rfl
      rw [size_extract b _ _ (by omega) (by omega)] at e3
      exact hab ((h.betw.none ha).2 ⟨by omega, by omega⟩)
theorem betw_apply {a b : ByteArray} {n k : Nat} {x : EdP} (h : BetwE a b n k x) (ha : okB a = true) (hb : okB b = true) (hz : b.size ≤ 16384) : applyL a [x] = (b, 0) := by
  have := between_back h.betw ha hb hz h.frm h.til
  rw [← h.text] at this
  exact this

set_option maxHeartbeats 4000000 in
set_option maxRecDepth 100000 in
theorem lback_far (a b : ByteArray) (w : World) (hq : (300 < a.size ∨ 300 < b.size) ∨ (a.size ≤ 300 ∧ b.size ≤ 300 ∧ (okB a = false ∨ okB b = false))) (hT : Tabs w) :
    Calls Tryd.prog 5 #[.string a, .string b] w (True' w) := by
  rcases hq with hfar | ⟨h1, h2, hok⟩
  · have cA := alive_any w hT
    have hc : (decide ((300 : Int) < (a.size : Int)) = true) ∨ (decide ((300 : Int) < (a.size : Int)) = false ∧ decide ((300 : Int) < (b.size : Int)) = true) := by
      simp only [decide_eq_true_eq, decide_eq_false_iff_not]; omega
    clear hfar
    rcases hc with h1 | ⟨h1, h2⟩
    all_goals
      go_enter Tryd.func5, Tryd.ntmps5
      go_wp2_with fail
      refine cA.mono ?_
      rintro e w1 ⟨rfl, hb1⟩
      go_wp2_with fail
      go_ret
      exact ⟨rfl, hb1⟩
  · have cB := betw_no w (by omega) (by omega) hT hok
    have HT := Lib.hid hT
    have d1 : decide ((300 : Int) < (a.size : Int)) = false := by simp; omega
    have d2 : decide ((300 : Int) < (b.size : Int)) = false := by simp; omega
    clear hok hT
    go_enter Tryd.func5, Tryd.ntmps5
    go_wp2_with fail
    refine cB.mono ?_
    rintro e w1 ⟨rfl, hb1⟩
    have HB1 := Lib.hid hb1
    clear hb1 cB
    go_upto_region 4 with fail
    obtain ⟨W2, hW2⟩ : ∃ W2, w1.alloc (.cells #[.int .i64 0, .int .i64 0, .int .i64 0, .int .i64 0, .string ⟨#[]⟩] 32) = W2 := ⟨_, rfl⟩
    have HB2 := Lib.hid (next HB1.out (show Below w1.heap.size w1 W2 by rw [← hW2]; exact (Below.refl _ _).alloc (Nat.le_refl _) _))
    rw [hW2]
    have cA := alive_any W2 (tabs_later HT.out HB2.out)
    clear hW2
    go_wp2_with fail
    refine cA.mono ?_
    rintro e w3 ⟨rfl, hb3⟩
    have HB3 := Lib.hid (next HB2.out hb3)
    clear hb3 cA
    go_wp2_with fail
    go_ret
    exact ⟨rfl, HB3.out⟩

set_option maxHeartbeats 8000000 in
set_option maxRecDepth 100000 in
theorem lback_near (a b : ByteArray) (w : World) (ha : a.size ≤ 300) (hb : b.size ≤ 300) (hok : okB a = true) (hok2 : okB b = true) (hT : Tabs w) :
    Calls Tryd.prog 5 #[.string a, .string b] w (True' w) := by
  obtain ⟨n, k, hB⟩ := betw_ex b hok
  obtain ⟨x, hx, hxt⟩ := betwE_of hB hok hok2
  obtain ⟨y, hy, hyt⟩ := betwE_of hB.flip hok2 hok
  have hpl := hB.place hok hok2
  rw [hx.frm, hy.frm] at hpl
  simp only [Prod.mk.injEq, and_true] at hpl
  have hcase := betw_empty hx hok
  have heq := fun W => eql_edit x ⟨x.fl, x.fu, x.fl, x.fu, ⟨#[]⟩⟩ W
  have cX := fun W (hT : Tabs W) => betw_is W (by omega) (by omega) hT hok hok2 hx
  have cY := fun W (hT : Tabs W) => betw_is W (by omega) (by omega) hT hok2 hok hy
  have cA := fun v W (hT : Tabs W) (hv : EdsIn W [x] v) => apply_is [x] a b 0 v W (by omega) (by simp) (fun e he => by rw [List.mem_singleton.1 he]; omega) hv hT (betw_apply hx hok hok2 (by omega))
  have cB := fun v W (hT : Tabs W) (hv : EdsIn W [y] v) => apply_is [y] b a 0 v W (by omega) (by simp) (fun e he => by rw [List.mem_singleton.1 he]; omega) hv hT (betw_apply hy hok2 hok (by omega))
  have HT := Lib.hid hT
  have d1 : decide ((300 : Int) < (a.size : Int)) = false := by simp; omega
  have d2 : decide ((300 : Int) < (b.size : Int)) = false := by simp; omega
  obtain ⟨B, hBe⟩ : ∃ B, edB x ⟨x.fl, x.fu, x.fl, x.fu, ⟨#[]⟩⟩ = B := ⟨_, rfl⟩
  rw [hBe] at heq hcase
  have hcase2 : (a = b ∧ x.tl = x.fl ∧ x.tu = x.fu ∧ x.t = ⟨#[]⟩ ∧ B = true) ∨ (a ≠ b ∧ B = false) := by
    rcases hcase with ⟨h1, h2, h3, h4⟩ | h
    · refine .inl ⟨h1, h2, h3, h4, ?_⟩
      rw [← hBe]; unfold edB; simp [h2, h3, h4]
    · exact .inr h
  clear hcase hBe hT hB hx hy hok hok2
  obtain ⟨fl, fu, tl, tu, t⟩ := x
  obtain ⟨yfl, yfu, ytl, ytu, yt⟩ := y
  simp only at cX cY cA cB hxt hyt hpl heq hcase2
  obtain ⟨rfl, rfl⟩ := hpl
  have hpe := fun W => eql_place fl fu fl fu W
  have CX := Lib.hid cX
  have CY := Lib.hid cY
  have CA := Lib.hid cA
  have CB := Lib.hid cB
  have HEQ := Lib.hid heq
  have HPE := Lib.hid hpe
  clear cX cY cA cB heq hpe
  have hab : (a = b ∧ B = true ∧ tl = fl ∧ tu = fu ∧ t = ⟨#[]⟩) ∨ ((a.toList == b.toList) = false ∧ B = false) := by
    rcases hcase2 with ⟨h1, h2, h3, h4, h5⟩ | ⟨h1, h2⟩
    · exact .inl ⟨h1, h5, h2, h3, h4⟩
    · exact .inr ⟨bytes_ne h1, h2⟩
  clear hcase2
  go_enter Tryd.func5, Tryd.ntmps5
  go_wp2_with fail
  refine (CX.out w HT.out).mono ?_
  rintro e w1 ⟨rfl, hb1⟩
  have HB1 := Lib.hid hb1
  clear hb1
  go_upto_region 4 with fail
  obtain ⟨q2, hq2⟩ : ∃ q, w1.heap.size = q := ⟨_, rfl⟩
  obtain ⟨W2, hW2⟩ : ∃ W2, w1.alloc (.cells #[.int .i64 fl, .int .i64 fu, .int .i64 tl, .int .i64 tu, .string t] 32) = W2 := ⟨_, rfl⟩
  have HX2 := Lib.hid (show W2.heap[q2]? = some (.cells #[.int .i64 fl, .int .i64 fu, .int .i64 tl, .int .i64 tu, .string t] 32 (0, 0)) by rw [← hW2, ← hq2]; exact heap_alloc_new _ _)
  have HB2 := Lib.hid (next HB1.out (show Below w1.heap.size w1 W2 by rw [← hW2]; exact (Below.refl _ _).alloc (Nat.le_refl _) _))
  rw [hW2, hq2]
  clear hW2 hq2
  obtain ⟨p0, p1, p2, p3, p4⟩ := five_cells HX2.out
  obtain ⟨W3, hW3⟩ : ∃ W, W2.alloc (.cells #[.int .i64 fl, .int .i64 fu, .int .i64 tl, .int .i64 tu, .string t] 32) = W := ⟨_, rfl⟩
  have hb3 : Below W2.heap.size W2 W3 := by rw [← hW3]; exact (Below.refl _ _).alloc (Nat.le_refl _) _
  have hx3 : W3.heap[W2.heap.size]? = some (.cells #[.int .i64 fl, .int .i64 fu, .int .i64 tl, .int .i64 tu, .string t] 32 (0, 0)) := by rw [← hW3]; exact heap_alloc_new _ _
  have cA := CA.out (.slice (some ⟨W2.heap.size, 0, none⟩) 1 1) W3 (tabs_later HT.out (next HB2.out hb3)) (eds_cells (l := [⟨fl, fu, tl, tu, t⟩]) hx3 rfl)
  have HB3 := Lib.hid hb3
  clear hb3 hx3
  go_wp2_with fail
  refine cA.mono ?_
  rintro e w4 ⟨rfl, hb4⟩
  have HB24 := Lib.hid (next HB3.out hb4)
  have HB4 := Lib.hid (next HB2.out HB24.out)
  clear hb4 cA hW3 p0 p1 p2 p3 p4
  go_wp2_with fail
  refine (CY.out w4 (tabs_later HT.out HB4.out)).mono ?_
  rintro e w5 ⟨rfl, hb5⟩
  have HB25 := Lib.hid (next HB24.out hb5)
  clear hb5 HB3 HB4 HB24
  go_upto_region 8 with fail
  obtain ⟨q6, hq6⟩ : ∃ q, w5.heap.size = q := ⟨_, rfl⟩
  obtain ⟨W6, hW6⟩ : ∃ W6, w5.alloc (.cells #[.int .i64 fl, .int .i64 fu, .int .i64 ytl, .int .i64 ytu, .string yt] 32) = W6 := ⟨_, rfl⟩
  have HX6 := Lib.hid (show W6.heap[q6]? = some (.cells #[.int .i64 fl, .int .i64 fu, .int .i64 ytl, .int .i64 ytu, .string yt] 32 (0, 0)) by rw [← hW6, ← hq6]; exact heap_alloc_new _ _)
  have HB26 := Lib.hid (next HB25.out (show Below w5.heap.size w5 W6 by rw [← hW6]; exact (Below.refl _ _).alloc (Nat.le_refl _) _))
  rw [hW6, hq6]
  clear hW6 hq6
  obtain ⟨p0, p1, p2, p3, p4⟩ := five_cells HX6.out
  obtain ⟨W7, hW7⟩ : ∃ W, W6.alloc (.cells #[.int .i64 fl, .int .i64 fu, .int .i64 ytl, .int .i64 ytu, .string yt] 32) = W := ⟨_, rfl⟩
  have hb7 : Below W6.heap.size W6 W7 := by rw [← hW7]; exact (Below.refl _ _).alloc (Nat.le_refl _) _
  have hx7 : W7.heap[W6.heap.size]? = some (.cells #[.int .i64 fl, .int .i64 fu, .int .i64 ytl, .int .i64 ytu, .string yt] 32 (0, 0)) := by rw [← hW7]; exact heap_alloc_new _ _
  have cB := CB.out (.slice (some ⟨W6.heap.size, 0, none⟩) 1 1) W7 (tabs_later HT.out (next HB2.out (next HB26.out hb7))) (eds_cells (l := [⟨fl, fu, ytl, ytu, yt⟩]) hx7 rfl)
  have HB7 := Lib.hid hb7
  clear hb7 hx7
  go_wp2_with fail
  refine cB.mono ?_
  rintro e w8 ⟨rfl, hb8⟩
  have HB68 := Lib.hid (next HB7.out hb8)
  have HB28 := Lib.hid (next HB26.out HB68.out)
  clear hb8 cB hW7 p0 p1 p2 p3 p4
  obtain ⟨p0, p1, p2, p3, p4⟩ := ed_cells HX2.out HB28.out
  go_upto_region 10 with fail
  obtain ⟨q9, hq9⟩ : ∃ q, w8.heap.size = q := ⟨_, rfl⟩
  obtain ⟨W9, hW9⟩ : ∃ W9, w8.alloc (.cells #[.int .i64 fl, .int .i64 fu, .int .i64 fl, .int .i64 fu, .string ⟨#[]⟩] 32) = W9 := ⟨_, rfl⟩
  have HX9 := Lib.hid (show W9.heap[q9]? = some (.cells #[.int .i64 fl, .int .i64 fu, .int .i64 fl, .int .i64 fu, .string ⟨#[]⟩] 32 (0, 0)) by rw [← hW9, ← hq9]; exact heap_alloc_new _ _)
  have HB89 := Lib.hid (show Below w8.heap.size w8 W9 by rw [← hW9]; exact (Below.refl _ _).alloc (Nat.le_refl _) _)
  have HB69 := Lib.hid (next HB68.out HB89.out)
  have HB29 := Lib.hid (next HB26.out HB69.out)
  rw [hW9, hq9]
  clear hW9 hq9 p0 p1 p2 p3 p4
  have cA := alive_any W9 (tabs_later HT.out (next HB2.out HB29.out))
  rcases hab with ⟨rfl, rfl, rfl, rfl, rfl⟩ | ⟨hne, rfl⟩
  all_goals
    go_wp2_with fail
    refine cA.mono ?_
    rintro e w10 ⟨rfl, hb10⟩
    obtain ⟨p0, p1, p2, p3, p4⟩ := ed_cells HX2.out (next HB29.out hb10)
    obtain ⟨r0, r1, r2, r3, r4⟩ := ed_cells HX6.out (next HB69.out hb10)
    obtain ⟨s0, s1, s2, s3, s4⟩ := ed_cells HX9.out hb10
    have HB10 := Lib.hid (next HB2.out (next HB29.out hb10))
    have heq := HEQ.out
    have hpe := HPE.out
    clear hb10 cA
    go_wp2_with fail
    go_ret
    exact ⟨by first | rfl | simp [*], HB10.out⟩
theorem lback_walk (a b : ByteArray) (w : World) (hT : Tabs w) :
    Calls Tryd.prog 5 #[.string a, .string b] w (True' w) := by
  by_cases hfar : 300 < a.size ∨ 300 < b.size
  · exact lback_far a b w (.inl hfar) hT
  · cases hok : okB a
    · exact lback_far a b w (.inr ⟨by omega, by omega, .inl hok⟩) hT
    · cases hok2 : okB b
      · exact lback_far a b w (.inr ⟨by omega, by omega, .inr hok2⟩) hT
      · exact lback_near a b w (by omega) (by omega) hok hok2 hT
end Go.Proofs.YtlmefchcljfjlaaDoor.E

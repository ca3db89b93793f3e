/- The contract of Between: the edit that makes one right text of another one. -/
import Derived.Test.YtlmefchcljfjlaaDoorECom2
import Derived.Test.YtlmefchcljfjlaaDoorESpan
namespace Go.Proofs.YtlmefchcljfjlaaDoor.E
open Go.RowKit
open Go.Lib hiding intOf
open Go.Proofs.YtlmefchcljfjlaaDoor.U Go.Proofs.YtlmefchcljfjlaaDoor.L

/-- The edit between two right texts, as the document tells it: its places, and its text. -/
structure BetwE (a b : ByteArray) (n k : Nat) (e : EdP) : Prop where
  betw : Betw a b n k
  frm : placeL a (n : Int) = (e.fl, e.fu, 0)
  til : placeL a ((a.size - k : Nat) : Int) = (e.tl, e.tu, 0)
  text : e.t = b.extract n (b.size - k)
theorem BetwE.one {a b : ByteArray} {n k m j : Nat} {e e' : EdP} (h : BetwE a b n k e) (h' : BetwE a b m j e') : e = e' := by
  obtain ⟨rfl, rfl⟩ := h.betw.one h'.betw
  have h1 := h.frm.symm.trans h'.frm
  have h2 := h.til.symm.trans h'.til
  have h3 := h.text.trans h'.text.symm
  obtain ⟨fl, fu, tl, tu, t⟩ := e
  obtain ⟨fl', fu', tl', tu', t'⟩ := e'
  simp only [Prod.mk.injEq, and_true] at h1 h2 h3
  obtain ⟨rfl, rfl⟩ := h1
  obtain ⟨rfl, rfl⟩ := h2
  rw [h3]
/-- There is one. -/
theorem betwE_of {a b : ByteArray} {n k : Nat} (h : Betw a b n k) (ha : okB a = true) (hb : okB b = true) : ∃ e, BetwE a b n k e ∧ e.t.size ≤ b.size := by
  obtain ⟨h1, h2, h3, h4, _⟩ := h.bnds ha hb
  obtain ⟨x, y, hx⟩ := placeL_bnd ha h1
  obtain ⟨z, u, hz⟩ := placeL_bnd ha h2
  obtain ⟨l1, l2⟩ := h.le
  exact ⟨⟨x, y, z, u, b.extract n (b.size - k)⟩, ⟨h, hx, hz, rfl⟩, by simp only; rw [size_extract b _ _ (by omega) (by omega)]; omega⟩

theorem heap5 {W : World} {q : Nat} {c0 c1 c2 c3 c4 : Value} {t : TypeId} (h : W.heap[q]? = some (.cells #[c0, c1, c2, c3, c4] t (0, 0))) (x0 x1 x2 x3 x4 : Value) :
    (((((W.setCell ⟨q, 0, none⟩ x0).setCell ⟨q, 1, none⟩ x1).setCell ⟨q, 2, none⟩ x2).setCell ⟨q, 3, none⟩ x3).setCell ⟨q, 4, none⟩ x4).heap[q]? = some (.cells #[x0, x1, x2, x3, x4] t (0, 0)) := by
  have e0 := Go.Joins.block_setCell (i := 0) h x0
  have e1 := Go.Joins.block_setCell (i := 1) e0 x1
  have e2 := Go.Joins.block_setCell (i := 2) e1 x2
  have e3 := Go.Joins.block_setCell (i := 3) e2 x3
  have e4 := Go.Joins.block_setCell (i := 4) e3 x4
  exact e4
theorem below5 {w w1 : World} {q : Nat} (h : Below w.heap.size w w1) (hq : w.heap.size ≤ q) (x0 x1 x2 x3 x4 : Value) :
    Below w.heap.size w (((((w1.setCell ⟨q, 0, none⟩ x0).setCell ⟨q, 1, none⟩ x1).setCell ⟨q, 2, none⟩ x2).setCell ⟨q, 3, none⟩ x3).setCell ⟨q, 4, none⟩ x4) :=
  ((((h.setCell (p := ⟨q, 0, none⟩) hq _).setCell (p := ⟨q, 1, none⟩) hq _).setCell (p := ⟨q, 2, none⟩) hq _).setCell (p := ⟨q, 3, none⟩) hq _).setCell (p := ⟨q, 4, none⟩) hq _
/-- How Between ends. -/
def BetwPost (a b : ByteArray) (w : World) (e : Ending) (w' : World) : Prop :=
  Below w.heap.size w w' ∧ ((okB a = true ∧ okB b = true ∧ ∃ (n k : Nat) (x : EdP), BetwE a b n k x ∧ e = .returned (.tuple #[.agg #[.int .i64 x.fl, .int .i64 x.fu, .int .i64 x.tl, .int .i64 x.tu, .string x.t], .int .i64 0])) ∨
    ((okB a = false ∨ okB b = false) ∧ e = .returned (.tuple #[.agg #[.int .i64 0, .int .i64 0, .int .i64 0, .int .i64 0, .string ⟨#[]⟩], .int .i64 11])))

set_option maxHeartbeats 4000000 in
set_option maxRecDepth 100000 in
theorem betw_wrong (a b : ByteArray) (w : World) (ha : a.size ≤ 1099511627776) (hb : b.size ≤ 1099511627776) (hq : okB a = false ∨ okB a = true ∧ okB b = false) (hT : Tabs w) :
    Calls Tryd.prog 12 #[.string a, .string b] w (BetwPost a b w) := by
  obtain ⟨W, hW⟩ : ∃ W, w.alloc (.cells #[.int .i64 0, .int .i64 0, .int .i64 0, .int .i64 0, .string ⟨#[]⟩] 32) = W := ⟨_, rfl⟩
  have hbw : Below w.heap.size w W := by rw [← hW]; exact (Below.refl _ _).alloc (Nat.le_refl _) _
  have HBX := Lib.hid (show W.heap[w.heap.size]? = some (.cells #[.int .i64 0, .int .i64 0, .int .i64 0, .int .i64 0, .string ⟨#[]⟩] 32 (0, 0)) by rw [← hW]; exact heap_alloc_new _ _)
  have HBW := Lib.hid hbw
  have HT := Lib.hid (tabs_later hT hbw)
  clear hbw hT
  rcases hq with hok | ⟨hok, hok2⟩
  · have cN := new_no a W ha HT.out hok
    have HOK := Lib.hid hok
    clear hok
    go_enter Tryd.func12, Tryd.ntmps12
    go_wp2_with fail
    refine cN.mono ?_
    rintro e w1 ⟨rfl, hb1⟩
    have hx1 := bx_block HBX.out hb1
    obtain ⟨p0, p1, p2, p3, p4⟩ := five_cells hx1
    obtain ⟨f0, f1, f2, f3, f4⟩ := five_frozen hx1
    have HB1 := Lib.hid (next HBW.out hb1)
    clear hb1 cN hW hx1
    go_wp2_with fail
    refine bodyPost_ret (v := .tuple #[.agg #[.int .i64 0, .int .i64 0, .int .i64 0, .int .i64 0, .string ⟨#[]⟩], .int .i64 11]) (by simp [results, Tryd.results12, go_sem, p0, p1, p2, p3, p4]) rfl ?_
    first | exact ⟨below5 HB1.out (Nat.le_refl _) _ _ _ _ _, .inr ⟨.inl HOK.out, rfl⟩⟩ | exact ⟨HB1.out, .inr ⟨.inl HOK.out, rfl⟩⟩
  · have cN := new_ok a W ha HT.out hok
    have HOK := Lib.hid hok2
    clear hok hok2
    go_enter Tryd.func12, Tryd.ntmps12
    go_wp2_with fail
    refine cN.mono ?_
    rintro e w1 ⟨bb, v, rfl, _, hb1⟩
    have HB1 := Lib.hid hb1
    have cR := right_any b w1 hb (tabs_later HT.out hb1)
    rw [HOK.out] at cR
    clear hb1 cN hW
    go_wp2_with fail
    refine cR.mono ?_
    rintro e w2 ⟨rfl, hb2⟩
    have hx1 := bx_block HBX.out (next HB1.out hb2)
    obtain ⟨p0, p1, p2, p3, p4⟩ := five_cells hx1
    obtain ⟨f0, f1, f2, f3, f4⟩ := five_frozen hx1
    have HB2 := Lib.hid (next HBW.out (next HB1.out hb2))
    clear hb2 cR hx1
    go_wp2_with fail
    refine bodyPost_ret (v := .tuple #[.agg #[.int .i64 0, .int .i64 0, .int .i64 0, .int .i64 0, .string ⟨#[]⟩], .int .i64 11]) (by simp [results, Tryd.results12, go_sem, p0, p1, p2, p3, p4]) rfl ?_
    first | exact ⟨below5 HB2.out (Nat.le_refl _) _ _ _ _ _, .inr ⟨.inr HOK.out, rfl⟩⟩ | exact ⟨HB2.out, .inr ⟨.inr HOK.out, rfl⟩⟩

set_option maxHeartbeats 8000000 in
set_option maxRecDepth 100000 in
theorem betw_right (a b : ByteArray) (w : World) (ha : a.size ≤ 1099511627776) (hb : b.size ≤ 1099511627776) (hok : okB a = true) (hok2 : okB b = true) (hT : Tabs w) :
    Calls Tryd.prog 12 #[.string a, .string b] w (BetwPost a b w) := by
  obtain ⟨W, hW⟩ : ∃ W, w.alloc (.cells #[.int .i64 0, .int .i64 0, .int .i64 0, .int .i64 0, .string ⟨#[]⟩] 32) = W := ⟨_, rfl⟩
  have hbw : Below w.heap.size w W := by rw [← hW]; exact (Below.refl _ _).alloc (Nat.le_refl _) _
  have HBX := Lib.hid (show W.heap[w.heap.size]? = some (.cells #[.int .i64 0, .int .i64 0, .int .i64 0, .int .i64 0, .string ⟨#[]⟩] 32 (0, 0)) by rw [← hW]; exact heap_alloc_new _ _)
  have HBW := Lib.hid hbw
  have HT := Lib.hid (tabs_later hT hbw)
  have cN := new_ok a W ha HT.out hok
  have HOK := Lib.hid hok
  have HOK2 := Lib.hid hok2
  clear hbw hT hok hok2
  go_enter Tryd.func12, Tryd.ntmps12
  go_wp2_with fail
  refine cN.mono ?_
  rintro e w1 ⟨bb, v, rfl, hi, hb1⟩
  have HB1 := Lib.hid hb1
  have HI := Lib.hid hi
  have cR := right_any b w1 hb (tabs_later HT.out hb1)
  rw [HOK2.out] at cR
  clear hb1 cN hW hi
  go_wp2_with fail
  refine cR.mono ?_
  rintro e w2 ⟨rfl, hb2⟩
  have HB2 := Lib.hid hb2
  have cC := common_any a b w2 ha hb HOK.out (tabs_later HT.out (next HB1.out hb2))
  clear hb2 cR
  go_wp2_with fail
  refine cC.mono ?_
  rintro e w3 ⟨n, k, hBt, rfl, hb3⟩
  obtain ⟨⟨fl, fu, tl, tu, t⟩, hx, _⟩ := betwE_of hBt HOK.out HOK2.out
  obtain ⟨l1, l2⟩ := hBt.le
  have HX := Lib.hid hx
  have HB3 := Lib.hid (next HB2.out hb3)
  have cP := place_is bb a v n fl fu 0 w3 (HI.out.later HB3.out) ha (by omega) (tabs_later HT.out (next HB1.out HB3.out)) hx.frm
  clear hb3 cC hx hBt
  go_wp2_with fail
  refine cP.mono ?_
  rintro e w4 ⟨rfl, hb4⟩
  have HB4 := Lib.hid (next HB3.out hb4)
  clear hb4 cP HB3 HB2
  go_upto_region 6 with fail
  obtain ⟨q5, hq5⟩ : ∃ q, w4.heap.size = q := ⟨_, rfl⟩
  obtain ⟨W5, hW5⟩ : ∃ W5, w4.alloc (.cells #[.int .i64 fl, .int .i64 fu] 30) = W5 := ⟨_, rfl⟩
  have HX5 := Lib.hid (show W5.heap[q5]? = some (.cells #[.int .i64 fl, .int .i64 fu] 30 (0, 0)) by rw [← hW5, ← hq5]; exact heap_alloc_new _ _)
  have HB5 := Lib.hid (next HB4.out (show Below w4.heap.size w4 W5 by rw [← hW5]; exact (Below.refl _ _).alloc (Nat.le_refl _) _))
  rw [hW5, hq5]
  obtain ⟨m, hm⟩ : ∃ m : Nat, a.size - k = m := ⟨_, rfl⟩
  have hmi : (a.size : Int) - k = (m : Int) := by omega
  have cP := place_is bb a v m tl tu 0 W5 (HI.out.later HB5.out) ha (by omega) (tabs_later HT.out (next HB1.out HB5.out)) (by rw [← hm]; exact HX.out.til)
  clear hW5 hq5 hm
  go_wp2_with fail
  refine cP.mono ?_
  rintro e w6 ⟨rfl, hb6⟩
  have HB6 := Lib.hid hb6
  clear hb6 cP
  go_upto_region 7 with fail
  obtain ⟨q7, hq7⟩ : ∃ q, w6.heap.size = q := ⟨_, rfl⟩
  obtain ⟨W7, hW7⟩ : ∃ W7, w6.alloc (.cells #[.int .i64 tl, .int .i64 tu] 30) = W7 := ⟨_, rfl⟩
  have HX7 := Lib.hid (show W7.heap[q7]? = some (.cells #[.int .i64 tl, .int .i64 tu] 30 (0, 0)) by rw [← hW7, ← hq7]; exact heap_alloc_new _ _)
  have HB7 := Lib.hid (next HB6.out (show Below w6.heap.size w6 W7 by rw [← hW7]; exact (Below.refl _ _).alloc (Nat.le_refl _) _))
  have HB17 := Lib.hid (next HB1.out (next HB5.out HB7.out))
  rw [hW7, hq7]
  have hx1 := bx_block HBX.out HB17.out
  obtain ⟨p0, p1, p2, p3, p4⟩ := five_cells hx1
  obtain ⟨f0, f1, f2, f3, f4⟩ := five_frozen hx1
  obtain ⟨r0, r1⟩ := two_cells HX7.out
  obtain ⟨s0, s1⟩ := bx_cells HX5.out HB7.out
  obtain ⟨j, hj⟩ : ∃ j : Nat, b.size - k = j := ⟨_, rfl⟩
  have hji : (b.size : Int) - k = (j : Int) := by omega
  have hnj : n ≤ j := by omega
  have hjb : j ≤ b.size := by omega
  have HTE : Hid (t = b.extract n j) := Lib.hid (by rw [← hj]; exact HX.out.text)
  have hx7 := Lib.hid hx1
  clear hW7 hq7 hj hx1 HB6 HB4
  go_region
  go_wp2_with fail
  have hx5 := heap5 hx7.out (.int .i64 fl) (.int .i64 fu) (.int .i64 tl) (.int .i64 tu) (.string (b.extract n j))
  have hb5 := below5 (next HBW.out HB17.out) (Nat.le_refl _) (.int .i64 fl) (.int .i64 fu) (.int .i64 tl) (.int .i64 tu) (.string (b.extract n j))
  obtain ⟨k0, k1, k2, k3, k4⟩ := five_cells hx5
  clear p0 p1 p2 p3 p4 hx5
  generalize ((((W7.setCell ⟨w.heap.size, 0, none⟩ (.int .i64 fl)).setCell ⟨w.heap.size, 1, none⟩ (.int .i64 fu)).setCell ⟨w.heap.size, 2, none⟩ (.int .i64 tl)).setCell ⟨w.heap.size, 3, none⟩ (.int .i64 tu)).setCell ⟨w.heap.size, 4, none⟩ (.string (b.extract n j)) = U at hb5 k0 k1 k2 k3 k4 ⊢
  refine bodyPost_ret (v := .tuple #[.agg #[.int .i64 fl, .int .i64 fu, .int .i64 tl, .int .i64 tu, .string (b.extract n j)], .int .i64 0]) (by simp [results, Tryd.results12, go_sem, k0, k1, k2, k3, k4]) rfl ?_
  rw [← HTE.out]
  exact ⟨hb5.drew, .inl ⟨HOK.out, HOK2.out, n, k, ⟨fl, fu, tl, tu, t⟩, HX.out, rfl⟩⟩
theorem between_any (a b : ByteArray) (w : World) (ha : a.size ≤ 1099511627776) (hb : b.size ≤ 1099511627776) (hT : Tabs w) :
    Calls Tryd.prog 12 #[.string a, .string b] w (BetwPost a b w) := by
  cases hok : okB a
  · exact betw_wrong a b w ha hb (.inl hok) hT
  · cases hok2 : okB b
    · exact betw_wrong a b w ha hb (.inr ⟨hok, hok2⟩) hT
    · exact betw_right a b w ha hb hok hok2 hT
end Go.Proofs.YtlmefchcljfjlaaDoor.E

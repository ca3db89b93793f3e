/- The contract of the document's own Between of layer 6. -/
import Derived.Test.YtlmefchcljfjlaaDoorERef2
import Derived.Test.YtlmefchcljfjlaaDoorEBetw
namespace Go.Proofs.YtlmefchcljfjlaaDoor.E
open Go.RowKit
open Go.Lib hiding intOf
open Go.Proofs.YtlmefchcljfjlaaDoor.U Go.Proofs.YtlmefchcljfjlaaDoor.L

theorem fin_ex {a b : ByteArray} {n : Nat} (ha : n ≤ a.size) (hb : n ≤ b.size) : ∀ e, NoFin a (bwdN a b (min a.size b.size - n)) e → e ≤ bwdN a b (min a.size b.size - n) → ∃ k, Fin (tl a n) (tl b n) k
  | 0, h, he => ⟨0, fin_at ha hb h he (by rw [Nat.sub_zero, tl_all]; exact okB_nil)⟩
  | e + 1, h, he => by
    cases hok : okB (tl a (a.size - (e + 1)))
    · exact fin_ex ha hb e (noFin_down h hok) (by omega)
    · exact ⟨e + 1, fin_at ha hb h he hok⟩
theorem betw_ex {a : ByteArray} (b : ByteArray) (ha : okB a = true) : ∃ n k, Betw a b n k := by
  have h := beg_cut (b := b) ha
  obtain ⟨k, hk⟩ := fin_ex h.la h.lb _ (noFin_top a _) (Nat.le_refl _)
  exact ⟨_, k, h, hk⟩

set_option maxHeartbeats 4000000 in
set_option maxRecDepth 100000 in
theorem refBetw_wrong (a b : ByteArray) (x y : Bool) (w : World) (ha : a.size ≤ 400) (hb : b.size ≤ 400) (hx : okB a = x) (hy : okB b = y) (hq : (x = false ∧ y = false) ∨ (x = false ∧ y = true) ∨ (x = true ∧ y = false)) :
    Calls Tryd.prog 13 #[.string a, .string b] w (BetwPost a b w) := by
  obtain ⟨W, hW⟩ : ∃ W, w.alloc (.cells #[.int .i64 0, .int .i64 0, .int .i64 0, .int .i64 0, .string ⟨#[]⟩] 32) = W := ⟨_, rfl⟩
  have hbw : Below w.heap.size w W := by rw [← hW]; exact (Below.refl _ _).alloc (Nat.le_refl _) _
  have HBX := Lib.hid (show W.heap[w.heap.size]? = some (.cells #[.int .i64 0, .int .i64 0, .int .i64 0, .int .i64 0, .string ⟨#[]⟩] 32 (0, 0)) by rw [← hW]; exact heap_alloc_new _ _)
  have HBW := Lib.hid hbw
  have cA := ref_right a W ha
  clear hbw
  rw [hx] at cA
  have HY := Lib.hid hy
  have HQ : Hid (okB a = false ∨ okB b = false) := Lib.hid (by rw [hx, hy]; rcases hq with ⟨h, _⟩ | ⟨h, _⟩ | ⟨_, h⟩ <;> simp [h])
  clear hx hy
  rcases hq with ⟨rfl, rfl⟩ | ⟨rfl, rfl⟩ | ⟨rfl, rfl⟩
  all_goals
    go_enter Tryd.func13, Tryd.ntmps13
    go_wp2_with fail
    refine cA.mono ?_
    rintro e w1 ⟨rfl, hb1⟩
    have HB1 := Lib.hid hb1
    have cB := ref_right b w1 hb
    rw [HY.out] at cB
    clear hb1 cA hW
    go_wp2_with fail
    refine cB.mono ?_
    rintro e w2 ⟨rfl, hb2⟩
    have HB2 := Lib.hid (next HB1.out hb2)
    clear hb2 cB
    have hx1 := bx_block HBX.out HB2.out
    obtain ⟨p0, p1, p2, p3, p4⟩ := five_cells hx1
    obtain ⟨f0, f1, f2, f3, f4⟩ := five_frozen hx1
    clear hx1
    go_wp2_with fail
    refine bodyPost_ret (v := .tuple #[.agg #[.int .i64 0, .int .i64 0, .int .i64 0, .int .i64 0, .string ⟨#[]⟩], .int .i64 11]) (by simp [results, Tryd.results13, go_sem, p0, p1, p2, p3, p4]) rfl ?_
    first | exact ⟨below5 (next HBW.out HB2.out) (Nat.le_refl _) _ _ _ _ _, .inr ⟨HQ.out, rfl⟩⟩ | exact ⟨next HBW.out HB2.out, .inr ⟨HQ.out, rfl⟩⟩

set_option maxHeartbeats 8000000 in
set_option maxRecDepth 100000 in
theorem refBetw_right (a b : ByteArray) (w : World) (ha : a.size ≤ 400) (hb : b.size ≤ 400) (hok : okB a = true) (hok2 : okB b = true) :
    Calls Tryd.prog 13 #[.string a, .string b] w (BetwPost a b w) := by
  obtain ⟨W, hW⟩ : ∃ W, w.alloc (.cells #[.int .i64 0, .int .i64 0, .int .i64 0, .int .i64 0, .string ⟨#[]⟩] 32) = W := ⟨_, rfl⟩
  have hbw : Below w.heap.size w W := by rw [← hW]; exact (Below.refl _ _).alloc (Nat.le_refl _) _
  have HBX := Lib.hid (show W.heap[w.heap.size]? = some (.cells #[.int .i64 0, .int .i64 0, .int .i64 0, .int .i64 0, .string ⟨#[]⟩] 32 (0, 0)) by rw [← hW]; exact heap_alloc_new _ _)
  have HBW := Lib.hid hbw
  have cA := ref_right a W ha
  clear hbw
  rw [hok] at cA
  have HOK := Lib.hid hok
  have HOK2 := Lib.hid hok2
  obtain ⟨n, k, hBt⟩ := betw_ex b hok
  have HBT := Lib.hid hBt
  clear hok hok2 hBt
  go_enter Tryd.func13, Tryd.ntmps13
  go_wp2_with fail
  refine cA.mono ?_
  rintro e w1 ⟨rfl, hb1⟩
  have HB1 := Lib.hid hb1
  have cB := ref_right b w1 hb
  rw [HOK2.out] at cB
  clear hb1 cA hW
  go_wp2_with fail
  refine cB.mono ?_
  rintro e w2 ⟨rfl, hb2⟩
  have HB2 := Lib.hid (next HB1.out hb2)
  clear hb2 cB
  have cG := begins_any a b n w2 ha hb HBT.out.beg
  go_wp2_with fail
  refine cG.mono ?_
  rintro e w3 ⟨rfl, hb3⟩
  have HB3 := Lib.hid (next HB2.out hb3)
  have hBt := HBT.out
  have hna := hBt.beg.la
  have hnb := hBt.beg.lb
  obtain ⟨xa, hxa⟩ : ∃ x, a.extract n a.size = x := ⟨_, rfl⟩
  obtain ⟨xb, hxb⟩ : ∃ x, b.extract n b.size = x := ⟨_, rfl⟩
  have hza : xa.size ≤ 400 := by rw [← hxa, size_extract a n a.size hna (Nat.le_refl _)]; omega
  have hzb : xb.size ≤ 400 := by rw [← hxb, size_extract b n b.size hnb (Nat.le_refl _)]; omega
  have hfin : Fin xa xb k := by rw [← hxa, ← hxb]; exact hBt.fin
  have CF : ∀ X, Below w3.heap.size w3 X → Calls Tryd.prog 24 #[.string xa, .string xb] X fun e w' => e = .returned (.int .i64 k) ∧ Below w3.heap.size w3 w' := fun X hS =>
    (finishes_any xa xb k X hza hzb hfin).mono fun e w' ⟨h1, h2⟩ => ⟨h1, next hS h2⟩
  have hS0 : Below w3.heap.size w3 w3.drew := (Below.refl _ _).drew
  clear hb3 cG hBt hza hzb hfin
  go_upto_region 6 with fail
  go_region_held3 (fun X => Below w3.heap.size w3 X) (with_reducible (repeat (first | assumption))) (first | (go_at_call 24; (with_reducible refine (CF _ ?_).mono ?_); assumption; rintro e w4 ⟨rfl, hS4⟩))
  have HB4 := Lib.hid (next HB3.out hS4)
  clear CF hS0 hS4 hxa hxb
  obtain ⟨⟨fl, fu, tl, tu, t⟩, hx, _⟩ := betwE_of HBT.out HOK.out HOK2.out
  obtain ⟨l1, l2⟩ := HBT.out.le
  have HX := Lib.hid hx
  have cP := refPlace_is a n fl fu 0 w4 ha (by omega) hx.frm
  clear hx
  go_wp2_with fail
  refine cP.mono ?_
  rintro e w4' ⟨rfl, hb4⟩
  have HB4' := Lib.hid (next HB4.out hb4)
  clear hb4 cP HB3 HB4 HB2
  go_upto_region 8 with fail
  obtain ⟨q5, hq5⟩ : ∃ q, w4'.heap.size = q := ⟨_, rfl⟩
  obtain ⟨W5, hW5⟩ : ∃ W5, w4'.alloc (.cells #[.int .i64 fl, .int .i64 fu] 30) = W5 := ⟨_, rfl⟩
  have HX5 := Lib.hid (show W5.heap[q5]? = some (.cells #[.int .i64 fl, .int .i64 fu] 30 (0, 0)) by rw [← hW5, ← hq5]; exact heap_alloc_new _ _)
  have HB5 := Lib.hid (next HB4'.out (show Below w4'.heap.size w4' W5 by rw [← hW5]; exact (Below.refl _ _).alloc (Nat.le_refl _) _))
  rw [hW5, hq5]
  obtain ⟨m, hm⟩ : ∃ m : Nat, a.size - k = m := ⟨_, rfl⟩
  have hmi : (a.size : Int) - k = (m : Int) := by omega
  have cP := refPlace_is a m tl tu 0 W5 ha (by omega) (by rw [← hm]; exact HX.out.til)
  clear hW5 hq5 hm
  go_wp2_with fail
  refine cP.mono ?_
  rintro e w6 ⟨rfl, hb6⟩
  have HB6 := Lib.hid hb6
  clear hb6 cP
  go_upto_region 9 with fail
  obtain ⟨q7, hq7⟩ : ∃ q, w6.heap.size = q := ⟨_, rfl⟩
  obtain ⟨W7, hW7⟩ : ∃ W7, w6.alloc (.cells #[.int .i64 tl, .int .i64 tu] 30) = W7 := ⟨_, rfl⟩
  have HX7 := Lib.hid (show W7.heap[q7]? = some (.cells #[.int .i64 tl, .int .i64 tu] 30 (0, 0)) by rw [← hW7, ← hq7]; exact heap_alloc_new _ _)
  have HB7 := Lib.hid (next HB6.out (show Below w6.heap.size w6 W7 by rw [← hW7]; exact (Below.refl _ _).alloc (Nat.le_refl _) _))
  have HB17 := Lib.hid (next HB5.out HB7.out)
  rw [hW7, hq7]
  have hx1 := bx_block HBX.out HB17.out
  obtain ⟨p0, p1, p2, p3, p4⟩ := five_cells hx1
  obtain ⟨f0, f1, f2, f3, f4⟩ := five_frozen hx1
  obtain ⟨r0, r1⟩ := two_cells HX7.out
  obtain ⟨s0, s1⟩ := bx_cells HX5.out HB7.out
  obtain ⟨j, hj⟩ : ∃ j : Nat, b.size - k = j := ⟨_, rfl⟩
  have hji : (b.size : Int) - k = (j : Int) := by omega
  have hnj : n ≤ j := by omega
  have hjb : j ≤ b.size := by omega
  have HTE : Hid (t = b.extract n j) := Lib.hid (by rw [← hj]; exact HX.out.text)
  have hx7 := Lib.hid hx1
  clear hW7 hq7 hj hx1 HB6 HB4'
  go_region
  go_wp2_with fail
  have hx5 := heap5 hx7.out (.int .i64 fl) (.int .i64 fu) (.int .i64 tl) (.int .i64 tu) (.string (b.extract n j))
  have hb5 := below5 (next HBW.out HB17.out) (Nat.le_refl _) (.int .i64 fl) (.int .i64 fu) (.int .i64 tl) (.int .i64 tu) (.string (b.extract n j))
  obtain ⟨k0, k1, k2, k3, k4⟩ := five_cells hx5
  clear p0 p1 p2 p3 p4 hx5
  generalize ((((W7.setCell ⟨w.heap.size, 0, none⟩ (.int .i64 fl)).setCell ⟨w.heap.size, 1, none⟩ (.int .i64 fu)).setCell ⟨w.heap.size, 2, none⟩ (.int .i64 tl)).setCell ⟨w.heap.size, 3, none⟩ (.int .i64 tu)).setCell ⟨w.heap.size, 4, none⟩ (.string (b.extract n j)) = U at hb5 k0 k1 k2 k3 k4 ⊢
  refine bodyPost_ret (v := .tuple #[.agg #[.int .i64 fl, .int .i64 fu, .int .i64 tl, .int .i64 tu, .string (b.extract n j)], .int .i64 0]) (by simp [results, Tryd.results13, go_sem, k0, k1, k2, k3, k4]) rfl ?_
  rw [← HTE.out]
  exact ⟨hb5.drew, .inl ⟨HOK.out, HOK2.out, n, k, ⟨fl, fu, tl, tu, t⟩, HX.out, rfl⟩⟩
theorem refBetween_any (a b : ByteArray) (w : World) (ha : a.size ≤ 400) (hb : b.size ≤ 400) :
    Calls Tryd.prog 13 #[.string a, .string b] w (BetwPost a b w) := by
  cases hok : okB a <;> cases hok2 : okB b
  · exact refBetw_wrong a b _ _ w ha hb hok hok2 (.inl ⟨rfl, rfl⟩)
  · exact refBetw_wrong a b _ _ w ha hb hok hok2 (.inr (.inl ⟨rfl, rfl⟩))
  · exact refBetw_wrong a b _ _ w ha hb hok hok2 (.inr (.inr ⟨rfl, rfl⟩))
  · exact refBetw_right a b w ha hb hok hok2
end Go.Proofs.YtlmefchcljfjlaaDoor.E

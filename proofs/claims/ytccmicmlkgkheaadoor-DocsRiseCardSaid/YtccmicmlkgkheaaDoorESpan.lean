/- Blocks of an edit's five cells; the contract of span: where an edit's bytes begin and end, or the error. -/
import Derived.Test.YtccmicmlkgkheaaDoorEArgs
namespace Go.Proofs.YtccmicmlkgkheaaDoor.E
open Go.RowKit
open Go.Lib hiding intOf
open Go.Proofs.YtccmicmlkgkheaaDoor.U Go.Proofs.YtccmicmlkgkheaaDoor.L

theorem five_cells {w : World} {q : Nat} {x0 x1 x2 x3 x4 : Value} {t : TypeId} (h : w.heap[q]? = some (.cells #[x0, x1, x2, x3, x4] t (0, 0))) :
    w.cell? ⟨q, 0, none⟩ = some x0 ∧ w.cell? ⟨q, 1, none⟩ = some x1 ∧ w.cell? ⟨q, 2, none⟩ = some x2 ∧ w.cell? ⟨q, 3, none⟩ = some x3 ∧ w.cell? ⟨q, 4, none⟩ = some x4 := by
  unfold World.cell?; rw [h]; exact ⟨rfl, rfl, rfl, rfl, rfl⟩
theorem five_frozen {w : World} {q : Nat} {x0 x1 x2 x3 x4 : Value} {t : TypeId} (h : w.heap[q]? = some (.cells #[x0, x1, x2, x3, x4] t (0, 0))) :
    w.frozen? ⟨q, 0, none⟩ = false ∧ w.frozen? ⟨q, 1, none⟩ = false ∧ w.frozen? ⟨q, 2, none⟩ = false ∧ w.frozen? ⟨q, 3, none⟩ = false ∧ w.frozen? ⟨q, 4, none⟩ = false := by
  unfold World.frozen?; rw [h]; simp
theorem ed_cells {W0 w : World} {q : Nat} {x0 x1 x2 x3 x4 : Value} {t : TypeId} (hx : W0.heap[q]? = some (.cells #[x0, x1, x2, x3, x4] t (0, 0))) (hb : Below W0.heap.size W0 w) :
    w.cell? ⟨q, 0, none⟩ = some x0 ∧ w.cell? ⟨q, 1, none⟩ = some x1 ∧ w.cell? ⟨q, 2, none⟩ = some x2 ∧ w.cell? ⟨q, 3, none⟩ = some x3 ∧ w.cell? ⟨q, 4, none⟩ = some x4 := five_cells (bx_block hx hb)

def Three (p : Int × Int × Int) (w : World) (e : Ending) (w' : World) : Prop := e = .returned (.tuple #[.int .i64 p.1, .int .i64 p.2.1, .int .i64 p.2.2]) ∧ Below w.heap.size w w'
theorem three' {p : Int × Int × Int} {a b c : Int} {w w' : World} (h : p = (a, b, c)) (hb : Below w.heap.size w w') : Three p w (.returned (.tuple #[.int .i64 a, .int .i64 b, .int .i64 c])) w' := ⟨by rw [h], hb⟩

/-- Where an edit's bytes begin and end, or the error. -/
def spanL (s : ByteArray) (e : EdP) : Int × Int × Int :=
  if okB s = false then (0, 0, 11)
  else if okB e.t = false then (0, 0, 11)
  else if (offL s e.fl e.fu).2 ≠ 0 ∨ (offL s e.tl e.tu).2 ≠ 0 then (0, 0, 51)
  else if (offL s e.tl e.tu).1 < (offL s e.fl e.fu).1 then (0, 0, 61)
  else if 16384 < (put s (offL s e.fl e.fu).1.toNat (offL s e.tl e.tu).1.toNat e.t).size then (0, 0, 73)
  else ((offL s e.fl e.fu).1, (offL s e.tl e.tu).1, 0)
/-- The ways apart. -/
theorem span_or (s : ByteArray) (e : EdP) :
    (okB s = false ∧ spanL s e = (0, 0, 11)) ∨ (okB s = true ∧ okB e.t = false ∧ spanL s e = (0, 0, 11)) ∨
    (okB s = true ∧ okB e.t = true ∧ offL s e.fl e.fu = (0, 51) ∧ spanL s e = (0, 0, 51)) ∨
    (okB s = true ∧ okB e.t = true ∧ ∃ a : Nat, offL s e.fl e.fu = ((a : Int), 0) ∧ a ≤ s.size ∧ offL s e.tl e.tu = (0, 51) ∧ spanL s e = (0, 0, 51)) ∨
    (okB s = true ∧ okB e.t = true ∧ ∃ a b : Nat, offL s e.fl e.fu = ((a : Int), 0) ∧ offL s e.tl e.tu = ((b : Int), 0) ∧ a ≤ s.size ∧ b ≤ s.size ∧
      ((b < a ∧ spanL s e = (0, 0, 61)) ∨ (a ≤ b ∧ 16384 < a + e.t.size + (s.size - b) ∧ spanL s e = (0, 0, 73)) ∨ (a ≤ b ∧ a + e.t.size + (s.size - b) ≤ 16384 ∧ spanL s e = ((a : Int), (b : Int), 0)))) := by
  unfold spanL
  cases hs : okB s with
  | false => exact .inl ⟨rfl, by simp⟩
  | true =>
    right
    cases ht : okB e.t with
    | false => exact .inl ⟨rfl, rfl, by simp⟩
    | true =>
      right
      rcases off_or' s e.fl e.fu with ⟨a, ha, haz, _⟩ | ha
      · right
        rcases off_or' s e.tl e.tu with ⟨b, hb, hbz, _⟩ | hb
        · right
          refine ⟨rfl, rfl, a, b, ha, hb, haz, hbz, ?_⟩
          rw [ha, hb]
          simp only [Bool.true_eq_false, if_false, ne_eq, not_true_eq_false, or_self, Int.toNat_natCast]
          rw [put_size haz hbz]
          by_cases h1 : b < a
          · exact .inl ⟨h1, by rw [if_pos (by omega)]⟩
          · right
            rw [if_neg (by omega)]
            by_cases h2 : 16384 < a + e.t.size + (s.size - b)
            · exact .inl ⟨by omega, h2, by rw [if_pos h2]⟩
            · exact .inr ⟨by omega, by omega, by rw [if_neg h2]⟩
        · left
          exact ⟨rfl, rfl, a, ha, haz, hb, by rw [hb]; simp⟩
      · left
        exact ⟨rfl, rfl, ha, by rw [ha]; simp⟩

set_option maxHeartbeats 2000000 in
set_option maxRecDepth 100000 in
theorem span_no (s t : ByteArray) (fl fu tl tu : Int) (w : World) (hs : s.size ≤ 1099511627776) (_ht : t.size ≤ 1099511627776) (hT : Tabs w) (hok : okB s = false) :
    Calls Tryd.prog 40 #[.string s, .agg #[.int .i64 fl, .int .i64 fu, .int .i64 tl, .int .i64 tu, .string t]] w (Three (0, 0, 11) w) := by
  obtain ⟨W, hW⟩ : ∃ W, w.alloc (.cells #[.int .i64 fl, .int .i64 fu, .int .i64 tl, .int .i64 tu, .string t] 56) = W := ⟨_, rfl⟩
  have hbw : Below w.heap.size w W := by rw [← hW]; exact (Below.refl _ _).alloc (Nat.le_refl _) _
  have HBX := Lib.hid (show W.heap[w.heap.size]? = some (.cells #[.int .i64 fl, .int .i64 fu, .int .i64 tl, .int .i64 tu, .string t] 56 (0, 0)) by rw [← hW]; exact heap_alloc_new _ _)
  have HBW := Lib.hid hbw
  have HT := Lib.hid (tabs_later hT hbw)
  clear hbw hT
  have cN := new_no s W hs HT.out hok
  clear hok
  go_enter Tryd.func40, Tryd.ntmps40
  go_wp2_with fail
  refine cN.mono ?_
  rintro e w1 ⟨rfl, hb1⟩
  have HB1 := Lib.hid hb1
  obtain ⟨p0, p1, p2, p3, p4⟩ := ed_cells HBX.out hb1

  clear hb1 cN hW 
  go_wp2_with fail
  go_ret3
  exact three' rfl (next HBW.out HB1.out)

set_option maxHeartbeats 2000000 in
set_option maxRecDepth 100000 in
theorem span_wrong (s t : ByteArray) (fl fu tl tu : Int) (w : World) (hs : s.size ≤ 1099511627776) (ht : t.size ≤ 1099511627776) (hT : Tabs w) (hok : okB s = true) (hok2 : okB t = false) :
    Calls Tryd.prog 40 #[.string s, .agg #[.int .i64 fl, .int .i64 fu, .int .i64 tl, .int .i64 tu, .string t]] w (Three (0, 0, 11) w) := by
  obtain ⟨W, hW⟩ : ∃ W, w.alloc (.cells #[.int .i64 fl, .int .i64 fu, .int .i64 tl, .int .i64 tu, .string t] 56) = W := ⟨_, rfl⟩
  have hbw : Below w.heap.size w W := by rw [← hW]; exact (Below.refl _ _).alloc (Nat.le_refl _) _
  have HBX := Lib.hid (show W.heap[w.heap.size]? = some (.cells #[.int .i64 fl, .int .i64 fu, .int .i64 tl, .int .i64 tu, .string t] 56 (0, 0)) by rw [← hW]; exact heap_alloc_new _ _)
  have HBW := Lib.hid hbw
  have HT := Lib.hid (tabs_later hT hbw)
  clear hbw hT
  have cN := new_ok s W hs HT.out hok
  clear hok
  go_enter Tryd.func40, Tryd.ntmps40
  go_wp2_with fail
  refine cN.mono ?_
  rintro e w1 ⟨b, v, rfl, hi, hb1⟩
  have HB1 := Lib.hid hb1
  obtain ⟨p0, p1, p2, p3, p4⟩ := ed_cells HBX.out hb1
  have HI1 := Lib.hid hi
  clear hb1 cN hW hi
  go_wp2_with fail
  have cR := right_any t w1 ht (tabs_later HT.out HB1.out)
  rw [hok2] at cR
  clear hok2
  refine cR.mono ?_
  rintro e w2 ⟨rfl, hb2⟩
  have HB2 := Lib.hid (next HB1.out hb2)
  have HI2 := Lib.hid (HI1.out.later hb2)
  clear p0 p1 p2 p3 p4
  obtain ⟨p0, p1, p2, p3, p4⟩ := ed_cells HBX.out HB2.out
  clear hb2 cR HI1
  go_wp2_with fail
  go_ret3
  exact three' rfl (next HBW.out HB2.out)

set_option maxHeartbeats 2000000 in
set_option maxRecDepth 100000 in
theorem span_from (s t : ByteArray) (fl fu tl tu : Int) (w : World) (hs : s.size ≤ 1099511627776) (ht : t.size ≤ 1099511627776) (hT : Tabs w) (hok : okB s = true) (hok2 : okB t = true) (HO1 : Hid (offL s fl fu = (0, 51))) :
    Calls Tryd.prog 40 #[.string s, .agg #[.int .i64 fl, .int .i64 fu, .int .i64 tl, .int .i64 tu, .string t]] w (Three (0, 0, 51) w) := by
  obtain ⟨W, hW⟩ : ∃ W, w.alloc (.cells #[.int .i64 fl, .int .i64 fu, .int .i64 tl, .int .i64 tu, .string t] 56) = W := ⟨_, rfl⟩
  have hbw : Below w.heap.size w W := by rw [← hW]; exact (Below.refl _ _).alloc (Nat.le_refl _) _
  have HBX := Lib.hid (show W.heap[w.heap.size]? = some (.cells #[.int .i64 fl, .int .i64 fu, .int .i64 tl, .int .i64 tu, .string t] 56 (0, 0)) by rw [← hW]; exact heap_alloc_new _ _)
  have HBW := Lib.hid hbw
  have HT := Lib.hid (tabs_later hT hbw)
  clear hbw hT
  have cN := new_ok s W hs HT.out hok
  clear hok
  go_enter Tryd.func40, Tryd.ntmps40
  go_wp2_with fail
  refine cN.mono ?_
  rintro e w1 ⟨b, v, rfl, hi, hb1⟩
  have HB1 := Lib.hid hb1
  obtain ⟨p0, p1, p2, p3, p4⟩ := ed_cells HBX.out hb1
  have HI1 := Lib.hid hi
  clear hb1 cN hW hi
  go_wp2_with fail
  have cR := right_any t w1 ht (tabs_later HT.out HB1.out)
  rw [hok2] at cR
  clear hok2
  refine cR.mono ?_
  rintro e w2 ⟨rfl, hb2⟩
  have HB2 := Lib.hid (next HB1.out hb2)
  have HI2 := Lib.hid (HI1.out.later hb2)
  clear p0 p1 p2 p3 p4
  obtain ⟨p0, p1, p2, p3, p4⟩ := ed_cells HBX.out HB2.out
  clear hb2 cR HI1
  go_wp2_with fail
  have cO := offset_is b s v fl fu 0 51 w2 HI2.out hs (tabs_later HT.out HB2.out) HO1.out
  refine cO.mono ?_
  rintro e w3 ⟨rfl, hb3⟩
  have HB3 := Lib.hid (next HB2.out hb3)
  have HI3 := Lib.hid (HI2.out.later hb3)
  clear p0 p1 p2 p3 p4
  obtain ⟨p0, p1, p2, p3, p4⟩ := ed_cells HBX.out HB3.out
  clear hb3 cO HI2
  go_wp2_with fail
  go_ret3
  exact three' rfl (next HBW.out HB3.out)

set_option maxHeartbeats 2000000 in
set_option maxRecDepth 100000 in
theorem span_to (s t : ByteArray) (fl fu tl tu : Int) (a : Nat) (w : World) (hs : s.size ≤ 1099511627776) (ht : t.size ≤ 1099511627776) (hT : Tabs w) (hok : okB s = true) (hok2 : okB t = true) (HO1 : Hid (offL s fl fu = ((a : Int), 0))) (HO2 : Hid (offL s tl tu = (0, 51))) :
    Calls Tryd.prog 40 #[.string s, .agg #[.int .i64 fl, .int .i64 fu, .int .i64 tl, .int .i64 tu, .string t]] w (Three (0, 0, 51) w) := by
  obtain ⟨W, hW⟩ : ∃ W, w.alloc (.cells #[.int .i64 fl, .int .i64 fu, .int .i64 tl, .int .i64 tu, .string t] 56) = W := ⟨_, rfl⟩
  have hbw : Below w.heap.size w W := by rw [← hW]; exact (Below.refl _ _).alloc (Nat.le_refl _) _
  have HBX := Lib.hid (show W.heap[w.heap.size]? = some (.cells #[.int .i64 fl, .int .i64 fu, .int .i64 tl, .int .i64 tu, .string t] 56 (0, 0)) by rw [← hW]; exact heap_alloc_new _ _)
  have HBW := Lib.hid hbw
  have HT := Lib.hid (tabs_later hT hbw)
  clear hbw hT
  have cN := new_ok s W hs HT.out hok
  clear hok
  go_enter Tryd.func40, Tryd.ntmps40
  go_wp2_with fail
  refine cN.mono ?_
  rintro e w1 ⟨b, v, rfl, hi, hb1⟩
  have HB1 := Lib.hid hb1
  obtain ⟨p0, p1, p2, p3, p4⟩ := ed_cells HBX.out hb1
  have HI1 := Lib.hid hi
  clear hb1 cN hW hi
  go_wp2_with fail
  have cR := right_any t w1 ht (tabs_later HT.out HB1.out)
  rw [hok2] at cR
  clear hok2
  refine cR.mono ?_
  rintro e w2 ⟨rfl, hb2⟩
  have HB2 := Lib.hid (next HB1.out hb2)
  have HI2 := Lib.hid (HI1.out.later hb2)
  clear p0 p1 p2 p3 p4
  obtain ⟨p0, p1, p2, p3, p4⟩ := ed_cells HBX.out HB2.out
  clear hb2 cR HI1
  go_wp2_with fail
  have cO := offset_is b s v fl fu a 0 w2 HI2.out hs (tabs_later HT.out HB2.out) HO1.out
  refine cO.mono ?_
  rintro e w3 ⟨rfl, hb3⟩
  have HB3 := Lib.hid (next HB2.out hb3)
  have HI3 := Lib.hid (HI2.out.later hb3)
  clear p0 p1 p2 p3 p4
  obtain ⟨p0, p1, p2, p3, p4⟩ := ed_cells HBX.out HB3.out
  clear hb3 cO HI2
  go_wp2_with fail
  have cO := offset_is b s v tl tu 0 51 w3 HI3.out hs (tabs_later HT.out HB3.out) HO2.out
  refine cO.mono ?_
  rintro e w4 ⟨rfl, hb4⟩
  have HB4 := Lib.hid (next HB3.out hb4)
  clear p0 p1 p2 p3 p4
  obtain ⟨p0, p1, p2, p3, p4⟩ := ed_cells HBX.out HB4.out
  clear hb4 cO HI3
  go_wp2_with fail
  go_ret3
  exact three' rfl (next HBW.out HB4.out)

set_option maxHeartbeats 2000000 in
set_option maxRecDepth 100000 in
theorem span_turned (s t : ByteArray) (fl fu tl tu : Int) (a b : Nat) (w : World) (hs : s.size ≤ 1099511627776) (ht : t.size ≤ 1099511627776) (hT : Tabs w) (hok : okB s = true) (hok2 : okB t = true) (HO1 : Hid (offL s fl fu = ((a : Int), 0))) (HO2 : Hid (offL s tl tu = ((b : Int), 0))) (_ha : a ≤ s.size) (_hb : b ≤ s.size) (hba : b < a) :
    Calls Tryd.prog 40 #[.string s, .agg #[.int .i64 fl, .int .i64 fu, .int .i64 tl, .int .i64 tu, .string t]] w (Three (0, 0, 61) w) := by
  obtain ⟨W, hW⟩ : ∃ W, w.alloc (.cells #[.int .i64 fl, .int .i64 fu, .int .i64 tl, .int .i64 tu, .string t] 56) = W := ⟨_, rfl⟩
  have hbw : Below w.heap.size w W := by rw [← hW]; exact (Below.refl _ _).alloc (Nat.le_refl _) _
  have HBX := Lib.hid (show W.heap[w.heap.size]? = some (.cells #[.int .i64 fl, .int .i64 fu, .int .i64 tl, .int .i64 tu, .string t] 56 (0, 0)) by rw [← hW]; exact heap_alloc_new _ _)
  have HBW := Lib.hid hbw
  have HT := Lib.hid (tabs_later hT hbw)
  clear hbw hT
  have cN := new_ok s W hs HT.out hok
  clear hok
  go_enter Tryd.func40, Tryd.ntmps40
  go_wp2_with fail
  refine cN.mono ?_
  rintro e w1 ⟨bb, v, rfl, hi, hb1⟩
  have HB1 := Lib.hid hb1
  obtain ⟨p0, p1, p2, p3, p4⟩ := ed_cells HBX.out hb1
  have HI1 := Lib.hid hi
  clear hb1 cN hW hi
  go_wp2_with fail
  have cR := right_any t w1 ht (tabs_later HT.out HB1.out)
  rw [hok2] at cR
  clear hok2
  refine cR.mono ?_
  rintro e w2 ⟨rfl, hb2⟩
  have HB2 := Lib.hid (next HB1.out hb2)
  have HI2 := Lib.hid (HI1.out.later hb2)
  clear p0 p1 p2 p3 p4
  obtain ⟨p0, p1, p2, p3, p4⟩ := ed_cells HBX.out HB2.out
  clear hb2 cR HI1
  go_wp2_with fail
  have cO := offset_is bb s v fl fu a 0 w2 HI2.out hs (tabs_later HT.out HB2.out) HO1.out
  refine cO.mono ?_
  rintro e w3 ⟨rfl, hb3⟩
  have HB3 := Lib.hid (next HB2.out hb3)
  have HI3 := Lib.hid (HI2.out.later hb3)
  clear p0 p1 p2 p3 p4
  obtain ⟨p0, p1, p2, p3, p4⟩ := ed_cells HBX.out HB3.out
  clear hb3 cO HI2
  go_wp2_with fail
  have cO := offset_is bb s v tl tu b 0 w3 HI3.out hs (tabs_later HT.out HB3.out) HO2.out
  refine cO.mono ?_
  rintro e w4 ⟨rfl, hb4⟩
  have HB4 := Lib.hid (next HB3.out hb4)
  clear p0 p1 p2 p3 p4
  obtain ⟨p0, p1, p2, p3, p4⟩ := ed_cells HBX.out HB4.out
  clear hb4 cO HI3
  go_wp2_with fail
  go_ret3
  exact three' rfl (next HBW.out HB4.out)

set_option maxHeartbeats 2000000 in
set_option maxRecDepth 100000 in
theorem span_full (s t : ByteArray) (fl fu tl tu : Int) (a b : Nat) (w : World) (hs : s.size ≤ 1099511627776) (ht : t.size ≤ 1099511627776) (hT : Tabs w) (hok : okB s = true) (hok2 : okB t = true) (HO1 : Hid (offL s fl fu = ((a : Int), 0))) (HO2 : Hid (offL s tl tu = ((b : Int), 0))) (ha : a ≤ s.size) (hb : b ≤ s.size) (hba : a ≤ b) (hz : 16384 < a + t.size + (s.size - b)) :
    Calls Tryd.prog 40 #[.string s, .agg #[.int .i64 fl, .int .i64 fu, .int .i64 tl, .int .i64 tu, .string t]] w (Three (0, 0, 73) w) := by
  obtain ⟨W, hW⟩ : ∃ W, w.alloc (.cells #[.int .i64 fl, .int .i64 fu, .int .i64 tl, .int .i64 tu, .string t] 56) = W := ⟨_, rfl⟩
  have hbw : Below w.heap.size w W := by rw [← hW]; exact (Below.refl _ _).alloc (Nat.le_refl _) _
  have HBX := Lib.hid (show W.heap[w.heap.size]? = some (.cells #[.int .i64 fl, .int .i64 fu, .int .i64 tl, .int .i64 tu, .string t] 56 (0, 0)) by rw [← hW]; exact heap_alloc_new _ _)
  have HBW := Lib.hid hbw
  have HT := Lib.hid (tabs_later hT hbw)
  clear hbw hT
  have cN := new_ok s W hs HT.out hok
  clear hok
  go_enter Tryd.func40, Tryd.ntmps40
  go_wp2_with fail
  refine cN.mono ?_
  rintro e w1 ⟨bb, v, rfl, hi, hb1⟩
  have HB1 := Lib.hid hb1
  obtain ⟨p0, p1, p2, p3, p4⟩ := ed_cells HBX.out hb1
  have HI1 := Lib.hid hi
  clear hb1 cN hW hi
  go_wp2_with fail
  have cR := right_any t w1 ht (tabs_later HT.out HB1.out)
  rw [hok2] at cR
  clear hok2
  refine cR.mono ?_
  rintro e w2 ⟨rfl, hb2⟩
  have HB2 := Lib.hid (next HB1.out hb2)
  have HI2 := Lib.hid (HI1.out.later hb2)
  clear p0 p1 p2 p3 p4
  obtain ⟨p0, p1, p2, p3, p4⟩ := ed_cells HBX.out HB2.out
  clear hb2 cR HI1
  go_wp2_with fail
  have cO := offset_is bb s v fl fu a 0 w2 HI2.out hs (tabs_later HT.out HB2.out) HO1.out
  refine cO.mono ?_
  rintro e w3 ⟨rfl, hb3⟩
  have HB3 := Lib.hid (next HB2.out hb3)
  have HI3 := Lib.hid (HI2.out.later hb3)
  clear p0 p1 p2 p3 p4
  obtain ⟨p0, p1, p2, p3, p4⟩ := ed_cells HBX.out HB3.out
  clear hb3 cO HI2
  go_wp2_with fail
  have cO := offset_is bb s v tl tu b 0 w3 HI3.out hs (tabs_later HT.out HB3.out) HO2.out
  refine cO.mono ?_
  rintro e w4 ⟨rfl, hb4⟩
  have HB4 := Lib.hid (next HB3.out hb4)
  clear p0 p1 p2 p3 p4
  obtain ⟨p0, p1, p2, p3, p4⟩ := ed_cells HBX.out HB4.out
  clear hb4 cO HI3
  go_wp2_with fail
  go_ret3
  exact three' rfl (next HBW.out HB4.out)

set_option maxHeartbeats 2000000 in
set_option maxRecDepth 100000 in
theorem span_fits (s t : ByteArray) (fl fu tl tu : Int) (a b : Nat) (w : World) (hs : s.size ≤ 1099511627776) (ht : t.size ≤ 1099511627776) (hT : Tabs w) (hok : okB s = true) (hok2 : okB t = true) (HO1 : Hid (offL s fl fu = ((a : Int), 0))) (HO2 : Hid (offL s tl tu = ((b : Int), 0))) (ha : a ≤ s.size) (hb : b ≤ s.size) (hba : a ≤ b) (hz : a + t.size + (s.size - b) ≤ 16384) :
    Calls Tryd.prog 40 #[.string s, .agg #[.int .i64 fl, .int .i64 fu, .int .i64 tl, .int .i64 tu, .string t]] w (Three ((a : Int), (b : Int), 0) w) := by
  obtain ⟨W, hW⟩ : ∃ W, w.alloc (.cells #[.int .i64 fl, .int .i64 fu, .int .i64 tl, .int .i64 tu, .string t] 56) = W := ⟨_, rfl⟩
  have hbw : Below w.heap.size w W := by rw [← hW]; exact (Below.refl _ _).alloc (Nat.le_refl _) _
  have HBX := Lib.hid (show W.heap[w.heap.size]? = some (.cells #[.int .i64 fl, .int .i64 fu, .int .i64 tl, .int .i64 tu, .string t] 56 (0, 0)) by rw [← hW]; exact heap_alloc_new _ _)
  have HBW := Lib.hid hbw
  have HT := Lib.hid (tabs_later hT hbw)
  clear hbw hT
  have cN := new_ok s W hs HT.out hok
  clear hok
  go_enter Tryd.func40, Tryd.ntmps40
  go_wp2_with fail
  refine cN.mono ?_
  rintro e w1 ⟨bb, v, rfl, hi, hb1⟩
  have HB1 := Lib.hid hb1
  obtain ⟨p0, p1, p2, p3, p4⟩ := ed_cells HBX.out hb1
  have HI1 := Lib.hid hi
  clear hb1 cN hW hi
  go_wp2_with fail
  have cR := right_any t w1 ht (tabs_later HT.out HB1.out)
  rw [hok2] at cR
  clear hok2
  refine cR.mono ?_
  rintro e w2 ⟨rfl, hb2⟩
  have HB2 := Lib.hid (next HB1.out hb2)
  have HI2 := Lib.hid (HI1.out.later hb2)
  clear p0 p1 p2 p3 p4
  obtain ⟨p0, p1, p2, p3, p4⟩ := ed_cells HBX.out HB2.out
  clear hb2 cR HI1
  go_wp2_with fail
  have cO := offset_is bb s v fl fu a 0 w2 HI2.out hs (tabs_later HT.out HB2.out) HO1.out
  refine cO.mono ?_
  rintro e w3 ⟨rfl, hb3⟩
  have HB3 := Lib.hid (next HB2.out hb3)
  have HI3 := Lib.hid (HI2.out.later hb3)
  clear p0 p1 p2 p3 p4
  obtain ⟨p0, p1, p2, p3, p4⟩ := ed_cells HBX.out HB3.out
  clear hb3 cO HI2
  go_wp2_with fail
  have cO := offset_is bb s v tl tu b 0 w3 HI3.out hs (tabs_later HT.out HB3.out) HO2.out
  refine cO.mono ?_
  rintro e w4 ⟨rfl, hb4⟩
  have HB4 := Lib.hid (next HB3.out hb4)
  clear p0 p1 p2 p3 p4
  obtain ⟨p0, p1, p2, p3, p4⟩ := ed_cells HBX.out HB4.out
  clear hb4 cO HI3
  go_wp2_with fail
  go_ret3
  exact three' rfl (next HBW.out HB4.out)

theorem span_any (s : ByteArray) (e : EdP) (w : World) (hs : s.size ≤ 1099511627776) (ht : e.t.size ≤ 1099511627776) (hT : Tabs w) :
    Calls Tryd.prog 40 #[.string s, .agg #[.int .i64 e.fl, .int .i64 e.fu, .int .i64 e.tl, .int .i64 e.tu, .string e.t]] w (Three (spanL s e) w) := by
  rcases span_or s e with ⟨h1, h⟩ | ⟨h1, h2, h⟩ | ⟨h1, h2, h3, h⟩ | ⟨h1, h2, a, h3, _, h4, h⟩ | ⟨h1, h2, a, b, h3, h4, ha, hb, ⟨h5, h⟩ | ⟨h5, h6, h⟩ | ⟨h5, h6, h⟩⟩ <;> rw [h]
  · exact span_no s e.t _ _ _ _ w hs ht hT h1
  · exact span_wrong s e.t _ _ _ _ w hs ht hT h1 h2
  · exact span_from s e.t _ _ _ _ w hs ht hT h1 h2 (Lib.hid h3)
  · exact span_to s e.t _ _ _ _ a w hs ht hT h1 h2 (Lib.hid h3) (Lib.hid h4)
  · exact span_turned s e.t _ _ _ _ a b w hs ht hT h1 h2 (Lib.hid h3) (Lib.hid h4) ha hb h5
  · exact span_full s e.t _ _ _ _ a b w hs ht hT h1 h2 (Lib.hid h3) (Lib.hid h4) ha hb h5 h6
  · exact span_fits s e.t _ _ _ _ a b w hs ht hT h1 h2 (Lib.hid h3) (Lib.hid h4) ha hb h5 h6
end Go.Proofs.YtccmicmlkgkheaaDoor.E

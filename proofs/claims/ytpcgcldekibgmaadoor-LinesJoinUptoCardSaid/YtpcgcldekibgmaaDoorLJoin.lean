/- The walk of the statement 'one behind the other' of layer 5. -/
import Derived.Test.YtpcgcldekibgmaaDoorLBack
namespace Go.Proofs.YtpcgcldekibgmaaDoor.L
open Go.RowKit
open Go.Lib hiding intOf
open Go.Proofs.YtpcgcldekibgmaaDoor.U

def codeN (s : ByteArray) : Int := if okB s then 0 else 11
theorem new_code (s : ByteArray) (w : World) (hs : s.size ≤ 1099511627776) (hT : Tabs w) :
    Calls Tryd.prog 9 #[.string s] w fun e w' => ∃ p, e = .returned (.tuple #[.pointer p, .int .i64 (codeN s)]) ∧ Below w.heap.size w w' := by
  refine (new_any s w hs hT).mono ?_
  unfold codeN
  rintro e w1 ⟨hb1, ⟨hf, b, v, rfl, hi, _⟩ | ⟨hf, rfl⟩⟩
  · rw [if_pos hf]; exact ⟨_, rfl, hb1⟩
  · rw [if_neg (by rw [hf]; simp)]; exact ⟨_, rfl, hb1⟩
theorem code_two (s : ByteArray) : (okB s = true ∧ codeN s = 0) ∨ (okB s = false ∧ codeN s = 11) := by
  unfold codeN; cases okB s <;> simp

set_option maxHeartbeats 4000000 in
set_option maxRecDepth 100000 in
theorem join_far (a b : ByteArray) (l u : Int) (w : World) (ha : a.size ≤ 1099511627776) (hb : b.size ≤ 1099511627776) (hab : a.size + 1 + b.size ≤ 1099511627776)
    (hq : 200 < a.size ∨ (¬ 200 < a.size ∧ 200 < b.size) ∨ (¬ 200 < a.size ∧ ¬ 200 < b.size ∧ okB a = false) ∨ (¬ 200 < a.size ∧ ¬ 200 < b.size ∧ okB a = true ∧ okB b = false)) (hT : Tabs w) :
    Calls Tryd.prog 5 #[.string a, .string b, .agg #[.int .i64 l, .int .i64 u]] w (True' w) := by
  obtain ⟨W, hW⟩ : ∃ W, w.alloc (.cells #[.int .i64 l, .int .i64 u] 23) = W := ⟨_, rfl⟩
  have hbw : Below w.heap.size w W := by rw [← hW]; exact (Below.refl _ _).alloc (Nat.le_refl _) _
  have HBW := Lib.hid hbw
  have HT := Lib.hid (tabs_later hT hbw)
  have c1 := new_code a W ha HT.out
  have C2 := Lib.hid (fun W' (h : Below W.heap.size W W') => new_code b W' hb (tabs_later HT.out h))
  have C3 := Lib.hid (fun W' (h : Below W.heap.size W W') => new_code (a ++ ⟨#[10]⟩ ++ b) W' (by have := joined_size a b; unfold joined at this; omega) (tabs_later HT.out h))
  have hcase : (200 : Int) < (a.size : Int) ∨ (¬ (200 : Int) < (a.size : Int) ∧ (200 : Int) < (b.size : Int)) ∨ (¬ (200 : Int) < (a.size : Int) ∧ ¬ (200 : Int) < (b.size : Int) ∧ codeN a = 11) ∨ (¬ (200 : Int) < (a.size : Int) ∧ ¬ (200 : Int) < (b.size : Int) ∧ codeN a = 0 ∧ codeN b = 11) := by
    rcases hq with h | ⟨h, h'⟩ | ⟨h, h', h''⟩ | ⟨h, h', h'', h3⟩
    · exact .inl (by omega)
    · exact .inr (.inl ⟨by omega, by omega⟩)
    · exact .inr (.inr (.inl ⟨by omega, by omega, by unfold codeN; rw [if_neg (by rw [h'']; simp)]⟩))
    · exact .inr (.inr (.inr ⟨by omega, by omega, by unfold codeN; rw [if_pos h''], by unfold codeN; rw [if_neg (by rw [h3]; simp)]⟩))
  generalize codeN a = ca at c1 hcase
  generalize codeN b = cb at C2 hcase
  generalize codeN (a ++ ⟨#[10]⟩ ++ b) = cz at C3
  clear hbw hT hq
  go_enter Tryd.func5, Tryd.ntmps5
  go_wp2_with fail
  refine c1.mono ?_
  rintro e w1 ⟨x1, rfl, hb1⟩
  have HB1 := Lib.hid hb1
  clear hb1 c1 hW
  go_wp2_with fail
  refine (C2.out w1 HB1.out).mono ?_
  rintro e w2 ⟨x2, rfl, hb2⟩
  have HB2 := Lib.hid (next HB1.out hb2)
  clear hb2 C2 HB1
  go_wp2_with fail
  refine (C3.out w2 HB2.out).mono ?_
  rintro e w3 ⟨x3, rfl, hb3⟩
  have HB3 := Lib.hid (next HB2.out hb3)
  clear hb3 C3 HB2
  have cA := alive_any w3 (tabs_later HT.out HB3.out)
  go_upto_region 4 with fail
  rcases hcase with h1 | ⟨h1, h2⟩ | ⟨h1, h2, rfl⟩ | ⟨h1, h2, rfl, rfl⟩
  all_goals
    go_wp2_with fail
    refine cA.mono ?_
    rintro e w4 ⟨rfl, hb4⟩
    go_wp2_with fail
    go_ret
    exact ⟨rfl, next HBW.out (next HB3.out hb4)⟩

/-- Offset at whatever place, with what it answers as a pair of letters. -/
theorem offset_some (b : Nat) (s : ByteArray) (v : Value) (l u : Int) (w : World) (h : Idx b s v w) (hs : s.size ≤ 1099511627776) (hT : Tabs w) :
    Calls Tryd.prog 13 #[.pointer (some ⟨b, 0, none⟩), .agg #[.int .i64 l, .int .i64 u]] w fun e w' => ∃ x y : Int, e = .returned (.tuple #[.int .i64 x, .int .i64 y]) ∧ Below w.heap.size w w' :=
  (idxOff_any b s v l u w h hs hT).mono fun e w' ⟨h1, h2⟩ => ⟨_, _, h1, h2⟩
theorem lines_is (b : Nat) (s : ByteArray) (v : Value) (n : Int) (w : World) (h : Idx b s v w) (hs : s.size ≤ 1099511627776) (hn : (((ends s).length + 1 : Nat) : Int) = n) :
    Calls Tryd.prog 11 #[.pointer (some ⟨b, 0, none⟩)] w fun e w' => e = .returned (.int .i64 n) ∧ w = w' := by
  rw [← hn]; exact lines_any b s v w h hs

set_option maxHeartbeats 8000000 in
set_option maxRecDepth 100000 in
theorem join_near (a b : ByteArray) (l u : Int) (w : World) (ha : a.size ≤ 200) (hb : b.size ≤ 200) (hoa : okB a = true) (hob : okB b = true) (hl : -9223372036854775808 ≤ l ∧ l < 9223372036854775808) (hT : Tabs w) :
    Calls Tryd.prog 5 #[.string a, .string b, .agg #[.int .i64 l, .int .i64 u]] w (True' w) := by
  obtain ⟨W, hW⟩ : ∃ W, w.alloc (.cells #[.int .i64 l, .int .i64 u] 23) = W := ⟨_, rfl⟩
  have hbw : Below w.heap.size w W := by rw [← hW]; exact (Below.refl _ _).alloc (Nat.le_refl _) _
  have HBX := Lib.hid (show W.heap[w.heap.size]? = some (.cells #[.int .i64 l, .int .i64 u] 23 (0, 0)) by rw [← hW]; exact heap_alloc_new _ _)
  have HBW := Lib.hid hbw
  have HT := Lib.hid (tabs_later hT hbw)
  have hjs := joined_size a b
  have hjl := ends_joined_len a b
  have hjo := okB_joined a b hoa hob
  have hR := off_right a b l u
  have hL := off_left a b l u
  have hB := off_or' b l u
  have hA := off_or' a l u
  have hla := ends_le a
  have hlb := ends_le b
  have c1 := new_ok a W (by omega) HT.out hoa
  have C2 := Lib.hid (fun W' (h : Below W.heap.size W W') => new_ok b W' (by omega) (tabs_later HT.out h) hob)
  have C3 := Lib.hid (fun W' (h : Below W.heap.size W W') => new_ok (joined a b) W' (by omega) (tabs_later HT.out h) hjo)
  have hza : ¬ (200 : Int) < (a.size : Int) := by omega
  have hzb : ¬ (200 : Int) < (b.size : Int) := by omega
  obtain ⟨X, hX⟩ : ∃ X, (ends a).length + 1 = X := ⟨_, rfl⟩
  obtain ⟨Y, hY⟩ : ∃ Y, (ends b).length + 1 = Y := ⟨_, rfl⟩
  have hXb : X ≤ 201 := by omega
  have hYb : Y ≤ 201 := by omega
  have hX' : (((ends a).length + 1 : Nat) : Int) = (X : Int) := by rw [hX]
  have hY' : (((ends b).length + 1 : Nat) : Int) = (Y : Int) := by rw [hY]
  have hZ' : (((ends (joined a b)).length + 1 : Nat) : Int) = (X : Int) + (Y : Int) := by rw [hjl]; omega
  have hlow : l < 0 ∨ 1000 < l → offL b l u = (0, 51) := by
    intro h
    rcases hB with ⟨k, hk, _, h1, h2⟩ | h2
    · omega
    · exact h2
  obtain ⟨z, hz⟩ : ∃ z, joined a b = z := ⟨_, rfl⟩
  have hz' : a ++ ⟨#[10]⟩ ++ b = z := hz
  rw [hz] at hjs hjl C3 hR hL hZ'
  rw [hX] at hR
  clear hz
  have hzs : z.size ≤ 1099511627776 := by omega
  have HZ := Lib.hid hz'
  have HX' := Lib.hid hX'
  have HY' := Lib.hid hY'
  have HZ' := Lib.hid hZ'
  have HR := Lib.hid hR
  have HL := Lib.hid hL
  have HLOW := Lib.hid hlow
  have HA := Lib.hid hA
  have HB := Lib.hid hB
  clear hbw hT hjs hjl hjo hX hY hX' hY' hZ' hR hL hB hA hla hlb hoa hob hlow
  go_enter Tryd.func5, Tryd.ntmps5
  go_wp2_with fail
  refine c1.mono ?_
  rintro e w1 ⟨b1, v1, rfl, hi1, hb1⟩
  have HB1 := Lib.hid hb1
  have HI1 := Lib.hid hi1
  clear hb1 hi1 c1 hW
  go_wp2_with fail
  refine (C2.out w1 HB1.out).mono ?_
  rintro e w2 ⟨b2, v2, rfl, hi2, hb2⟩
  have HB2 := Lib.hid (next HB1.out hb2)
  have HI12 := Lib.hid (HI1.out.later hb2)
  have HI2 := Lib.hid hi2
  clear hb2 hi2 C2 HB1 HI1
  go_wp2_with fail
  refine (C3.out w2 HB2.out).mono ?_
  rintro e w3 ⟨b3, v3, rfl, hi3, hb3⟩
  have HB3 := Lib.hid (next HB2.out hb3)
  have HI13 := Lib.hid (HI12.out.later hb3)
  have HI23 := Lib.hid (HI2.out.later hb3)
  have HI3 := Lib.hid hi3
  clear hb3 hi3 C3 HB2 HI12 HI2 hz'
  obtain ⟨p0, p1⟩ := bx_cells HBX.out HB3.out
  have L1 := Lib.hid (fun W' (h : Below w3.heap.size w3 W') => lines_is b1 a v1 X W' (HI13.out.later h) (by omega) HX'.out)
  have L2 := Lib.hid (fun W' (h : Below w3.heap.size w3 W') => lines_is b2 b v2 Y W' (HI23.out.later h) (by omega) HY'.out)
  have L3 := Lib.hid (fun W' (h : Below w3.heap.size w3 W') => lines_is b3 z v3 ((X : Int) + (Y : Int)) W' (HI3.out.later h) hzs HZ'.out)
  have O1 := Lib.hid (fun W' (h : Below w3.heap.size w3 W') l u x y => offset_is b1 a v1 l u x y W' (HI13.out.later h) (by omega) (tabs_later HT.out (next HB3.out h)))
  have O2 := Lib.hid (fun W' (h : Below w3.heap.size w3 W') l u x y => offset_is b2 b v2 l u x y W' (HI23.out.later h) (by omega) (tabs_later HT.out (next HB3.out h)))
  have O3 := Lib.hid (fun W' (h : Below w3.heap.size w3 W') l u x y => offset_is b3 z v3 l u x y W' (HI3.out.later h) hzs (tabs_later HT.out (next HB3.out h)))
  have O3s := Lib.hid (fun W' (h : Below w3.heap.size w3 W') l u => offset_some b3 z v3 l u W' (HI3.out.later h) hzs (tabs_later HT.out (next HB3.out h)))
  clear HI13 HI23 HI3 HX' HY' HZ'
  go_upto_region 6 with fail
  go_wp2_with fail
  refine (L3.out w3 (Below.refl _ _)).mono ?_
  rintro e w4 ⟨rfl, rfl⟩
  go_wp2_with fail
  refine (L1.out w3 (Below.refl _ _)).mono ?_
  rintro e w4 ⟨rfl, rfl⟩
  go_wp2_with fail
  refine (L2.out w3 (Below.refl _ _)).mono ?_
  rintro e w4 ⟨rfl, rfl⟩
  go_upto_region 8 with fail
  by_cases hin : l < 0 ∨ 1000 < l
  · have h51 := Lib.hid (HLOW.out hin)
    go_wp2_with fail
    refine (O2.out w3 (Below.refl _ _) _ _ _ _ h51.out).mono ?_
    rintro e w5 ⟨rfl, hb5⟩
    have HB5 := Lib.hid hb5
    obtain ⟨p0, p1⟩ := bx_cells HBX.out (next HB3.out hb5)
    clear hb5
    go_upto_region 9 with fail
    have hc : ∀ X', Below w5.heap.size w5 X' → (X'.cell? ⟨w.heap.size, 0, none⟩ = some (.int .i64 l) ∧ X'.cell? ⟨w.heap.size, 1, none⟩ = some (.int .i64 u) ∧ Below w5.heap.size w5 X') := fun X' hb => ⟨(bx_cells HBX.out (next HB3.out (next HB5.out hb))).1, (bx_cells HBX.out (next HB3.out (next HB5.out hb))).2, hb⟩
    have hS0 : (w5.drew.cell? ⟨w.heap.size, 0, none⟩ = some (.int .i64 l) ∧ w5.drew.cell? ⟨w.heap.size, 1, none⟩ = some (.int .i64 u) ∧ Below w5.heap.size w5 w5.drew) := hc _ (Below.refl _ _).drew
    have cL1 : ∀ X', (X'.cell? ⟨w.heap.size, 0, none⟩ = some (.int .i64 l) ∧ X'.cell? ⟨w.heap.size, 1, none⟩ = some (.int .i64 u) ∧ Below w5.heap.size w5 X') → Calls Tryd.prog 11 #[.pointer (some ⟨b1, 0, none⟩)] X' fun e w' => e = .returned (.int .i64 X) ∧ (w'.cell? ⟨w.heap.size, 0, none⟩ = some (.int .i64 l) ∧ w'.cell? ⟨w.heap.size, 1, none⟩ = some (.int .i64 u) ∧ Below w5.heap.size w5 w') := fun X' hS =>
      (L1.out X' (next HB5.out hS.2.2)).mono fun e w' ⟨h1, h2⟩ => ⟨h1, by rw [← h2]; exact hS⟩
    have cO3 : ∀ X', (X'.cell? ⟨w.heap.size, 0, none⟩ = some (.int .i64 l) ∧ X'.cell? ⟨w.heap.size, 1, none⟩ = some (.int .i64 u) ∧ Below w5.heap.size w5 X') → Calls Tryd.prog 13 #[.pointer (some ⟨b3, 0, none⟩), .agg #[.int .i64 (IntKind.i64.wrap (l + (X : Int))), .int .i64 u]] X' fun e w' => ∃ x6 y6 : Int, e = .returned (.tuple #[.int .i64 x6, .int .i64 y6]) ∧ (w'.cell? ⟨w.heap.size, 0, none⟩ = some (.int .i64 l) ∧ w'.cell? ⟨w.heap.size, 1, none⟩ = some (.int .i64 u) ∧ Below w5.heap.size w5 w') := fun X' hS =>
      (O3s.out X' (next HB5.out hS.2.2) _ _).mono fun e w' ⟨x, y, h1, h2⟩ => ⟨x, y, h1, hc _ (next hS.2.2 h2)⟩
    clear p0 p1
    go_region_held3 (fun X' => (X'.cell? ⟨w.heap.size, 0, none⟩ = some (.int .i64 l) ∧ X'.cell? ⟨w.heap.size, 1, none⟩ = some (.int .i64 u) ∧ Below w5.heap.size w5 X')) (with_reducible (repeat (first | assumption))) (first
      | (go_at_call 11; (with_reducible refine (cL1 _ ?_).mono ?_); assumption; rintro e w55 ⟨rfl, hS5⟩)
      | (go_at_call 13; (with_reducible refine (cO3 _ ?_).mono ?_); assumption; rintro e w6 ⟨x6, y6, rfl, hS6⟩))
    have HB6 := Lib.hid (next HB5.out hS6.2.2)
    obtain ⟨p0, p1⟩ := bx_cells HBX.out (next HB3.out HB6.out)
    clear hS6 hS5 cL1 cO3 hS0 hc HB5
    obtain ⟨x7', y7', h7⟩ : ∃ x y, offL a l u = (x, y) := ⟨_, _, rfl⟩
    have H7 := Lib.hid h7
    clear h7
    go_wp2_with fail
    refine (O1.out w6 HB6.out _ _ _ _ H7.out).mono ?_
    rintro e w7 ⟨rfl, hb7⟩
    have HB7 := Lib.hid (next HB6.out hb7)
    obtain ⟨p0, p1⟩ := bx_cells HBX.out (next HB3.out HB7.out)
    clear hb7 HB6
    go_wp2_with fail
    refine (O3s.out w7 HB7.out _ _).mono ?_
    rintro e w8 ⟨x8, y8, rfl, hb8⟩
    have HB8 := Lib.hid (next HB3.out (next HB7.out hb8))
    obtain ⟨p0, p1⟩ := bx_cells HBX.out HB8.out
    clear hb8 HB7
    have cA := alive_any w8 (tabs_later HT.out HB8.out)
    go_upto_region 12 with fail
    rcases hin with h0 | h0
    all_goals
      go_wp2_with fail
      refine cA.mono ?_
      rintro e w9 ⟨rfl, hb9⟩
      go_wp2_with fail
      go_ret
      exact ⟨rfl, next HBW.out (next HB8.out hb9)⟩
  · have hl0 : ¬ l < 0 := fun h => hin (.inl h)
    have hl1 : ¬ 1000 < l := fun h => hin (.inr h)
    clear hin
    have hl2 : 0 ≤ l := by omega
    have hr := HR.out hl2
    have e1 : (l + ((X : Nat) : Int)) = l + (X : Int) := rfl
    obtain ⟨k, h, m, hbk, hzk, hkm⟩ : ∃ k h m : Int, offL b l u = (k, h) ∧ offL z (l + (X : Int)) u = (m, h) ∧ ((h = 0 ∧ m = (a.size : Int) + 1 + k ∧ 0 ≤ k ∧ k ≤ 200) ∨ h = 51) := by
      rcases HB.out with ⟨k, hk, hkb, _⟩ | hk
      · rw [hk] at hr
        exact ⟨k, 0, _, hk, hr, .inl ⟨rfl, rfl, by omega, by omega⟩⟩
      · rw [hk] at hr
        exact ⟨0, 51, _, hk, hr, .inr rfl⟩
    obtain ⟨n, j, o, jz, han, hzn, hnj⟩ : ∃ n j o jz : Int, offL a l u = (n, j) ∧ offL z l u = (o, jz) ∧ ((j = 0 ∧ o = n ∧ jz = 0) ∨ j = 51) := by
      rcases HA.out with ⟨n, hn, _⟩ | hn
      · exact ⟨n, 0, n, 0, hn, HL.out _ hn, .inl ⟨rfl, rfl, rfl⟩⟩
      · exact ⟨0, 51, _, _, hn, rfl, .inr rfl⟩
    have K1 := Lib.hid hbk
    have K2 := Lib.hid hzk
    have K3 := Lib.hid han
    have K4 := Lib.hid hzn
    clear hr hbk hzk han hzn e1
    go_wp2_with fail
    refine (O2.out w3 (Below.refl _ _) _ _ _ _ K1.out).mono ?_
    rintro e w5 ⟨rfl, hb5⟩
    have HB5 := Lib.hid hb5
    obtain ⟨p0, p1⟩ := bx_cells HBX.out (next HB3.out hb5)
    clear hb5
    go_upto_region 9 with fail
    have hc : ∀ X', Below w5.heap.size w5 X' → (X'.cell? ⟨w.heap.size, 0, none⟩ = some (.int .i64 l) ∧ X'.cell? ⟨w.heap.size, 1, none⟩ = some (.int .i64 u) ∧ Below w5.heap.size w5 X') := fun X' hb => ⟨(bx_cells HBX.out (next HB3.out (next HB5.out hb))).1, (bx_cells HBX.out (next HB3.out (next HB5.out hb))).2, hb⟩
    have hS0 : (w5.drew.cell? ⟨w.heap.size, 0, none⟩ = some (.int .i64 l) ∧ w5.drew.cell? ⟨w.heap.size, 1, none⟩ = some (.int .i64 u) ∧ Below w5.heap.size w5 w5.drew) := hc _ (Below.refl _ _).drew
    have cL1 : ∀ X', (X'.cell? ⟨w.heap.size, 0, none⟩ = some (.int .i64 l) ∧ X'.cell? ⟨w.heap.size, 1, none⟩ = some (.int .i64 u) ∧ Below w5.heap.size w5 X') → Calls Tryd.prog 11 #[.pointer (some ⟨b1, 0, none⟩)] X' fun e w' => e = .returned (.int .i64 X) ∧ (w'.cell? ⟨w.heap.size, 0, none⟩ = some (.int .i64 l) ∧ w'.cell? ⟨w.heap.size, 1, none⟩ = some (.int .i64 u) ∧ Below w5.heap.size w5 w') := fun X' hS =>
      (L1.out X' (next HB5.out hS.2.2)).mono fun e w' ⟨h1, h2⟩ => ⟨h1, by rw [← h2]; exact hS⟩
    have cO3 : ∀ X', (X'.cell? ⟨w.heap.size, 0, none⟩ = some (.int .i64 l) ∧ X'.cell? ⟨w.heap.size, 1, none⟩ = some (.int .i64 u) ∧ Below w5.heap.size w5 X') → Calls Tryd.prog 13 #[.pointer (some ⟨b3, 0, none⟩), .agg #[.int .i64 (IntKind.i64.wrap (l + (X : Int))), .int .i64 u]] X' fun e w' => e = .returned (.tuple #[.int .i64 m, .int .i64 h]) ∧ (w'.cell? ⟨w.heap.size, 0, none⟩ = some (.int .i64 l) ∧ w'.cell? ⟨w.heap.size, 1, none⟩ = some (.int .i64 u) ∧ Below w5.heap.size w5 w') := fun X' hS => by
      rw [IntWalk.i64_in (l + (X : Int)) (by omega)]
      exact (O3.out X' (next HB5.out hS.2.2) _ _ _ _ K2.out).mono fun e w' ⟨h1, h2⟩ => ⟨h1, hc _ (next hS.2.2 h2)⟩
    clear p0 p1
    go_region_held3 (fun X' => (X'.cell? ⟨w.heap.size, 0, none⟩ = some (.int .i64 l) ∧ X'.cell? ⟨w.heap.size, 1, none⟩ = some (.int .i64 u) ∧ Below w5.heap.size w5 X')) (with_reducible (repeat (first | assumption))) (first
      | (go_at_call 11; (with_reducible refine (cL1 _ ?_).mono ?_); assumption; rintro e w55 ⟨rfl, hS5⟩)
      | (go_at_call 13; (with_reducible refine (cO3 _ ?_).mono ?_); assumption; rintro e w6 ⟨rfl, hS6⟩))
    have HB6 := Lib.hid (next HB5.out hS6.2.2)
    obtain ⟨p0, p1⟩ := bx_cells HBX.out (next HB3.out HB6.out)
    clear hS6 hS5 cL1 cO3 hS0 hc HB5
    go_wp2_with fail
    refine (O1.out w6 HB6.out _ _ _ _ K3.out).mono ?_
    rintro e w7 ⟨rfl, hb7⟩
    have HB7 := Lib.hid (next HB6.out hb7)
    obtain ⟨p0, p1⟩ := bx_cells HBX.out (next HB3.out HB7.out)
    clear hb7 HB6
    go_wp2_with fail
    refine (O3.out w7 HB7.out _ _ _ _ K4.out).mono ?_
    rintro e w8 ⟨rfl, hb8⟩
    have HB8 := Lib.hid (next HB3.out (next HB7.out hb8))
    obtain ⟨p0, p1⟩ := bx_cells HBX.out HB8.out
    clear hb8 HB7
    have cA := alive_any w8 (tabs_later HT.out HB8.out)
    go_upto_region 12 with fail
    rcases hkm with ⟨rfl, rfl, hk0, hk1⟩ | rfl <;> rcases hnj with ⟨rfl, rfl, rfl⟩ | rfl
    all_goals
      go_wp2_with fail
      refine cA.mono ?_
      rintro e w9 ⟨rfl, hb9⟩
      go_wp2_with fail
      go_ret
      exact ⟨by first | rfl | simp [*], next HBW.out (next HB8.out hb9)⟩
theorem join_walk (a b : ByteArray) (l u : Int) (w : World) (ha : a.size ≤ 1099511627776) (hb : b.size ≤ 1099511627776) (hab : a.size + 1 + b.size ≤ 1099511627776) (hl : -9223372036854775808 ≤ l ∧ l < 9223372036854775808) (hT : Tabs w) :
    Calls Tryd.prog 5 #[.string a, .string b, .agg #[.int .i64 l, .int .i64 u]] w (True' w) := by
  by_cases h1 : 200 < a.size
  · exact join_far a b l u w ha hb hab (.inl h1) hT
  · by_cases h2 : 200 < b.size
    · exact join_far a b l u w ha hb hab (.inr (.inl ⟨h1, h2⟩)) hT
    · cases hoa : okB a
      · exact join_far a b l u w ha hb hab (.inr (.inr (.inl ⟨h1, h2, hoa⟩))) hT
      · cases hob : okB b
        · exact join_far a b l u w ha hb hab (.inr (.inr (.inr ⟨h1, h2, hoa, hob⟩))) hT
        · exact join_near a b l u w (by omega) (by omega) hoa hob hl hT
end Go.Proofs.YtpcgcldekibgmaaDoor.L

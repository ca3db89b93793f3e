/- Law SplitPieces of layer 9. -/
import Derived.Test.YtapjomdplibanaaDoorQAlive
import Derived.Test.YtapjomdplibanaaDoorQRefP
namespace Go.Proofs.YtapjomdplibanaaDoor.Q
open Go.RowKit
open Go.Lib hiding intOf
open Go.Proofs.YtapjomdplibanaaDoor.U Go.Proofs.YtapjomdplibanaaDoor.S Go.Proofs.YtapjomdplibanaaDoor.L

theorem pieces_len (s : ByteArray) : (pieces s.toList).length ≤ s.size + 1 := by
  have := List.length_filter_le (beg s.toList) (List.range' 1 (s.toList.length - 1))
  rw [List.length_range', tl_len] at this
  unfold pieces
  rw [chain_len]
  unfold cuts
  rw [tl_len]
  omega
set_option maxHeartbeats 8000000 in
set_option maxRecDepth 20000 in
theorem pieces_short (s : ByteArray) (x y : Int) (w : World) (hs : s.size ≤ 500) (hT : Tabs w) : Calls Tryd.prog 3 #[.string s, .int .i64 x, .int .i64 y] w fun e w' => e = .returned (.bool true) ∧ Below w.heap.size w w' := by
  have c1 := pieces_any s w (by omega) hT
  have c2 := fun X => refPieces_any s X (by omega)
  have hlen : (pieces s.toList).length ≤ 1000000 := Nat.le_trans (pieces_len s) (by omega)
  have hts := touch_same (fol_pieces s.toList).1 x y
  obtain ⟨P, hP⟩ : ∃ P, pieces s.toList = P := ⟨_, rfl⟩
  rw [hP] at c1 hlen hts
  simp only [hP] at c2
  have HLEN := Lib.hid hlen
  obtain ⟨T, hT2⟩ : ∃ T, touchR P x y = T := ⟨_, rfl⟩
  rw [hT2] at hts
  have HT2 := Lib.hid hT2
  have HT1 := Lib.hid hts
  have HTA := Lib.hid hT
  obtain ⟨t1, t2⟩ := T
  clear hP hlen hts hT2 hT
  go_enter Tryd.func3, Tryd.ntmps3
  go_wp2_with fail
  refine c1.mono ?_
  rintro e w1 ⟨v, rfl, hv, hb1⟩
  have HX1 := Lib.hid hv
  have HL1 := Lib.hid hb1
  clear c1 hv hb1
  go_wp2_with fail
  refine (c2 w1).mono ?_
  rintro e w2 ⟨v2, rfl, hv2, hb2⟩
  have HX2 := Lib.hid (HX1.out.later hb2)
  have HY2 := Lib.hid hv2
  have HL2 := Lib.hid (HL1.out.trans (hb2.mono HL1.out.size))
  have cT := touched_any _ P v x y w2 HX2.out HLEN.out
  rw [HT1.out] at cT
  dsimp only at cT
  clear c2 hv2 hb2
  go_wp2_with fail
  refine cT.mono ?_
  rintro e w3 ⟨rfl, hb3⟩
  have HX3 := Lib.hid (HX2.out.later hb3)
  have HY3 := Lib.hid (HY2.out.later hb3)
  have HL3 := Lib.hid (HL2.out.trans (hb3.mono HL2.out.size))
  have cT2 := refTouched_any _ P v2 x y w3 HY3.out HLEN.out
  rw [HT2.out] at cT2
  dsimp only at cT2
  clear cT hb3
  go_wp2_with fail
  refine cT2.mono ?_
  rintro e w4 ⟨rfl, hb4⟩
  have HX4 := Lib.hid (HX3.out.later hb4)
  have HY4 := Lib.hid (HY3.out.later hb4)
  have HL4 := Lib.hid (HL3.out.trans (hb4.mono HL3.out.size))
  have cS := same_any _ _ P v v2 w4 HX4.out HY4.out HLEN.out
  clear cT2 hb4
  go_wp2_with fail
  refine cS.mono ?_
  rintro e w5 ⟨rfl, hb5⟩
  have HX5 := Lib.hid (HX4.out.later hb5)
  have HY5 := Lib.hid (HY4.out.later hb5)
  have HL5 := Lib.hid (HL4.out.trans (hb5.mono HL4.out.size))
  have cA := alive_any w5 (HTA.out.later HL5.out)
  clear cS hb5
  go_wp2_with fail
  refine cA.mono ?_
  rintro e w6 ⟨rfl, hb6⟩
  have HY6 := Lib.hid (HY5.out.later hb6)
  have HL6 := Lib.hid (HL5.out.trans (hb6.mono HL5.out.size))
  have cO := of_any _ P v x w6 (HX5.out.later hb6) HLEN.out
  obtain ⟨o, ho⟩ : ∃ o, ofL P x = o := ⟨_, rfl⟩
  have HO := Lib.hid ho
  rw [ho] at cO
  clear cA hb6 ho
  go_wp2_with fail
  refine cO.mono ?_
  rintro e w7 ⟨rfl, hb7⟩
  have HL7 := Lib.hid (HL6.out.trans (hb7.mono HL6.out.size))
  have cO2 := refOf_any _ P v2 x w7 (HY6.out.later hb7) HLEN.out
  rw [HO.out] at cO2
  clear cO hb7
  go_wp2_with fail
  refine cO2.mono ?_
  rintro e w8 ⟨rfl, hb8⟩
  have HL8 := Lib.hid (HL7.out.trans (hb8.mono HL7.out.size))
  clear cO2 hb8
  go_wp2_with fail
  go_ret
  exact ⟨rfl, HL8.out⟩
set_option maxHeartbeats 8000000 in
set_option maxRecDepth 20000 in
theorem lpieces_any (s : ByteArray) (x y : Int) (w : World) (hT : Tabs w) : Calls Tryd.prog 3 #[.string s, .int .i64 x, .int .i64 y] w fun e w' => e = .returned (.bool true) ∧ Below w.heap.size w w' := by
  by_cases hs : s.size ≤ 500
  · exact pieces_short s x y w hs hT
  · have cA := alive_any w hT
    have hz2 : (500 : Int) < (s.size : Int) := by omega
    go_enter Tryd.func3, Tryd.ntmps3
    go_wp2_with fail
    refine cA.mono ?_
    rintro e w3 ⟨rfl, hb3⟩
    go_wp2_with fail
    go_ret
    exact ⟨rfl, hb3⟩
end Go.Proofs.YtapjomdplibanaaDoor.Q

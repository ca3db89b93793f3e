/- The contract of package scan's Scan. -/
import Derived.Test.YtapjomdplibanaaDoorPStep
import Derived.Test.YtapjomdplibanaaDoorWalksR
namespace Go.Proofs.YtapjomdplibanaaDoor.S
open Go.RowKit
open Go.Lib hiding intOf
open Go.Proofs.YtapjomdplibanaaDoor.U Go.Proofs.YtapjomdplibanaaDoor.L

def atOf (d : Nat) (w : World) : Nat := match w.cell? ⟨d, 2, none⟩ with
  | some (.int _ k) => k.toNat
  | _ => 0
theorem ScB.at {d : Nat} {s : ByteArray} {r : Bool} {i : Nat} {v : Value} {w : World} (h : ScB d s r i v w) : atOf d w = i := by unfold atOf; rw [h.c2]; rfl
theorem tk_end (s : ByteArray) : tkOf 5 (s.extract s.size (s.size + 0)) s.size (s.size + 0) = ⟨5, [], s.size, s.size⟩ := by
  unfold tkOf
  have h : (s.extract s.size (s.size + 0)).toList = [] := by rw [ext_list, tl_end s (Nat.le_refl _), List.take_nil]
  rw [h]; rfl
set_option maxHeartbeats 8000000 in
set_option maxRecDepth 20000 in
theorem scan_any (s : ByteArray) (w : World) (hs : s.size ≤ 1099511627776) (hT : Tabs w) :
    Calls Tryd.prog 19 #[.string s] w fun e w' => ∃ v, e = .returned v ∧ ToksIn w.heap.size w' (scanB (okB s) s.toList) v ∧ Below w.heap.size w w' := by
  have cR := right_any s w hs hT
  obtain ⟨r, hr⟩ : ∃ r, okB s = r := ⟨_, rfl⟩
  have HS0 : Hid (ScSt r s 0 []) := Lib.hid (scSt_start r s (fun h => by rw [hr]; exact h))
  rw [hr] at cR ⊢
  clear hr
  go_enter Tryd.func19, Tryd.ntmps19
  go_wp2_with fail
  refine cR.mono ?_
  rintro e w1 ⟨rfl, hb1⟩
  have HB1 := Lib.hid hb1
  clear cR hb1
  go_wp2_with fail
  obtain ⟨d, hd⟩ : ∃ d, w1.heap.size = d := ⟨_, rfl⟩
  obtain ⟨W0, hW0⟩ : ∃ W, w1.alloc (.cells #[.string s, .bool r, .int .i64 0, .slice none 0 0] 60) = W := ⟨_, rfl⟩
  have HB0 : Hid (ScB d s r ((0 : Nat) : Int) (.slice none 0 0) W0) := Lib.hid (by rw [← hd, ← hW0]; exact heap_alloc_new w1 _)
  have HL0 : Hid (Below d w1 W0) := Lib.hid (by rw [← hW0]; exact (Below.refl d w1).alloc (by omega) _)
  have hwd : w.heap.size ≤ d := by have := HB1.out.size; omega
  rw [hd, hW0]
  clear hW0 hd
  go_loopw [] (fun wr => ∃ (i : Nat) (O : List TokP) (v : Value), i ≤ s.size ∧ Hid (ScB d s r i v wr) ∧ Hid (Row d v O wr) ∧ Hid (ScSt r s i O) ∧ Hid (Mut (d + 1) d W0 wr)) (fun wr => s.size - atOf d wr)
  case atStart => exact ⟨0, [], _, Nat.zero_le _, HB0, Lib.hid (World.ownsRow_nil _ _ _ _), HS0, Lib.hid (Mut.refl _ _ _)⟩
  case round =>
    obtain ⟨i, O, v, hi, HB, HR, HS, HM⟩ := hrel
    clear HS0 HB0
    have h2 := HB.out.c2
    have hat := HB.out.at
    by_cases hlt : i < s.size
    · have cS := step_any d s r i v O wr HB.out HR.out HS.out hlt hs
      go_wp2_with fail
      refine cS.mono ?_
      rintro e w2 ⟨j, O2, hij, hjs, hS2, rfl, v2, hB2, hR2, hM2⟩
      have hat2 := hB2.at
      have HB2 := Lib.hid hB2
      have HR2 := Lib.hid hR2
      have HS2 := Lib.hid hS2
      have HM2 := Lib.hid (HM.out.trans hM2)
      clear cS hB2 hR2 hS2 hM2 h2
      go_wp2_with fail
      go_roundw
      case rel => exact ⟨j, O2, v2, hjs, HB2, HR2, HS2, HM2⟩
      case measure => rw [hat, hat2]; omega
    · obtain rfl : i = s.size := by omega
      have cM := mayEnd_any d s r s.size v O wr HB.out HR.out (by have := HS.out.few; omega)
      clear hat
      go_wp2_with fail
      refine cM.mono ?_
      rintro e w2 ⟨rfl, hb2⟩
      have HB2 := Lib.hid (HB.out.below hb2)
      have HR2 : Hid (Row d v O w2) := Lib.hid (owns_later HR.out hb2)
      have hdw := HB.out.lt
      have HM2 : Hid (Mut (d + 1) d W0 w2) := Lib.hid (HM.out.trans (Mut.of_below (⟨hb2.os, hb2.tape, hb2.output, hb2.size, fun k hk => hb2.block k (by omega)⟩ : Below (d + 1) wr w2)))
      have hfin : ∀ (w' : World), Mut (d + 1) d W0 w' → Below w.heap.size w w' := fun w' hm =>
        HB1.out.trans ((HL0.out.trans ((hm.mono (Nat.le_succ d)).below (Nat.le_refl d))).mono hwd)
      have HF := Lib.hid hfin
      clear cM hb2 h2 hfin
      cases hen : endL O
      · have HX : Hid (scanB r s.toList = O) := Lib.hid (by have h := HS.out.all; rw [scanAt_end, hen] at h; simpa using h)
        have h3 := HB2.out.c3
        clear hen
        go_wp2_with fail
        go_ret
        exact ⟨_, rfl, by rw [HX.out]; exact toks_row HR2.out rfl (by omega), HF.out _ HM2.out⟩
      · have HX : Hid (scanB r s.toList = O ++ [⟨5, [], s.size, s.size⟩]) := Lib.hid (by have h := HS.out.all; rw [scanAt_end, hen] at h; simpa using h)
        have cT := take_any d s r s.size 0 5 v O w2 HB2.out HR2.out (by have := HS.out.few; omega) hs (by omega)
        rw [tk_end] at cT
        clear hen
        go_wp2_with fail
        refine cT.mono ?_
        rintro e w3 ⟨rfl, v3, hB3, hR3, hM3⟩
        have h3 := hB3.c3
        have HR3 := Lib.hid hR3
        have HM3 := Lib.hid (HM2.out.trans hM3)
        clear cT hB3 hR3 hM3
        go_wp2_with fail
        go_ret
        exact ⟨_, rfl, by rw [HX.out]; exact toks_row HR3.out rfl (by omega), HF.out _ HM3.out⟩
end Go.Proofs.YtapjomdplibanaaDoor.S

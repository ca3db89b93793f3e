/- The contracts of the document's own begins and finishes of layer 6. -/
import Derived.Test.YtlmefchcljfjlaaDoorERef1
import Derived.Test.YtlmefchcljfjlaaDoorECPlain
namespace Go.Proofs.YtlmefchcljfjlaaDoor.E
open Go.RowKit
open Go.Lib hiding intOf
open Go.Proofs.YtlmefchcljfjlaaDoor.U Go.Proofs.YtlmefchcljfjlaaDoor.L

theorem bytes_ne {a b : ByteArray} (h : a ≠ b) : (a.toList == b.toList) = false := by
  refine beq_eq_false_iff_ne.2 fun e => h ?_
  rw [ByteArray.toList_eq, ByteArray.toList_eq] at e
  obtain ⟨x⟩ := a
  obtain ⟨y⟩ := b
  have e2 : x = y := Array.toList_inj.1 e
  rw [e2]

set_option maxHeartbeats 4000000 in
set_option maxRecDepth 100000 in
theorem begins_any (a b : ByteArray) (n : Nat) (w : World) (ha : a.size ≤ 400) (hb : b.size ≤ 400) (hB : Beg a b n) :
    Calls Tryd.prog 23 #[.string a, .string b] w fun e w' => e = .returned (.int .i64 n) ∧ Below w.heap.size w w' := by
  have HBG := Lib.hid hB
  clear hB
  go_enter Tryd.func23, Tryd.ntmps23
  go_wp2_with fail
  go_loopw [5, 6] (fun nv kv wr => ∃ k m : Nat, nv = .int .i64 m ∧ kv = .int .i64 k ∧ k ≤ 401 ∧ Hid (BegTo a b k m) ∧ Hid (Below w.heap.size w wr)) (fun _ kv _ => 402 - (intOf kv).toNat)
  case atStart => exact ⟨0, 0, rfl, rfl, by omega, Lib.hid (begTo_zero a b), Lib.hid (Below.refl _ _)⟩
  case round =>
    obtain ⟨k, m, rfl, rfl, hk, HM, HL⟩ := hrel
    by_cases h1 : k ≤ a.size
    · have d1 : decide ((k : Int) ≤ (a.size : Int)) = true := by simpa using h1
      by_cases h2 : k ≤ b.size
      · have d2 : decide ((k : Int) ≤ (b.size : Int)) = true := by simpa using h2
        by_cases h3 : hd a k = hd b k
        · have hz : (hd a k).size ≤ 400 := by rw [hd_size h1]; omega
          have HC := Lib.hid (show Com a b k from ⟨h1, h2, h3⟩)
          have cR := fun W => ref_right (hd a k) W hz
          cases hok : okB (hd a k)
          · have HN := Lib.hid (begTo_no HM.out HC.out hok)
            rw [hok] at cR
            clear hok hz
            obtain ⟨x, hx⟩ : ∃ x, a.extract 0 k = x := ⟨_, rfl⟩
            obtain ⟨y, hy⟩ : ∃ y, b.extract 0 k = y := ⟨_, rfl⟩
            obtain rfl : x = y := by rw [← hx, ← hy]; exact h3
            have cR2 : ∀ W, _ := cR
            simp only [hd, hx] at cR2
            clear cR h3
            clear HM HC HBG
            go_wp2_with fail
            go_quiet (fail)
            go_wp2_with fail
            (with_reducible refine (cR2 _).mono ?_)
            rintro e w1 ⟨rfl, hb1⟩
            have HB1 := Lib.hid (next (next HL.out (L.below_drewN _ _)) hb1)
            clear hb1 cR2
            go_wp2_with fail
            go_roundw
            case rel => exact ⟨k + 1, m, rfl, by go_num, by omega, HN, HB1⟩
            case measure => simp [intOf]; omega
          · have HN := Lib.hid (begTo_ok HM.out HC.out hok)
            rw [hok] at cR
            clear hok hz
            obtain ⟨x, hx⟩ : ∃ x, a.extract 0 k = x := ⟨_, rfl⟩
            obtain ⟨y, hy⟩ : ∃ y, b.extract 0 k = y := ⟨_, rfl⟩
            obtain rfl : x = y := by rw [← hx, ← hy]; exact h3
            have cR2 : ∀ W, _ := cR
            simp only [hd, hx] at cR2
            clear cR h3
            clear HM HC HBG
            go_wp2_with fail
            go_quiet (fail)
            go_wp2_with fail
            (with_reducible refine (cR2 _).mono ?_)
            rintro e w1 ⟨rfl, hb1⟩
            have HB1 := Lib.hid (next (next HL.out (L.below_drewN _ _)) hb1)
            clear hb1 cR2
            go_wp2_with fail
            go_roundw
            case rel => exact ⟨k + 1, k, rfl, by go_num, by omega, HN, HB1⟩
            case measure => simp [intOf]; omega
        · have HF := Lib.hid ((begTo_end HM.out (fun h => h3 h.2.2)).one HBG.out)
          obtain ⟨x, hx⟩ : ∃ x, a.extract 0 k = x := ⟨_, rfl⟩
          obtain ⟨y, hy⟩ : ∃ y, b.extract 0 k = y := ⟨_, rfl⟩
          have hxy : (x.toList == y.toList) = false := bytes_ne (by rw [← hx, ← hy]; exact h3)
          clear h3
          clear HM HBG
          go_wp2_with fail
          go_quiet (fail)
          go_wp2_with fail
          go_ret
          exact ⟨by rw [HF.out]; rfl, next HL.out (L.below_drewN _ _)⟩
      · have d2 : decide (k ≤ b.size) = false := by simpa using h2
        have HF := Lib.hid ((begTo_end HM.out (fun h => h2 h.2.1)).one HBG.out)
        clear HM HBG h2
        go_wp2_with fail
        go_quiet (fail)
        go_wp2_with fail
        go_ret
        exact ⟨by rw [HF.out]; rfl, next HL.out (L.below_drewN _ _)⟩
    · have d1 : decide (k ≤ a.size) = false := by simpa using h1
      have HF := Lib.hid ((begTo_end HM.out (fun h => h1 h.1)).one HBG.out)
      clear HM HBG h1
      go_wp2_with fail
      go_quiet (fail)
      go_wp2_with fail
      go_ret
      exact ⟨by rw [HF.out]; rfl, next HL.out (L.below_drewN _ _)⟩

set_option maxHeartbeats 4000000 in
set_option maxRecDepth 100000 in
theorem finishes_any (a b : ByteArray) (n : Nat) (w : World) (ha : a.size ≤ 400) (hb : b.size ≤ 400) (hB : Fin a b n) :
    Calls Tryd.prog 24 #[.string a, .string b] w fun e w' => e = .returned (.int .i64 n) ∧ Below w.heap.size w w' := by
  have HBG := Lib.hid hB
  clear hB
  go_enter Tryd.func24, Tryd.ntmps24
  go_wp2_with fail
  go_loopw [5, 6] (fun nv kv wr => ∃ k m : Nat, nv = .int .i64 m ∧ kv = .int .i64 k ∧ k ≤ 401 ∧ Hid (FinTo a b k m) ∧ Hid (Below w.heap.size w wr)) (fun _ kv _ => 402 - (intOf kv).toNat)
  case atStart => exact ⟨0, 0, rfl, rfl, by omega, Lib.hid (finTo_zero a b), Lib.hid (Below.refl _ _)⟩
  case round =>
    obtain ⟨k, m, rfl, rfl, hk, HM, HL⟩ := hrel
    by_cases h1 : k ≤ a.size
    · have d1 : decide ((k : Int) ≤ (a.size : Int)) = true := by simpa using h1
      by_cases h2 : k ≤ b.size
      · have d2 : decide ((k : Int) ≤ (b.size : Int)) = true := by simpa using h2
        obtain ⟨i, hi⟩ : ∃ i : Nat, a.size - k = i := ⟨_, rfl⟩
        obtain ⟨j, hj⟩ : ∃ j : Nat, b.size - k = j := ⟨_, rfl⟩
        have hii : (a.size : Int) - k = (i : Int) := by omega
        have hjj : (b.size : Int) - k = (j : Int) := by omega
        have hia : i ≤ a.size := by omega
        have hjb : j ≤ b.size := by omega
        have HIE := Lib.hid hi
        have HJE := Lib.hid hj
        clear hi hj
        by_cases h3 : tl a i = tl b j
        · have hz : (tl a i).size ≤ 400 := by rw [tl_size hia]; omega
          have HC := Lib.hid (show Cot a b k from ⟨h1, h2, by rw [HIE.out, HJE.out]; exact h3⟩)
          have cR := fun W => ref_right (tl a i) W hz
          cases hok : okB (tl a i)
          · have HN := Lib.hid (finTo_no HM.out HC.out (by rw [HIE.out]; exact hok))
            rw [hok] at cR
            clear hok hz
            obtain ⟨x, hx⟩ : ∃ x, a.extract i a.size = x := ⟨_, rfl⟩
            obtain ⟨y, hy⟩ : ∃ y, b.extract j b.size = y := ⟨_, rfl⟩
            obtain rfl : x = y := by rw [← hx, ← hy]; exact h3
            have cR2 : ∀ W, _ := cR
            simp only [tl, hx] at cR2
            clear cR h3
            clear HM HC HBG
            go_wp2_with fail
            go_quiet (fail)
            go_wp2_with fail
            (with_reducible refine (cR2 _).mono ?_)
            rintro e w1 ⟨rfl, hb1⟩
            have HB1 := Lib.hid (next (next HL.out (L.below_drewN _ _)) hb1)
            clear hb1 cR2
            go_wp2_with fail
            go_roundw
            case rel => exact ⟨k + 1, m, rfl, by go_num, by omega, HN, HB1⟩
            case measure => simp [intOf]; omega
          · have HN := Lib.hid (finTo_ok HM.out HC.out (by rw [HIE.out]; exact hok))
            rw [hok] at cR
            clear hok hz
            obtain ⟨x, hx⟩ : ∃ x, a.extract i a.size = x := ⟨_, rfl⟩
            obtain ⟨y, hy⟩ : ∃ y, b.extract j b.size = y := ⟨_, rfl⟩
            obtain rfl : x = y := by rw [← hx, ← hy]; exact h3
            have cR2 : ∀ W, _ := cR
            simp only [tl, hx] at cR2
            clear cR h3
            clear HM HC HBG
            go_wp2_with fail
            go_quiet (fail)
            go_wp2_with fail
            (with_reducible refine (cR2 _).mono ?_)
            rintro e w1 ⟨rfl, hb1⟩
            have HB1 := Lib.hid (next (next HL.out (L.below_drewN _ _)) hb1)
            clear hb1 cR2
            go_wp2_with fail
            go_roundw
            case rel => exact ⟨k + 1, k, rfl, by go_num, by omega, HN, HB1⟩
            case measure => simp [intOf]; omega
        · have HF := Lib.hid ((finTo_end HM.out (fun h => h3 (by have := h.2.2; rw [HIE.out, HJE.out] at this; exact this))).one HBG.out)
          obtain ⟨x, hx⟩ : ∃ x, a.extract i a.size = x := ⟨_, rfl⟩
          obtain ⟨y, hy⟩ : ∃ y, b.extract j b.size = y := ⟨_, rfl⟩
          have hxy : (x.toList == y.toList) = false := bytes_ne (by rw [← hx, ← hy]; exact h3)
          clear h3
          clear HM HBG
          go_wp2_with fail
          go_quiet (fail)
          go_wp2_with fail
          go_ret
          exact ⟨by rw [HF.out]; rfl, next HL.out (L.below_drewN _ _)⟩
      · have d2 : decide (k ≤ b.size) = false := by simpa using h2
        have HF := Lib.hid ((finTo_end HM.out (fun h => h2 h.2.1)).one HBG.out)
        clear HM HBG h2
        go_wp2_with fail
        go_quiet (fail)
        go_wp2_with fail
        go_ret
        exact ⟨by rw [HF.out]; rfl, next HL.out (L.below_drewN _ _)⟩
    · have d1 : decide (k ≤ a.size) = false := by simpa using h1
      have HF := Lib.hid ((finTo_end HM.out (fun h => h1 h.1)).one HBG.out)
      clear HM HBG h1
      go_wp2_with fail
      go_quiet (fail)
      go_wp2_with fail
      go_ret
      exact ⟨by rw [HF.out]; rfl, next HL.out (L.below_drewN _ _)⟩
end Go.Proofs.YtlmefchcljfjlaaDoor.E

/- The contracts of the document's own Whole, Size and Same of layer 7. -/
import Derived.Test.YtccmicmlkgkheaaDoorDRef2
namespace Go.Proofs.YtccmicmlkgkheaaDoor.D
open Go.RowKit
open Go.Lib hiding intOf
open Go.Proofs.YtccmicmlkgkheaaDoor.U Go.Proofs.YtccmicmlkgkheaaDoor.L Go.Proofs.YtccmicmlkgkheaaDoor.E

set_option maxHeartbeats 4000000 in
set_option maxRecDepth 20000 in
theorem whole_any (B q : Nat) (l : List DocP) (v : Value) (n t : ByteArray) (ver : Int) (w : World) (h : Sto B q l v w) (hI : Inv l) (hB : B ≤ w.heap.size) (ht : t.size ≤ 1000000) :
    Calls Tryd.prog 22 #[.pointer (some ⟨q, 0, none⟩), .string n, .int .i64 ver, .string t] w (RefPost B q (wholeL l n ver t) w) := by
  have hl : l.length ≤ 1000000 := by have := hI.few; omega
  have cN := newer_any B q l v n ver w h hl
  have cR := ref_right t w ht
  have HH := Lib.hid h
  clear h
  rcases newer_or l n ver with ⟨h1, h2⟩ | ⟨j, hj, h1, h3, ⟨h4, h2⟩ | ⟨h4, h2⟩⟩
  · have hR : wholeL l n ver t = (l, 72) := by unfold wholeL; rw [h1]
    rw [hR]
    rw [h2] at cN
    clear hR h1 h2
    generalize okB t = K at cR
    go_enter Tryd.func22, Tryd.ntmps22
    go_wp2_with fail
    refine cN.mono ?_
    rintro e w1 ⟨rfl, hw⟩
    replace hw := hw.symm
    subst hw
    go_wp2_with fail
    refine cR.mono ?_
    rintro e w2 ⟨rfl, hb2⟩
    go_wp2_with fail
    go_ret
    exact ⟨rfl, Keep.of hb2 (Nat.le_refl _), v, HH.out.later hb2⟩
  · have hR : wholeL l n ver t = (l, 71) := by unfold wholeL; rw [h1]; simp only; rw [if_pos h4]
    rw [hR]
    rw [h2] at cN
    clear hR h1 h2 h3 h4
    generalize okB t = K at cR
    go_enter Tryd.func22, Tryd.ntmps22
    go_wp2_with fail
    refine cN.mono ?_
    rintro e w1 ⟨rfl, hw⟩
    replace hw := hw.symm
    subst hw
    go_wp2_with fail
    refine cR.mono ?_
    rintro e w2 ⟨rfl, hb2⟩
    go_wp2_with fail
    go_ret
    exact ⟨rfl, Keep.of hb2 (Nat.le_refl _), v, HH.out.later hb2⟩
  · rw [h2] at cN
    have cP := fun W (hb : Below w.heap.size w W) => put_any B q j l _ ver t W (HH.out.later hb) hl hj (Nat.le_trans hB hb.size)
    have CP := Lib.hid cP
    have hR : (okB t = false ∧ wholeL l n ver t = (l, 11)) ∨ (okB t = true ∧ 16384 < t.size ∧ wholeL l n ver t = (l, 73)) ∨ (okB t = true ∧ t.size ≤ 16384 ∧ wholeL l n ver t = (l.set j ⟨l[j].n, ver, t⟩, 0)) := by
      unfold wholeL
      rw [h1]
      simp only
      rw [if_neg h4]
      cases hok : okB t
      · exact .inl ⟨rfl, by simp⟩
      · right
        by_cases hz : 16384 < t.size
        · exact .inl ⟨rfl, hz, by simp [hz]⟩
        · exact .inr ⟨rfl, by omega, by simp only [Bool.true_eq_false, if_false]; rw [if_neg hz, putL_set hI hj h3]⟩
    obtain ⟨R, hRR⟩ : ∃ R, wholeL l n ver t = R := ⟨_, rfl⟩
    rw [hRR] at hR ⊢
    have hjm : ¬ ((j : Int) < 0) := by omega
    clear cP hRR h1 h2 h3 h4
    rcases hR with ⟨hok, rfl⟩ | ⟨hok, hz, rfl⟩ | ⟨hok, hz, rfl⟩
    · rw [hok] at cR
      clear hok
      go_enter Tryd.func22, Tryd.ntmps22
      go_wp2_with fail
      refine cN.mono ?_
      rintro e w1 ⟨rfl, hw⟩
      replace hw := hw.symm
      subst hw
      go_wp2_with fail
      refine cR.mono ?_
      rintro e w2 ⟨rfl, hb2⟩
      go_wp2_with fail
      go_ret
      exact ⟨rfl, Keep.of hb2 (Nat.le_refl _), v, HH.out.later hb2⟩
    · rw [hok] at cR
      clear hok
      have hzi : (16384 : Int) < (t.size : Int) := by omega
      go_enter Tryd.func22, Tryd.ntmps22
      go_wp2_with fail
      refine cN.mono ?_
      rintro e w1 ⟨rfl, hw⟩
      replace hw := hw.symm
      subst hw
      go_wp2_with fail
      refine cR.mono ?_
      rintro e w2 ⟨rfl, hb2⟩
      go_wp2_with fail
      go_ret
      exact ⟨rfl, Keep.of hb2 (Nat.le_refl _), v, HH.out.later hb2⟩
    · rw [hok] at cR
      clear hok
      have hzi : ¬ (16384 : Int) < (t.size : Int) := by omega
      go_enter Tryd.func22, Tryd.ntmps22
      go_wp2_with fail
      refine cN.mono ?_
      rintro e w1 ⟨rfl, hw⟩
      replace hw := hw.symm
      subst hw
      go_wp2_with fail
      refine cR.mono ?_
      rintro e w2 ⟨rfl, hb2⟩
      have HB2 := Lib.hid hb2
      clear hb2 cR cN
      go_wp2_with fail
      refine (CP.out w2 HB2.out).mono ?_
      rintro e w3 ⟨rfl, hk3, hs3⟩
      have HK := Lib.hid hk3
      have HS := Lib.hid hs3
      clear hk3 hs3
      go_wp2_with fail
      go_ret
      exact ⟨rfl, (Keep.of HB2.out (Nat.le_refl _)).trans (HK.out.weak HB2.out.size (fun _ _ h => h)), HS.out⟩

theorem sizeL_app : ∀ (a b : List DocP), sizeL (a ++ b) = sizeL a + sizeL b
  | [], b => by simp [sizeL]
  | d :: r, b => by simp only [List.cons_append, sizeL, sizeL_app r b]; omega
theorem sizeL_take {l : List DocP} {i : Nat} (h : i < l.length) : sizeL (l.take (i + 1)) = sizeL (l.take i) + l[i].t.size := by
  rw [List.take_succ_eq_append_getElem h, sizeL_app]; simp [sizeL]
set_option maxHeartbeats 2000000 in
set_option maxRecDepth 20000 in
theorem refSize_any (B q : Nat) (l : List DocP) (v : Value) (w : World) (h : Sto B q l v w) (hI : Inv l) :
    Calls Tryd.prog 14 #[.pointer (some ⟨q, 0, none⟩)] w fun e w' => e = .returned (.int .i64 (sizeL l : Nat)) ∧ w' = w := by
  have h0 := h.c0
  have hl := hI.few
  obtain ⟨a, cap, rfl, hcap, hc⟩ := h.row
  have HC := Lib.hid hc
  have HEACH := Lib.hid (fun i (hi : i < l.length) => (hI.each l[i] (List.getElem_mem hi)).2.2)
  obtain ⟨R, hR⟩ : ∃ R, sizeL l = R := ⟨_, rfl⟩
  have HR := Lib.hid hR
  obtain ⟨m, hm⟩ : ∃ m, l.length = m := ⟨_, rfl⟩
  have HM := Lib.hid hm
  rw [hm] at hl h0
  rw [hR]
  clear h hc hR hm hcap hI
  go_enter Tryd.func14, Tryd.ntmps14
  go_wp2_with fail
  go_loop [3, 4] (fun nv iv => ∃ i k : Nat, nv = .int .i64 k ∧ iv = .int .i64 i ∧ i ≤ m ∧ k ≤ 16384 * i ∧ Hid (k = sizeL (l.take i))) (fun _ iv => m - (intOf iv).toNat)
  case atStart => exact ⟨0, 0, rfl, rfl, Nat.zero_le _, by omega, Lib.hid (by simp [sizeL])⟩
  case round =>
    obtain ⟨i, k, rfl, rfl, hi, hk, HK⟩ := hrel
    by_cases hlt : i < m
    · have hil : i < l.length := by rw [HM.out]; exact hlt
      obtain ⟨g, off, rfl, _, _, hat⟩ := HC.out.resolve_left (fun h => by rw [h] at hil; exact Nat.not_lt_zero _ hil)
      obtain ⟨p0, p1, p2⟩ := doc_at i hat hil
      have hz := HEACH.out i hil
      have HK2 : Hid (k + l[i].t.size = sizeL (l.take (i + 1))) := Lib.hid (by rw [sizeL_take hil, ← HK.out])
      generalize l[i].t = t at p2 hz HK2
      clear hat p0 p1
      go_wp2_with fail
      go_round
      case rel => exact ⟨i + 1, k + t.size, by go_num, by go_num, by omega, by omega, HK2⟩
      case measure => simp [intOf]; omega
    · obtain rfl : i = m := by omega
      have HF : Hid (k = R) := Lib.hid (by rw [HK.out, List.take_of_length_le (by rw [HM.out]; exact Nat.le_refl _), HR.out])
      go_wp2_with fail
      go_ret
      exact ⟨by rw [HF.out]; rfl, rfl⟩
end Go.Proofs.YtccmicmlkgkheaaDoor.D

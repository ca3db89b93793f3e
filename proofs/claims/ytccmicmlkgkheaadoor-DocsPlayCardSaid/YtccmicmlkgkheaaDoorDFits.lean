/- The contract of fits: whether an act is one that the statements of layer 7 go through. -/
import Derived.Test.YtccmicmlkgkheaaDoorDArgs
namespace Go.Proofs.YtccmicmlkgkheaaDoor.D
open Go.RowKit
open Go.Lib hiding intOf
open Go.Proofs.YtccmicmlkgkheaaDoor.U Go.Proofs.YtccmicmlkgkheaaDoor.L Go.Proofs.YtccmicmlkgkheaaDoor.E

def fitsA (a : ActP) : Bool := decide (a.es.length ≤ 12 ∧ a.d.t.size + a.d.n.size + sumT a.es ≤ 300)
theorem fitsA_true {a : ActP} (h : fitsA a = true) : a.es.length ≤ 12 ∧ a.d.t.size + a.d.n.size + sumT a.es ≤ 300 := by unfold fitsA at h; simpa using h

set_option maxHeartbeats 4000000 in
set_option maxRecDepth 100000 in
theorem fits_any (a : ActP) (ev : Value) (w : World) (hf : ActFit 281474976710656 a) (hv : EdsIn w a.es ev) :
    Calls Tryd.prog 8 #[.agg #[.int .i64 a.k, .string a.d.n, .int .i64 a.d.v, .string a.d.t, ev]] w fun e w' => e = .returned (.bool (fitsA a)) ∧ Below w.heap.size w w' := by
  obtain ⟨hn, ht, hes, hl⟩ := hf
  obtain ⟨a0, c0, rfl, hE⟩ := hv
  have HE := Lib.hid hE
  have HTS := Lib.hid hes
  obtain ⟨n, hnn⟩ : ∃ n, a.es.length = n := ⟨_, rfl⟩
  have HN := Lib.hid hnn
  obtain ⟨R, hR⟩ : ∃ R, fitsA a = R := ⟨_, rfl⟩
  have HR := Lib.hid hR
  rw [hnn] at hl
  rw [hR, hnn]
  obtain ⟨k, ⟨nm, ver, t⟩, es⟩ := a
  simp only at HE HTS HN HR hn ht ⊢
  obtain ⟨W, hW⟩ : ∃ W, w.alloc (.cells #[.int .i64 k, .string nm, .int .i64 ver, .string t, .slice a0 n c0] 33) = W := ⟨_, rfl⟩
  have hbw : Below w.heap.size w W := by rw [← hW]; exact (Below.refl _ _).alloc (Nat.le_refl _) _
  have hbx : W.heap[w.heap.size]? = some (.cells #[.int .i64 k, .string nm, .int .i64 ver, .string t, .slice a0 n c0] 33 (0, 0)) := by rw [← hW]; exact heap_alloc_new _ _
  obtain ⟨q0, q1, q2, q3, q4⟩ := five_cells hbx
  have HBW := Lib.hid hbw
  clear hE hnn hR hes hbw hbx
  go_enter Tryd.func8, Tryd.ntmps8
  go_wp2_with fail
  go_loop [3, 4] (fun av iv => ∃ i x : Nat, av = .int .i64 x ∧ iv = .int .i64 i ∧ i ≤ n ∧ i ≤ 13 ∧ Hid (x = t.size + nm.size + sumT (es.take i)) ∧ x ≤ 281474976710656 * (i + 2)) (fun _ iv => 14 - (intOf iv).toNat)
  case atStart => exact ⟨0, t.size + nm.size, by go_num, rfl, Nat.zero_le _, by omega, Lib.hid (by simp [sumT]), by omega⟩
  case round =>
    obtain ⟨i, x, rfl, rfl, hi, hi13, HK, hk⟩ := hrel
    by_cases hlt : i < n
    · have d1 : decide ((i : Int) < (n : Int)) = true := by simpa using hlt
      by_cases h12 : i ≤ 12
      · have d2 : decide ((i : Int) ≤ 12) = true := by simp; omega
        have hil : i < es.length := by rw [HN.out]; exact hlt
        obtain ⟨g, off, rfl, hg, hc⟩ := HE.out.resolve_left (fun h => by rw [h] at hil; exact Nat.not_lt_zero _ hil)
        obtain ⟨_, _, _, _, p4⟩ := edit_at i hc hil
        replace p4 := (HBW.out.cell (p := ⟨g, off + i * 5 + 4, none⟩) hg).trans p4
        have hz := HTS.out es[i] (List.getElem_mem hil)
        have HK2 : Hid (x + es[i].t.size = t.size + nm.size + sumT (es.take (i + 1))) := Lib.hid (by have := HK.out; have := sumT_take hil; omega)
        clear HE HTS hc
        generalize es[i].t = u at p4 hz HK2
        go_wp2_with fail
        go_round
        case rel => exact ⟨i + 1, x + u.size, by go_num, by go_num, by omega, by omega, HK2, by omega⟩
        case measure => simp [intOf]; omega
      · have d2 : decide ((i : Int) ≤ 12) = false := by simp; omega
        have d3 : decide ((n : Int) ≤ 12) = false := by simp; omega
        have HF : Hid (R = false) := Lib.hid (by rw [← HR.out]; unfold fitsA; simp; intro h; have := HN.out; omega)
        by_cases h300 : x ≤ 300
        · have d4 : decide ((x : Int) ≤ 300) = true := by simp; omega
          go_wp2_with fail
          go_ret
          exact ⟨by rw [HF.out]; rfl, HBW.out⟩
        · have d4 : decide ((x : Int) ≤ 300) = false := by simp; omega
          go_wp2_with fail
          go_ret
          exact ⟨by rw [HF.out]; rfl, HBW.out⟩
    · obtain rfl : i = n := by omega
      have d1 : decide ((i : Int) < (i : Int)) = false := by simp
      have hk2 : x = t.size + nm.size + sumT es := by have := HK.out; rw [List.take_of_length_le (by rw [HN.out]; exact Nat.le_refl _)] at this; exact this
      have hR2 : R = decide (i ≤ 12 ∧ x ≤ 300) := by rw [← HR.out, hk2]; unfold fitsA; simp only; rw [HN.out]
      have HRR := Lib.hid hR2
      clear hk2 hR2
      by_cases h300 : x ≤ 300
      · have d4 : decide ((x : Int) ≤ 300) = true := by simp; omega
        by_cases h12 : i ≤ 12
        · have d3 : decide ((i : Int) ≤ 12) = true := by simp; omega
          have HF : Hid (R = true) := Lib.hid (by rw [HRR.out]; simp; omega)
          go_wp2_with fail
          go_ret
          exact ⟨by rw [HF.out]; rfl, HBW.out⟩
        · have d3 : decide ((i : Int) ≤ 12) = false := by simp; omega
          have HF : Hid (R = false) := Lib.hid (by rw [HRR.out]; simp; omega)
          go_wp2_with fail
          go_ret
          exact ⟨by rw [HF.out]; rfl, HBW.out⟩
      · have d4 : decide ((x : Int) ≤ 300) = false := by simp; omega
        have HF : Hid (R = false) := Lib.hid (by rw [HRR.out]; simp; omega)
        go_wp2_with fail
        go_ret
        exact ⟨by rw [HF.out]; rfl, HBW.out⟩
end Go.Proofs.YtccmicmlkgkheaaDoor.D

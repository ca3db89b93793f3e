/- The contract of fits: whether edits are such as the statements of layer 6 go through. -/
import Derived.Test.YtlmefchcljfjlaaDoorEAlive
namespace Go.Proofs.YtlmefchcljfjlaaDoor.E
open Go.RowKit
open Go.Lib hiding intOf
open Go.Proofs.YtlmefchcljfjlaaDoor.U Go.Proofs.YtlmefchcljfjlaaDoor.L

def fitsB (s : ByteArray) (l : List EdP) : Bool := decide (l.length ≤ 12 ∧ s.size + sumT l ≤ 300)
theorem sumT_bound {l : List EdP} {B : Nat} (h : ∀ e ∈ l, e.t.size ≤ B) : sumT l ≤ B * l.length := by
  induction l with
  | nil => simp [sumT]
  | cons e r ih =>
    have h1 := h e (by simp)
    have h2 := ih fun x hx => h x (by simp [hx])
    simp only [sumT, List.length_cons, Nat.mul_add, Nat.mul_one]
    omega

set_option maxHeartbeats 4000000 in
set_option maxRecDepth 100000 in
theorem fits_any (l : List EdP) (s : ByteArray) (v : Value) (w : World) (hs : s.size ≤ 281474976710656) (hl : l.length ≤ 281474976710656) (ht : ∀ e ∈ l, e.t.size ≤ 281474976710656) (hv : EdsIn w l v) :
    Calls Tryd.prog 8 #[.string s, v] w fun e w' => e = .returned (.bool (fitsB s l)) ∧ w' = w := by
  obtain ⟨a0, c0, rfl, hE⟩ := hv
  have HE := Lib.hid hE
  have HTS := Lib.hid ht
  obtain ⟨n, hn⟩ : ∃ n, l.length = n := ⟨_, rfl⟩
  have HN := Lib.hid hn
  obtain ⟨R, hR⟩ : ∃ R, fitsB s l = R := ⟨_, rfl⟩
  have HR := Lib.hid hR
  rw [hn] at hl
  rw [hR, hn]
  clear hE hn hR ht
  go_enter Tryd.func8, Tryd.ntmps8
  go_wp2_with fail
  go_loop [5, 6] (fun av iv => ∃ i k : Nat, av = .int .i64 k ∧ iv = .int .i64 i ∧ i ≤ n ∧ i ≤ 13 ∧ Hid (k = s.size + sumT (l.take i)) ∧ k ≤ 281474976710656 * (i + 1)) (fun _ iv => 14 - (intOf iv).toNat)
  case atStart => exact ⟨0, s.size, rfl, rfl, Nat.zero_le _, by omega, Lib.hid (by simp [sumT]), by omega⟩
  case round =>
    obtain ⟨i, k, rfl, rfl, hi, hi13, HK, hk⟩ := hrel
    by_cases hlt : i < n
    · have d1 : decide ((i : Int) < (n : Int)) = true := by simpa using hlt
      by_cases h12 : i ≤ 12
      · have d2 : decide ((i : Int) ≤ 12) = true := by simp; omega
        have hil : i < l.length := by rw [HN.out]; exact hlt
        obtain ⟨g, off, rfl, hg, hc⟩ := HE.out.resolve_left (fun h => by rw [h] at hil; exact Nat.not_lt_zero _ hil)
        obtain ⟨p0, p1, p2, p3, p4⟩ := edit_at i hc hil
        have hz := HTS.out l[i] (List.getElem_mem hil)
        have HK2 : Hid (k + l[i].t.size = s.size + sumT (l.take (i + 1))) := Lib.hid (by have := HK.out; have := sumT_take hil; omega)
        clear HE HTS hc p0 p1 p2 p3
        generalize l[i].t = t at p4 hz HK2
        go_wp2_with fail
        go_round
        case rel => exact ⟨i + 1, k + t.size, by go_num, by go_num, by omega, by omega, HK2, by omega⟩
        case measure => simp [intOf]; omega
      · have d2 : decide ((i : Int) ≤ 12) = false := by simp; omega
        have hn12 : ¬ (n : Int) ≤ 12 := by omega
        have d3 : decide ((n : Int) ≤ 12) = false := by simp; omega
        have HF : Hid (R = false) := Lib.hid (by rw [← HR.out]; unfold fitsB; simp; intro h; have := HN.out; omega)
        go_wp2_with fail
        go_ret
        exact ⟨by rw [HF.out]; rfl, rfl⟩
    · obtain rfl : i = n := by omega
      have d1 : decide ((i : Int) < (i : Int)) = false := by simp
      have hk2 : k = s.size + sumT l := by have := HK.out; rw [List.take_of_length_le (by rw [HN.out]; exact Nat.le_refl _)] at this; exact this
      by_cases h12 : i ≤ 12
      · have d3 : decide ((i : Int) ≤ 12) = true := by simp; omega
        by_cases h300 : k ≤ 300
        · have d4 : decide ((k : Int) ≤ 300) = true := by simp; omega
          have HF : Hid (R = true) := Lib.hid (by rw [← HR.out]; unfold fitsB; simp; have := HN.out; omega)
          clear hk2
          go_wp2_with fail
          go_ret
          exact ⟨by rw [HF.out]; rfl, rfl⟩
        · have d4 : decide ((k : Int) ≤ 300) = false := by simp; omega
          have HF : Hid (R = false) := Lib.hid (by rw [← HR.out]; unfold fitsB; simp; intro h; have := HN.out; omega)
          clear hk2
          go_wp2_with fail
          go_ret
          exact ⟨by rw [HF.out]; rfl, rfl⟩
      · have d3 : decide ((i : Int) ≤ 12) = false := by simp; omega
        have HF : Hid (R = false) := Lib.hid (by rw [← HR.out]; unfold fitsB; simp; intro h; have := HN.out; omega)
        clear hk2
        go_wp2_with fail
        go_ret
        exact ⟨by rw [HF.out]; rfl, rfl⟩
end Go.Proofs.YtlmefchcljfjlaaDoor.E

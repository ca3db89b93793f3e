/- The contracts of the document's answer for frames: the figures that come, and what bytes begin with. -/
import Derived.Test.YtojdginbaaoidaaDoorFRef
namespace Go.Proofs.YtojdginbaaoidaaDoor.F
open Go.RowKit
open Go.Lib

theorem dig_int {c : UInt8} (h : digB c = true) : decide (48 ≤ (c.toNat : Int)) = true ∧ decide ((c.toNat : Int) ≤ 57) = true := by
  obtain ⟨d, hd, rfl, h2⟩ := dig_range h
  have h3 := (digB_of hd)
  have : (UInt8.ofNat (48 + d)).toNat = 48 + d := by
    have hh : ∀ d : Fin 10, (UInt8.ofNat (48 + d.val)).toNat = 48 + d.val := by decide +kernel
    exact hh ⟨d, hd⟩
  rw [this]
  simp
  omega

set_option maxHeartbeats 4000000 in
theorem num_any (s : ByteArray) (w : World) (hs : s.size ≤ 1099511627776) :
    Calls Tryd.prog 30 #[.string s] w fun e w' => e = .returned (.tuple #[.int .i64 (numberR s.data.toList).1, .int .i64 (numberR s.data.toList).2]) ∧ w' = w := by
  obtain ⟨F, hF⟩ : ∃ F, numberR s.data.toList = F := ⟨_, rfl⟩
  obtain ⟨z, hz⟩ : ∃ z, zeroB s.data.toList = z := ⟨_, rfl⟩
  have HF := Lib.hid (show numR z (s.data.toList.drop 0) 0 0 = F by rw [← hz]; exact hF)
  rw [hF]
  have HZ : Hid (∀ (h : 0 < s.size), ((s[0].toNat : Int) == 48) = z) := Lib.hid (fun h => by
    have h' : 0 < s.data.toList.length := by simpa using h
    have e : s.data.toList = s[0] :: s.data.toList.drop 1 := by
      have := drop_at h
      rw [List.drop_zero] at this
      exact this
    unfold zeroB at hz
    rw [e] at hz
    simp only [List.head?_cons] at hz
    rw [← hz]
    by_cases h0 : s[0] = 48
    · rw [h0]; rfl
    · have : s[0].toNat ≠ 48 := fun h => h0 (UInt8.toNat_inj.1 h)
      have h1 : ((s[0].toNat : Int) == 48) = false := by simp; omega
      rw [h1]
      simp [h0])
  clear hF hz
  go_enter Tryd.func30, Tryd.ntmps30
  generalize hlim : (65536 : Int) = lim
  have HLIM := Lib.hid hlim
  clear hlim
  go_wp2_with fail
  go_loopw [4, 5] (fun nv kv wr => ∃ n k : Nat, nv = .int .i64 n ∧ kv = .int .i64 k ∧ k ≤ s.size ∧ n ≤ 65536 ∧ k ≤ 5 ∧ Hid (numR z (s.data.toList.drop k) n k = F) ∧ wr = w) (fun _ kv _ => s.size - (Go.RowKit.intOf kv).toNat)
  case atStart => exact ⟨0, 0, rfl, rfl, by omega, by omega, by omega, HF, rfl⟩
  case round =>
    obtain ⟨n, k, rfl, rfl, hk, hn, hk5, HI, rfl⟩ := hrel
    by_cases hlt : k < s.size
    · have hI := HI.out
      rw [drop_at hlt, numR] at hI
      by_cases hd : digB s[k] = true
      · rw [if_pos hd] at hI
        obtain ⟨t1, t2⟩ := dig_int hd
        have h48 : 48 ≤ (s[k].toNat : Int) := by simpa using t1
        have h57 : (s[k].toNat : Int) ≤ 57 := by simpa using t2
        obtain ⟨dg, hdg⟩ : ∃ dg : Nat, (s[k].toNat : Int) - 48 = dg := ⟨s[k].toNat - 48, by omega⟩
        have hdg2 : s[k].toNat - 48 = dg := by omega
        have hdg3 : dg ≤ 9 := by omega
        rw [hdg2] at hI
        have hz0 := HZ.out (by omega)
        by_cases hst : 5 < k + 1 ∨ 65536 < 10 * n + dg ∨ (1 < k + 1 ∧ z = true)
        · rw [if_pos hst] at hI
          subst hI
          have hcond : decide (((k : Int) + 1) > 5) = true ∨ (decide (((k : Int) + 1) > 5) = false ∧ decide ((10 * (n : Int) + dg) > lim) = true) ∨ (decide (((k : Int) + 1) > 5) = false ∧ decide ((10 * (n : Int) + dg) > lim) = false ∧ decide (((k : Int) + 1) > 1) = true ∧ z = true) := by
            have hl := HLIM.out
            by_cases h1 : 5 < k + 1
            · left; simp; omega
            · have h1' : decide (((k : Int) + 1) > 5) = false := by simp; omega
              by_cases h2 : 65536 < 10 * n + dg
              · exact .inr (.inl ⟨h1', by simp; omega⟩)
              · rcases hst with h | h | h
                · exact absurd h h1
                · exact absurd h h2
                · exact .inr (.inr ⟨h1', by simp; omega, by simp; omega, h.2⟩)
          clear hst hd hdg2
          rcases hcond with h1 | ⟨h1, h2⟩ | ⟨h1, h2, h3, rfl⟩
          · go_wp2_with fail
            go_ret2
            exact ⟨rfl, rfl⟩
          · go_wp2_with fail
            go_ret2
            exact ⟨rfl, rfl⟩
          · go_wp2_with fail
            go_ret2
            exact ⟨rfl, rfl⟩
        · rw [if_neg hst] at hI
          have hl := HLIM.out
          have h1 : decide (((k : Int) + 1) > 5) = false := by simp; omega
          have h2 : decide ((10 * (n : Int) + dg) > lim) = false := by simp; omega
          have HI2 := Lib.hid hI
          have b1 : 10 * n + dg ≤ 65536 := by omega
          have b2 : k + 1 ≤ 5 := by omega
          by_cases hk0 : k = 0
          · subst hk0
            have h3 : decide ((((0 : Nat) : Int) + 1) > 1) = false := by simp
            clear hst hd hdg2 hI hl HI
            go_wp2_with fail
            go_roundw
            case rel => exact ⟨10 * n + dg, 1, by go_num, by go_num, by omega, b1, b2, HI2, by first | rfl | trivial⟩
            case measure => simp [Go.RowKit.intOf]; omega
          · have hzf : z = false := by
              cases z with
              | false => rfl
              | true => exact absurd (.inr (.inr ⟨by omega, rfl⟩)) hst
            rw [hzf] at hz0
            have h3 : decide (((k : Int) + 1) > 1) = true := by simp; omega
            clear hst hd hdg2 hI hl HI
            go_wp2_with fail
            go_roundw
            case rel => exact ⟨10 * n + dg, k + 1, by go_num, by go_num, by omega, b1, b2, HI2, by first | rfl | trivial⟩
            case measure => simp [Go.RowKit.intOf]; omega
      · rw [if_neg hd] at hI
        subst hI
        have hd' : digB s[k] = false := by simpa using hd
        have hdi := digB_int s[k]
        rw [hd'] at hdi
        clear hd hd'
        by_cases k1 : (s[k].toNat : Int) < 48
        · have t1 : decide (48 ≤ (s[k].toNat : Int)) = false := by simp; omega
          clear hdi
          go_wp2_with fail
          go_ret2
          exact ⟨rfl, rfl⟩
        · have k2 : (s[k].toNat : Int) > 57 := by
            have : decide ((s[k].toNat : Int) < 48) = false := by simpa using k1
            rw [this] at hdi
            simpa using hdi.symm
          have t1 : decide (48 ≤ (s[k].toNat : Int)) = true := by simp; omega
          have t2 : decide ((s[k].toNat : Int) ≤ 57) = false := by simp; omega
          clear hdi
          go_wp2_with fail
          go_ret2
          exact ⟨rfl, rfl⟩
    · have hI := HI.out
      rw [List.drop_eq_nil_of_le (by simp; omega)] at hI
      have hI2 : ((n : Int), k) = F := hI
      subst hI2
      clear hI
      go_wp2_with fail
      go_ret2
      exact ⟨rfl, rfl⟩
end Go.Proofs.YtojdginbaaoidaaDoor.F

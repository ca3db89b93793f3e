/- The contracts of common's closures (a byte from the beginning, from the end; how many are one) and of common. -/
import Derived.Test.YtlmefchcljfjlaaDoorECPlain
import Derived.Test.YtlmefchcljfjlaaDoorLNil
import Derived.Deep.QuietTactic
import Derived.BigQuiet
namespace Go.Proofs.YtlmefchcljfjlaaDoor.E
open Go.RowKit
open Go.Lib hiding intOf
open Go.Proofs.YtlmefchcljfjlaaDoor.U Go.Proofs.YtlmefchcljfjlaaDoor.L

theorem fwd_any (s : ByteArray) (n : Nat) (w : World) (hs : s.size ≤ 1099511627776) (hn : n < s.size) :
    Calls Tryd.prog 31 #[.string s, .int .i64 n] w fun e w' => e = .returned (.int .u8 (fAt s n)) ∧ w' = w := by
  have hx : (s[n]).toNat = fAt s n := by unfold fAt; rw [Utf8W.get!_of_lt s n hn]
  generalize fAt s n = y at hx ⊢
  go_enter Tryd.func31, Tryd.ntmps31
  go_wp2_with fail
  go_ret
  exact ⟨rfl, rfl⟩
theorem bwd_any (s : ByteArray) (n : Nat) (w : World) (hs : s.size ≤ 1099511627776) (hn : n < s.size) :
    Calls Tryd.prog 32 #[.string s, .int .i64 n] w fun e w' => e = .returned (.int .u8 (bAt s n)) ∧ w' = w := by
  obtain ⟨m, hm⟩ : ∃ m : Nat, s.size - 1 - n = m := ⟨_, rfl⟩
  have hms : m < s.size := by omega
  have hx : (s[m]).toNat = bAt s n := by unfold bAt; rw [hm, Utf8W.get!_of_lt s m hms]
  have hsub : ((s.size : Int) - 1 - n) = (m : Int) := by omega
  generalize bAt s n = y at hx ⊢
  clear hm
  go_enter Tryd.func32, Tryd.ntmps32
  go_wp2_with fail
  go_ret
  exact ⟨rfl, rfl⟩
theorem byte_lt (s : ByteArray) (n : Nat) : fAt s n < 256 ∧ bAt s n < 256 := ⟨UInt8.toNat_lt _, UInt8.toNat_lt _⟩

set_option maxHeartbeats 4000000 in
set_option maxRecDepth 100000 in
theorem count_f (A B m : Nat) (a b : ByteArray) (w : World) (hA : w.cell? ⟨A, 0, none⟩ = some (.string a)) (hB : w.cell? ⟨B, 0, none⟩ = some (.string b)) (ha : a.size ≤ 1099511627776) (hb : b.size ≤ 1099511627776) (hma : m ≤ a.size) (hmb : m ≤ b.size) :
    Calls Tryd.prog 30 #[.int .i64 m, .func (.func 31) #[] #[], .pointer (some ⟨A, 0, none⟩), .pointer (some ⟨B, 0, none⟩)] w fun e w' => e = .returned (.int .i64 (fwdN a b m : Nat)) ∧ ∃ k, w' = w.drewN k := by
  obtain ⟨R, hR⟩ : ∃ R, fwdN a b m = R := ⟨_, rfl⟩
  rw [hR]
  have HR : Hid (cntTo (fAt a) (fAt b) (m - 0) 0 = R) := Lib.hid hR
  clear hR
  go_enter Tryd.func30, Tryd.ntmps30
  go_wp2_with fail
  go_loopw [7] (fun iv wr => ∃ i : Nat, iv = .int .i64 i ∧ i ≤ m ∧ Hid (cntTo (fAt a) (fAt b) (m - i) i = R) ∧ Hid (∃ k, wr = w.drewN k)) (fun iv _ => m - (intOf iv).toNat)
  case atStart => exact ⟨0, rfl, by omega, HR, Lib.hid ⟨0, rfl⟩⟩
  case round =>
    obtain ⟨i, rfl, hi, HI, HK⟩ := hrel
    have qA : wr.cell? ⟨A, 0, none⟩ = some (.string a) := by obtain ⟨k, e⟩ := HK.out; rw [e]; exact hA
    have qB : wr.cell? ⟨B, 0, none⟩ = some (.string b) := by obtain ⟨k, e⟩ := HK.out; rw [e]; exact hB
    have fin : ∀ j, ∃ k, wr.drewN j = w.drewN k := fun j => by obtain ⟨k, e⟩ := HK.out; exact ⟨k + j, by rw [e]; exact World.drewN_drewN ..⟩
    have FIN := Lib.hid fin
    clear HR hA hB fin HK
    by_cases hlt : i < m
    · have c1 := fun W => fwd_any a i W ha (by omega)
      have c2 := fun W => fwd_any b i W hb (by omega)
      have hd : decide ((i : Int) < (m : Int)) = true := by simpa using hlt
      have eg : ∀ args w, (callFunc 31 args).run Tryd.prog w = .ok (.enter 31 args) w := enters_of Tryd.func31 (by kernel_rfl) rfl
      by_cases hxy : fAt a i = fAt b i
      · have HO := Lib.hid ((cntTo_on hlt hxy).symm.trans HI.out)
        rw [hxy] at c1
        generalize fAt b i = y at c1 c2
        clear hxy
        go_wp2_with fail
        go_quiet ((first | (go_at_call 31; with_reducible exact Calls.quiet_of_same (c1 _)) | (go_at_call 31; with_reducible exact Calls.quiet_of_same (c2 _))))
        go_wp2_with fail
        go_roundw
        case rel => exact ⟨i + 1, by go_num, by omega, HO, Lib.hid (FIN.out _)⟩
        case measure => simp [intOf]; omega
      · have HO := Lib.hid ((cntTo_stop hlt hxy).symm.trans HI.out)
        have hz : ((fAt a i : Int) == (fAt b i : Int)) = false := by simpa using (fun h => hxy (by omega))
        generalize fAt a i = x at c1 hz
        generalize fAt b i = y at c2 hz
        clear hxy
        go_wp2_with fail
        go_quiet ((first | (go_at_call 31; with_reducible exact Calls.quiet_of_same (c1 _)) | (go_at_call 31; with_reducible exact Calls.quiet_of_same (c2 _))))
        go_wp2_with fail
        go_ret
        exact ⟨by have := HO.out; subst this; rfl, FIN.out _⟩
    · obtain rfl : i = m := by omega
      have HO := Lib.hid ((cntTo_done (Nat.le_refl i)).symm.trans HI.out)
      have hd : decide ((i : Int) < (i : Int)) = false := by simp
      go_wp2_with fail
      go_quiet (fail)
      go_wp2_with fail
      go_ret
      exact ⟨by have := HO.out; subst this; rfl, FIN.out _⟩

set_option maxHeartbeats 4000000 in
set_option maxRecDepth 100000 in
theorem count_b (A B m : Nat) (a b : ByteArray) (w : World) (hA : w.cell? ⟨A, 0, none⟩ = some (.string a)) (hB : w.cell? ⟨B, 0, none⟩ = some (.string b)) (ha : a.size ≤ 1099511627776) (hb : b.size ≤ 1099511627776) (hma : m ≤ a.size) (hmb : m ≤ b.size) :
    Calls Tryd.prog 30 #[.int .i64 m, .func (.func 32) #[] #[], .pointer (some ⟨A, 0, none⟩), .pointer (some ⟨B, 0, none⟩)] w fun e w' => e = .returned (.int .i64 (bwdN a b m : Nat)) ∧ ∃ k, w' = w.drewN k := by
  obtain ⟨R, hR⟩ : ∃ R, bwdN a b m = R := ⟨_, rfl⟩
  rw [hR]
  have HR : Hid (cntTo (bAt a) (bAt b) (m - 0) 0 = R) := Lib.hid hR
  clear hR
  go_enter Tryd.func30, Tryd.ntmps30
  go_wp2_with fail
  go_loopw [7] (fun iv wr => ∃ i : Nat, iv = .int .i64 i ∧ i ≤ m ∧ Hid (cntTo (bAt a) (bAt b) (m - i) i = R) ∧ Hid (∃ k, wr = w.drewN k)) (fun iv _ => m - (intOf iv).toNat)
  case atStart => exact ⟨0, rfl, by omega, HR, Lib.hid ⟨0, rfl⟩⟩
  case round =>
    obtain ⟨i, rfl, hi, HI, HK⟩ := hrel
    have qA : wr.cell? ⟨A, 0, none⟩ = some (.string a) := by obtain ⟨k, e⟩ := HK.out; rw [e]; exact hA
    have qB : wr.cell? ⟨B, 0, none⟩ = some (.string b) := by obtain ⟨k, e⟩ := HK.out; rw [e]; exact hB
    have fin : ∀ j, ∃ k, wr.drewN j = w.drewN k := fun j => by obtain ⟨k, e⟩ := HK.out; exact ⟨k + j, by rw [e]; exact World.drewN_drewN ..⟩
    have FIN := Lib.hid fin
    clear HR hA hB fin HK
    by_cases hlt : i < m
    · have c1 := fun W => bwd_any a i W ha (by omega)
      have c2 := fun W => bwd_any b i W hb (by omega)
      have hd : decide ((i : Int) < (m : Int)) = true := by simpa using hlt
      have eg : ∀ args w, (callFunc 32 args).run Tryd.prog w = .ok (.enter 32 args) w := enters_of Tryd.func32 (by kernel_rfl) rfl
      by_cases hxy : bAt a i = bAt b i
      · have HO := Lib.hid ((cntTo_on hlt hxy).symm.trans HI.out)
        rw [hxy] at c1
        generalize bAt b i = y at c1 c2
        clear hxy
        go_wp2_with fail
        go_quiet ((first | (go_at_call 32; with_reducible exact Calls.quiet_of_same (c1 _)) | (go_at_call 32; with_reducible exact Calls.quiet_of_same (c2 _))))
        go_wp2_with fail
        go_roundw
        case rel => exact ⟨i + 1, by go_num, by omega, HO, Lib.hid (FIN.out _)⟩
        case measure => simp [intOf]; omega
      · have HO := Lib.hid ((cntTo_stop hlt hxy).symm.trans HI.out)
        have hz : ((bAt a i : Int) == (bAt b i : Int)) = false := by simpa using (fun h => hxy (by omega))
        generalize bAt a i = x at c1 hz
        generalize bAt b i = y at c2 hz
        clear hxy
        go_wp2_with fail
        go_quiet ((first | (go_at_call 32; with_reducible exact Calls.quiet_of_same (c1 _)) | (go_at_call 32; with_reducible exact Calls.quiet_of_same (c2 _))))
        go_wp2_with fail
        go_ret
        exact ⟨by have := HO.out; subst this; rfl, FIN.out _⟩
    · obtain rfl : i = m := by omega
      have HO := Lib.hid ((cntTo_done (Nat.le_refl i)).symm.trans HI.out)
      have hd : decide ((i : Int) < (i : Int)) = false := by simp
      go_wp2_with fail
      go_quiet (fail)
      go_wp2_with fail
      go_ret
      exact ⟨by have := HO.out; subst this; rfl, FIN.out _⟩
end Go.Proofs.YtlmefchcljfjlaaDoor.E

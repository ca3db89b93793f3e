/- The contracts of the document's answer for frames: its figures, heads, frames, and what bytes begin with. -/
import Derived.Test.YtojdginbaaoidaaDoorFCutWalk
namespace Go.Proofs.YtojdginbaaoidaaDoor.F
open Go.RowKit
open Go.Lib

def strLen : Value → Nat | .string s => s.size | _ => 0
theorem ten_cut (d : Nat) (hd : d < 10) : ∀ W, (Instr.slice 9 (.string ⟨#[48, 49, 50, 51, 52, 53, 54, 55, 56, 57]⟩) (some (.int .i64 d)) (some (.int .i64 ((d : Int) + 1))) none).run Tryd.prog W = .ok (.string ⟨#[UInt8.ofNat (48 + d)]⟩) W := fun W => by
  have hs : (⟨#[48, 49, 50, 51, 52, 53, 54, 55, 56, 57]⟩ : ByteArray).size = 10 := rfl
  have hc : ∀ k : Fin 10, (⟨#[48, 49, 50, 51, 52, 53, 54, 55, 56, 57]⟩ : ByteArray).extract k.val (k.val + 1) = ⟨#[UInt8.ofNat (48 + k.val)]⟩ := by decide +kernel
  rw [run_slice_string W _ _ _ _ _ _ Tryd.underlying9 (by omega) (by omega) (by rw [hs]; omega)]
  have e1 : ((d : Int)).toNat = d := by omega
  have e2 : ((d : Int) + 1).toNat = d + 1 := by omega
  rw [e1, e2, hc ⟨d, hd⟩]

theorem meas_dig (q m : Nat) (cc : UInt8) (acc : List UInt8) (h : 0 < m → q < m) (hq : q ≤ m) (h0 : acc = [] ∨ 0 < m) :
    (Go.RowKit.intOf (.int .i64 (q : Int))).toNat + (if strLen (.string ((⟨#[cc]⟩ : ByteArray) ++ ⟨acc.toArray⟩)) = 0 then 1 else 0) < (Go.RowKit.intOf (.int .i64 (m : Int))).toNat + (if strLen (.string ⟨acc.toArray⟩) = 0 then 1 else 0) := by
  have h1 : strLen (.string ((⟨#[cc]⟩ : ByteArray) ++ ⟨acc.toArray⟩)) = 1 + acc.length := by
    show ((⟨#[cc]⟩ : ByteArray) ++ ⟨acc.toArray⟩).size = _
    rw [ByteArray.size_append]; rfl
  have h2 : strLen (.string ⟨acc.toArray⟩) = acc.length := rfl
  rw [h1, h2, if_neg (by omega)]
  simp only [Go.RowKit.intOf, Int.toNat_natCast]
  rcases h0 with rfl | h0
  · simp; omega
  · have := h h0
    split <;> omega

set_option maxRecDepth 20000 in
set_option maxHeartbeats 2000000 in
theorem digits_any (n : Nat) (w : World) (hn : n ≤ 1099511627776) :
    Calls Tryd.prog 27 #[.int .i64 n] w fun e w' => e = .returned (.string ⟨(decDigits n).toArray⟩) ∧ w' = w := by
  obtain ⟨T, hT⟩ : ∃ T, decDigits n = T := ⟨_, rfl⟩
  have hTl : T.length ≤ 20 := by
    rw [← hT, decDigits_length]
    have : ∀ u, u < 18446744073709551616 → nDigits u ≤ 20 := fun u hu => by
      by_cases h0 : u = 0
      · subst h0; rw [nDigits_small (by omega)]; omega
      · have := numDigits_eq u (by omega) hu
        split at this <;> omega
    exact this n (by omega)
  have HTL := Lib.hid hTl
  have HT0 := Lib.hid (show decDigits n ++ [] = T by rw [List.append_nil]; exact hT)
  rw [hT]
  have HTN := Lib.hid (show T ≠ [] by rw [← hT]; exact decDigits_ne n)
  clear hT hTl
  go_enter Tryd.func27, Tryd.ntmps27
  have HTEN := Lib.hid ten_cut
  generalize (⟨#[48, 49, 50, 51, 52, 53, 54, 55, 56, 57]⟩ : ByteArray) = S10 at HTEN ⊢
  go_wp2_with fail
  go_loopw [0, 3] (fun nv sv wr => ∃ (m : Nat) (acc : List UInt8), nv = .int .i64 m ∧ sv = .string ⟨acc.toArray⟩ ∧ m ≤ 1099511627776 ∧ acc.length ≤ 20 ∧ Hid ((acc ≠ [] ∧ m = 0 ∧ acc = T) ∨ (decDigits m ++ acc = T ∧ (acc = [] ∨ 0 < m))) ∧ wr = w)
    (fun nv sv _ => (Go.RowKit.intOf nv).toNat + (if strLen sv = 0 then 1 else 0))
  case atStart => exact ⟨n, [], rfl, rfl, by omega, by simp, Lib.hid (.inr ⟨HT0.out, .inl rfl⟩), rfl⟩
  case round =>
    obtain ⟨m, acc, rfl, rfl, hm, hal, HI, rfl⟩ := hrel
    have hsz : (⟨acc.toArray⟩ : ByteArray).size = acc.length := rfl
    have hem : (⟨#[]⟩ : ByteArray) = ⟨([] : List UInt8).toArray⟩ := rfl
    by_cases ha : acc = []
    · subst ha
      obtain ⟨dg, hdg⟩ : ∃ k, m % 10 = k := ⟨_, rfl⟩
      obtain ⟨qq, hqq⟩ : ∃ k, m / 10 = k := ⟨_, rfl⟩
      have em : ((m : Int) % 10) = (dg : Int) := by omega
      have ed : ((m : Int) / 10) = (qq : Int) := by omega
      have hd : dg < 10 := by omega
      have hq0 : qq ≤ m := by omega
      have hq1 : 0 < m → qq < m := by omega
      have hten := HTEN.out dg hd
      have hI : decDigits m ++ ([] : List UInt8) = T := HI.out.elim (fun h => absurd rfl h.1) (fun h => h.1)
      have HI2 : Hid ((UInt8.ofNat (48 + dg) :: ([] : List UInt8) ≠ [] ∧ qq = 0 ∧ UInt8.ofNat (48 + dg) :: ([] : List UInt8) = T) ∨ (decDigits qq ++ UInt8.ofNat (48 + dg) :: ([] : List UInt8) = T ∧ (UInt8.ofNat (48 + dg) :: ([] : List UInt8) = [] ∨ 0 < qq))) := Lib.hid (by
        by_cases h10 : m < 10
        · left
          refine ⟨by simp, by omega, ?_⟩
          rw [decDigits_one h10] at hI
          rw [← hI, show dg = m by omega]
          rfl
        · right
          refine ⟨?_, .inr (by omega)⟩
          rw [decDigits, dif_neg h10, hdg, hqq] at hI
          rw [← hI]
          simp)
      have HAB := Lib.hid (app_bytes [UInt8.ofNat (48 + dg)] ([] : List UInt8))
      generalize UInt8.ofNat (48 + dg) = cc at HI2 HAB hten
      have hc1 : (⟨#[cc]⟩ : ByteArray).size = 1 := rfl
      have hlb : (cc :: ([] : List UInt8)).length ≤ 20 := by
        have h1 := HTL.out
        rcases HI2.out with h | h
        · rw [h.2.2]; exact h1
        · have := congrArg List.length h.1
          rw [List.length_append] at this
          omega
      clear hI hdg hqq
      go_wp2_with fail
      go_roundw
      case rel => exact ⟨qq, cc :: ([] : List UInt8), by go_num, congrArg Value.string HAB.out, by omega, hlb, HI2, by first | rfl | trivial⟩
      case measure => exact meas_dig qq m cc [] hq1 hq0 (.inl rfl)
    · have hne : (acc == []) = false := beq_eq_false_iff_ne.2 ha
      by_cases hm0 : 0 < m
      · obtain ⟨dg, hdg⟩ : ∃ k, m % 10 = k := ⟨_, rfl⟩
        obtain ⟨qq, hqq⟩ : ∃ k, m / 10 = k := ⟨_, rfl⟩
        have em : ((m : Int) % 10) = (dg : Int) := by omega
        have ed : ((m : Int) / 10) = (qq : Int) := by omega
        have hd : dg < 10 := by omega
        have hq0 : qq ≤ m := by omega
        have hq1 : 0 < m → qq < m := by omega
        have hten := HTEN.out dg hd
        have hI : decDigits m ++ acc = T := HI.out.elim (fun h => absurd h.2.1 (by omega)) (fun h => h.1)
        have HI2 : Hid ((UInt8.ofNat (48 + dg) :: acc ≠ [] ∧ qq = 0 ∧ UInt8.ofNat (48 + dg) :: acc = T) ∨ (decDigits qq ++ UInt8.ofNat (48 + dg) :: acc = T ∧ (UInt8.ofNat (48 + dg) :: acc = [] ∨ 0 < qq))) := Lib.hid (by
          by_cases h10 : m < 10
          · left
            refine ⟨by simp, by omega, ?_⟩
            rw [decDigits_one h10] at hI
            rw [← hI, show dg = m by omega]
            rfl
          · right
            refine ⟨?_, .inr (by omega)⟩
            rw [decDigits, dif_neg h10, hdg, hqq] at hI
            rw [← hI]
            simp)
        have HAB := Lib.hid (app_bytes [UInt8.ofNat (48 + dg)] acc)
        generalize UInt8.ofNat (48 + dg) = cc at HI2 HAB hten
        have hc1 : (⟨#[cc]⟩ : ByteArray).size = 1 := rfl
        have hlb : (cc :: acc).length ≤ 20 := by
          have h1 := HTL.out
          rcases HI2.out with h | h
          · rw [h.2.2]; exact h1
          · have := congrArg List.length h.1
            rw [List.length_append] at this
            omega
        clear hI hdg hqq
        go_wp2_with fail
        go_roundw
        case rel => exact ⟨qq, cc :: acc, by go_num, congrArg Value.string HAB.out, by omega, hlb, HI2, by first | rfl | trivial⟩
        case measure => exact meas_dig qq m cc acc hq1 hq0 (.inr hm0)
      · have hT : acc = T := HI.out.elim (fun h => h.2.2) (fun h => absurd h.2 (fun h2 => h2.elim ha hm0))
        obtain rfl : m = 0 := by omega
        subst hT
        go_wp2_with fail
        go_ret
        exact ⟨rfl, rfl⟩

set_option maxHeartbeats 1000000 in
theorem head_any (n : Nat) (w : World) (hn : n ≤ 65536) :
    Calls Tryd.prog 21 #[.int .i64 n] w fun e w' => e = .returned (.string ⟨(headL n).toArray⟩) ∧ w' = w := by
  have cI := digits_any n w (by omega)
  have hlen := dec_long hn
  have hb1 := head_bytes n
  clear hn
  generalize headL n = H at hb1 ⊢
  generalize decDigits n = D at cI hb1 hlen
  have hD : (⟨D.toArray⟩ : ByteArray).size ≤ 5 := hlen
  go_enter Tryd.func21, Tryd.ntmps21
  go_wp2_with fail
  refine cI.mono ?_
  rintro e w1 ⟨rfl, rfl⟩
  clear cI
  go_wp2_with fail
  go_ret
  exact ⟨by rw [← hb1]; rfl, rfl⟩

set_option maxHeartbeats 2000000 in
theorem refEncode_any (a : Option Addr) (cap : Nat) (l : List (List UInt8)) (w : World) (hl : TextsAt w a l) (hlen : (encL l).length ≤ 140737488355328) (hn : l.length ≤ 1099511627776) :
    Calls Tryd.prog 11 #[.slice a l.length cap] w (Encodes l w) := by
  obtain ⟨T, hT⟩ : ∃ T, encL l = T := ⟨_, rfl⟩
  obtain ⟨K, hK⟩ : ∃ K, okL l = K := ⟨_, rfl⟩
  unfold Encodes
  rw [hT, hK]
  have HT := Lib.hid (show [] ++ encL (l.drop 0) = T from hT)
  have HK := Lib.hid (show okL (l.drop 0) = K from hK)
  rw [hT] at hlen
  have HL := Lib.hid hl
  clear hT hK hl
  go_enter Tryd.func11, Tryd.ntmps11
  generalize hlim : (65536 : Int) = lim
  have HLIM := Lib.hid hlim
  clear hlim
  go_wp2_with fail
  go_loopw [4, 5] (fun sv iv wr => ∃ (i : Nat) (pre : List UInt8), iv = .int .i64 i ∧ sv = .string ⟨pre.toArray⟩ ∧ i ≤ l.length ∧ Hid (pre ++ encL (l.drop i) = T) ∧ Hid (okL (l.drop i) = K) ∧ ∃ k, wr = w.drewN k) (fun _ iv _ => l.length - (Go.RowKit.intOf iv).toNat)
  case atStart => exact ⟨0, [], rfl, rfl, by omega, HT, HK, 0, rfl⟩
  case round =>
    obtain ⟨i, pre, rfl, rfl, hi, HI, HKI, k, hwr⟩ := hrel
    have HWR := Lib.hid hwr
    by_cases hlt : i < l.length
    · obtain ⟨g, off, rfl, hc⟩ := HL.out.resolve_left (fun h => by rw [h] at hlt; exact Nat.not_lt_zero _ hlt)
      have hci : wr.cell? ⟨g, off + i, none⟩ = some (.string ⟨(l[i]).toArray⟩) := by rw [hwr]; exact hc i hlt
      clear hwr
      have hI := HI.out
      have hKI := HKI.out
      rw [encL_at hlt] at hI
      rw [okL_at hlt] at hKI
      have hpl : pre.length + ((headL (l[i]).length).length + ((l[i]).length + (encL (l.drop (i + 1))).length)) = T.length := by rw [← hI]; simp only [List.length_append]
      have hsz : (⟨(l[i]).toArray⟩ : ByteArray).size = (l[i]).length := rfl
      have hsp : (⟨pre.toArray⟩ : ByteArray).size = pre.length := rfl
      have HI2 := Lib.hid (show (pre ++ headL (l[i]).length) ++ l[i] ++ encL (l.drop (i + 1)) = T by rw [← hI]; simp)
      generalize l[i] = x at hci hI hKI hpl hsz HI2
      clear hc hI HI
      by_cases hx : x.length ≤ 65536
      · have hx2 : decide ((x.length : Int) > lim) = false := by rw [← HLIM.out]; simp; omega
        have cH := fun W => head_any x.length W hx
        have hKI2 : okL (l.drop (i + 1)) = K := by rw [← hKI]; simp [hx]
        have HKI2 := Lib.hid hKI2
        clear hx hKI hKI2
        generalize headL x.length = H at cH hpl HI2
        generalize (encL (l.drop (i + 1))).length = rl at hpl
        have hsH : (⟨H.toArray⟩ : ByteArray).size = H.length := rfl
        have HPL := Lib.hid hpl
        have hp1 : pre.length + H.length + x.length ≤ 140737488355328 := by omega
        have HAB1 := Lib.hid (app_bytes pre H)
        have HAB2 := Lib.hid (app_bytes (pre ++ H) x)
        clear hpl
        go_wp2_with fail
        go_quiet ((go_at_call 21; exact Calls.quiet_of_same (cH _)))
        go_wp2_with fail
        go_roundw
        case rel => exact ⟨i + 1, (pre ++ H) ++ x, by go_num, by rw [← HAB2.out, ← HAB1.out], by omega, HI2, HKI2, k + nq, by rw [HWR.out]; simp⟩
        case measure => simp [Go.RowKit.intOf]; omega
      · have hx2 : decide ((x.length : Int) > lim) = true := by rw [← HLIM.out]; simp; omega
        have hK0 : K = false := by rw [← hKI]; simp [hx]
        subst hK0
        clear hx hKI hpl
        go_wp2_with fail
        go_ret2
        exact ⟨rfl, by rw [HWR.out]; exact below_drewN (Below.refl _ _) _⟩
    · have hd : l.drop i = [] := List.drop_eq_nil_of_le (by omega)
      have hI := HI.out
      have hKI := HKI.out
      rw [hd] at hI hKI
      obtain rfl : true = K := hKI
      have hT : pre = T := by rw [← hI]; simp [encL]
      subst hT
      clear hd HI hwr
      go_wp2_with fail
      go_ret2
      exact ⟨rfl, by rw [HWR.out]; exact below_drewN (Below.refl _ _) _⟩
end Go.Proofs.YtojdginbaaoidaaDoor.F

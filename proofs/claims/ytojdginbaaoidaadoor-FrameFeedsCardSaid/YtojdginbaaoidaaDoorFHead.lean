/- The contracts of fitOf, number, headOf and readHead. -/
import Derived.Test.YtojdginbaaoidaaDoorFBase
import Derived.RegionTactic
import Derived.Deep.QuietTactic
import Derived.BigQuiet
import Derived.Deep.LoopGhost
import Derived.IntWalk
import Derived.OwnWalk
namespace Go.Proofs.YtojdginbaaoidaaDoor.F
open Go.RowKit
open Go.Lib

theorem drop_cons {l : List UInt8} {i : Nat} (h : i < l.length) : l.drop i = l[i] :: l.drop (i + 1) := List.drop_eq_getElem_cons h
theorem drop_at {s : ByteArray} {i : Nat} (h : i < s.size) : s.data.toList.drop i = s[i] :: s.data.toList.drop (i + 1) := by
  have h' : i < s.data.toList.length := by simpa using h
  rw [List.drop_eq_getElem_cons h']; rfl

set_option maxHeartbeats 1000000 in
theorem fit_any (a : Option Addr) (cap : Nat) (b : List UInt8) (s : ByteArray) (w : World) (hb : LiesAt w a b) (hl : b.length ≤ 1099511627776) (_hs : s.size ≤ 1099511627776) :
    Calls Tryd.prog 28 #[.slice a b.length cap, .string s] w fun e w' => e = .returned (.int .i64 (fitL b s.data.toList)) ∧ ∃ k, w' = w.drewN k := by
  have hsl : s.data.toList.length = s.size := by simp
  obtain ⟨m, hm⟩ : ∃ m, min b.length s.size = m := ⟨_, rfl⟩
  have HF := Lib.hid (show fitL (b.drop 0) (s.data.toList.drop 0) = fitL b s.data.toList from rfl)
  obtain ⟨F, hF⟩ : ∃ F, fitL b s.data.toList = F := ⟨_, rfl⟩
  rw [hF] at HF
  have HB := Lib.hid hb
  rw [hF]
  clear hF hb
  go_enter Tryd.func28, Tryd.ntmps28
  go_wp2_with fail
  go_loopw [11] (fun iv wr => ∃ i : Nat, iv = .int .i64 i ∧ i ≤ m ∧ Hid (fitL (b.drop i) (s.data.toList.drop i) = F) ∧ ∃ k, wr = w.drewN k) (fun iv _ => m - (Go.RowKit.intOf iv).toNat)
  case atStart => exact ⟨0, rfl, by omega, HF, 0, rfl⟩
  case round =>
    obtain ⟨i, rfl, hi, HI, k, rfl⟩ := hrel
    by_cases hlt : i < m
    · have h1 : i < b.length := by omega
      have h2 : i < s.size := by omega
      have hI := HI.out
      rw [drop_cons h1, drop_at h2] at hI
      simp only [fitL] at hI
      obtain ⟨g, off, rfl, hc⟩ := HB.out.resolve_left (fun h => by rw [h] at h1; exact Nat.not_lt_zero _ h1)
      have hci := hc i h1
      have hmm : (i : Int) < min (b.length : Int) (s.size : Int) := by omega
      clear hc
      by_cases hx : b[i] = s[i]
      · rw [if_pos hx] at hI
        have hx' := u8_eqI hx
        have HI2 := Lib.hid hI
        clear hI hx
        go_wp2_with fail
        go_quiet (fail)
        go_wp2_with fail
        go_roundw
        case rel => exact ⟨i + 1, by go_num, by omega, HI2, k + nq, by simp⟩
        case measure => simp [Go.RowKit.intOf]; omega
      · rw [if_neg hx] at hI
        have hx' := u8_neI hx
        subst hI
        clear hx
        go_wp2_with fail
        go_quiet (fail)
        go_wp2_with fail
        go_ret
        exact ⟨rfl, k + nq, by simp⟩
    · have hmm : ¬ (i : Int) < min (b.length : Int) (s.size : Int) := by omega
      have him : i = m := by omega
      have hI := HI.out
      by_cases hlen : b.length < s.size
      · have e1 : b.drop i = [] := List.drop_eq_nil_of_le (by omega)
        have e2 := drop_at (s := s) (i := i) (by omega)
        rw [e1, e2] at hI
        simp only [fitL] at hI
        subst hI
        clear e1 e2
        go_wp2_with fail
        go_ret
        exact ⟨rfl, k, rfl⟩
      · have e2 : s.data.toList.drop i = [] := List.drop_eq_nil_of_le (by omega)
        rw [e2] at hI
        have : F = 2 := by rw [← hI]; cases b.drop i <;> rfl
        subst this
        clear hI e2
        go_wp2_with fail
        go_ret
        exact ⟨rfl, k, rfl⟩

theorem digB_int (c : UInt8) : digB c = (!(decide ((c.toNat : Int) < 48)) && !(decide ((c.toNat : Int) > 57))) := by
  have hh : ∀ n : Fin 256, digB (UInt8.ofNat n.val) = (!(decide ((n.val : Int) < 48)) && !(decide ((n.val : Int) > 57))) := by decide +kernel
  have := hh ⟨c.toNat, c.toNat_lt⟩
  simpa using this

set_option maxHeartbeats 1000000 in
theorem number_any (a : Option Addr) (cap : Nat) (b : List UInt8) (w : World) (hb : LiesAt w a b) (hl : b.length ≤ 1099511627776) :
    Calls Tryd.prog 29 #[.slice a b.length cap] w fun e w' => e = .returned (.int .i64 (numL b 0)) ∧ w' = w := by
  obtain ⟨F, hF⟩ : ∃ F, numL b 0 = F := ⟨_, rfl⟩
  have HF := Lib.hid (show numL (b.drop 0) 0 = F from hF)
  have HB := Lib.hid hb
  rw [hF]
  clear hF hb
  go_enter Tryd.func29, Tryd.ntmps29
  generalize hL : (65536 : Int) = lim
  go_wp2_with fail
  go_loopw [3, 8] (fun nv iv wr => ∃ i n : Nat, iv = .int .i64 i ∧ nv = .int .i64 n ∧ i ≤ b.length ∧ n ≤ 655369 ∧ Hid (numL (b.drop i) n = F) ∧ wr = w) (fun _ iv _ => b.length - (Go.RowKit.intOf iv).toNat)
  case atStart => exact ⟨0, 0, rfl, rfl, by omega, by omega, HF, rfl⟩
  case round =>
    obtain ⟨i, n, rfl, rfl, hi, hn, HI, rfl⟩ := hrel
    by_cases hlt : i < b.length
    · have hI := HI.out
      rw [drop_cons hlt] at hI
      obtain ⟨g, off, rfl, hc⟩ := HB.out.resolve_left (fun h => by rw [h] at hlt; exact Nat.not_lt_zero _ hlt)
      have hci := hc i hlt
      clear hc
      have hdi := digB_int b[i]
      have hc1 := (b[i]).toNat_lt
      by_cases hd : digB b[i] = true
      · rw [hd] at hdi
        have k1 : decide (((b[i]).toNat : Int) < 48) = false := by
          cases h : decide (((b[i]).toNat : Int) < 48) with
          | false => rfl
          | true => rw [h] at hdi; simp at hdi
        have k2 : decide (((b[i]).toNat : Int) > 57) = false := by
          cases h : decide (((b[i]).toNat : Int) > 57) with
          | false => rfl
          | true => rw [h] at hdi; simp at hdi
        have k3 : 48 ≤ ((b[i]).toNat : Int) := by simpa using k1
        have k4 : ((b[i]).toNat : Int) ≤ 57 := by simpa using k2
        by_cases hn2 : 65536 < n
        · rw [numL_over _ _ hn2] at hI
          subst hI
          have k5 : decide ((n : Int) > lim) = true := by simp; omega
          clear hL hd hdi hn2
          go_wp2_with fail
          go_ret
          exact ⟨rfl, rfl⟩
        · rw [numL_step _ _ _ hd (by omega)] at hI
          have k5 : decide ((n : Int) > lim) = false := by simp; omega
          have HI2 := Lib.hid hI
          have hn3 : n ≤ 65536 := by omega
          clear hL hd hdi hI hn2
          go_wp2_with fail
          go_roundw
          case rel => exact ⟨i + 1, _, by go_num, by go_num, by omega, by omega, HI2, by first | rfl | trivial⟩
          case measure => simp [Go.RowKit.intOf]; omega
      · have hd' : digB b[i] = false := by simpa using hd
        rw [numL_stop _ _ _ hd'] at hI
        subst hI
        rw [hd'] at hdi
        clear hL hd hd'
        by_cases k1 : ((b[i]).toNat : Int) < 48
        · clear hdi
          go_wp2_with fail
          go_ret
          exact ⟨rfl, rfl⟩
        · have k2 : ((b[i]).toNat : Int) > 57 := by
            have : decide (((b[i]).toNat : Int) < 48) = false := by simpa using k1
            rw [this] at hdi
            simpa using hdi.symm
          clear hdi
          go_wp2_with fail
          go_ret
          exact ⟨rfl, rfl⟩
    · have hI := HI.out
      rw [List.drop_eq_nil_of_le (by omega)] at hI
      have : n = F := hI
      subst this
      clear hL hI
      go_wp2_with fail
      go_ret
      exact ⟨rfl, rfl⟩

theorem app_bytes (a b : List UInt8) : (⟨a.toArray⟩ : ByteArray) ++ (⟨b.toArray⟩ : ByteArray) = ⟨(a ++ b).toArray⟩ := by
  apply ByteArray.ext
  simp
theorem itoa_nat (n : Nat) : itoa (n : Int) = decDigits n := by
  unfold itoa
  rw [if_neg (by omega)]
  rfl
theorem head_bytes (n : Nat) : (⟨#[67, 111, 110, 116, 101, 110, 116, 45, 76, 101, 110, 103, 116, 104, 58, 32]⟩ : ByteArray) ++ (⟨(decDigits n).toArray⟩ : ByteArray) ++ (⟨#[13, 10, 13, 10]⟩ : ByteArray) = ⟨(headL n).toArray⟩ := by
  have h1 : (⟨#[67, 111, 110, 116, 101, 110, 116, 45, 76, 101, 110, 103, 116, 104, 58, 32]⟩ : ByteArray) = ⟨hb.toArray⟩ := rfl
  have h2 : (⟨#[13, 10, 13, 10]⟩ : ByteArray) = ⟨he.toArray⟩ := rfl
  rw [h1, h2, app_bytes, app_bytes]
  unfold headL
  rw [List.append_assoc]

set_option maxHeartbeats 1000000 in
theorem headOf_any (n : Nat) (w : World) (hn : n ≤ 65536) (hE : EnvF w) :
    Calls Tryd.prog 19 #[.int .i64 n] w fun e w' => e = .returned (.string ⟨(headL n).toArray⟩) ∧ Below w.heap.size w w' := by
  have cI : Calls Tryd.prog 26 #[.int .i64 n] w fun e w' => e = .returned (.string ⟨(itoa n).toArray⟩) ∧ Below w.heap.size w w' :=
    (Tryd.strconv_Itoa n (by omega) (by omega) w hE).mono fun e w' ⟨he, k, os, hw⟩ => ⟨he, by rw [hw]; exact Lib.below_grow _ _ (Nat.le_refl _) _ _⟩
  have hlen := dec_long hn
  rw [itoa_nat] at cI
  have hb1 := head_bytes n
  clear hn
  generalize headL n = H at hb1 ⊢
  generalize decDigits n = D at cI hb1 hlen
  have hD : (⟨D.toArray⟩ : ByteArray).size ≤ 5 := hlen
  clear hE
  go_enter Tryd.func19, Tryd.ntmps19
  go_wp2_with fail
  refine cI.mono ?_
  rintro e w1 ⟨rfl, hb2⟩
  clear cI
  go_wp2_with fail
  go_ret
  exact ⟨by rw [← hb1]; rfl, hb2⟩

theorem lies_drop {W : World} {a : Option Addr} {l : List UInt8} (h : LiesAt W a l) (k : Nat) {a' : Option Addr} (ha : ∀ g off, a = some ⟨g, off, none⟩ → k < l.length → a' = some ⟨g, off + k, none⟩) : LiesAt W a' (l.drop k) := by
  by_cases hk : k < l.length
  · rcases h with h | ⟨g, off, h1, h2⟩
    · rw [h] at hk; exact absurd hk (Nat.not_lt_zero _)
    · exact .inr ⟨g, off + k, ha g off h1 hk, h2.drop k⟩
  · exact .inl (List.drop_eq_nil_of_le (by omega))

theorem readL_no {b : List UInt8} (h : fitL b hb ≠ 2) : readL b = (0, 0, fitL b hb) := by unfold readL; rw [if_neg h]
theorem readL_over {b : List UInt8} (h : fitL b hb = 2) (h2 : 65536 < numL (b.drop 16) 0) : readL b = (0, 0, 0) := by unfold readL; rw [if_pos h, if_pos h2]

set_option maxHeartbeats 2000000 in
theorem readHead_any (a : Option Addr) (cap : Nat) (b : List UInt8) (w : World) (hb1 : LiesAt w a b) (hl : b.length ≤ 1099511627776) (hc : b.length ≤ cap) (hE : EnvF w) :
    Calls Tryd.prog 22 #[.slice a b.length cap] w fun e w' => e = .returned (.tuple #[.int .i64 (readL b).1, .int .i64 (readL b).2.1, .int .i64 (readL b).2.2]) ∧ Below w.heap.size w w' := by
  have cF := fun s (hs : s.size ≤ 1099511627776) W (hbW : Below w.heap.size w W) => (fit_any a cap b s W (hb1.later hbW) hl hs).mono fun e w' ⟨he, k, hw⟩ => show e = _ ∧ Below W.heap.size W w' from ⟨he, by rw [hw]; exact below_drewN (Below.refl _ _) k⟩
  have c1 := cF ⟨#[67, 111, 110, 116, 101, 110, 116, 45, 76, 101, 110, 103, 116, 104, 58, 32]⟩ (by decide) w (Below.refl _ _)
  have e1 : (⟨#[67, 111, 110, 116, 101, 110, 116, 45, 76, 101, 110, 103, 116, 104, 58, 32]⟩ : ByteArray).data.toList = hb := rfl
  rw [e1] at c1
  by_cases hf : fitL b hb = 2
  · have h16 : 16 ≤ b.length := by
      obtain ⟨r, hr⟩ := (fitL_whole _ _).1 hf
      rw [hr]; simp [hb]
    have cN := fun (a' : Option Addr) (n cap' : Nat) W (hbW : Below w.heap.size w W) (ha : ∀ g off, a = some ⟨g, off, none⟩ → 16 < b.length → a' = some ⟨g, off + 16, none⟩) (hn : n = (b.drop 16).length) => show Calls Tryd.prog 29 #[.slice a' n cap'] W _ from hn ▸ number_any a' cap' (b.drop 16) W (lies_drop (hb1.later hbW) 16 ha) (by simp; omega)
    rw [hf] at c1
    by_cases hov : 65536 < numL (b.drop 16) 0
    · rw [readL_over hf hov]
      have k1 : ∀ x : Int, x = 65536 → decide (((numL (b.drop 16) 0 : Nat) : Int) > x) = true := by intro x hx; simp; omega
      generalize numL (b.drop 16) 0 = N at cN k1
      have HF := Lib.hid cF
      clear hov cF hf hE hb1 e1
      go_enter Tryd.func22, Tryd.ntmps22
      generalize hL : (65536 : Int) = lim
      have k2 := k1 lim hL.symm
      clear hL k1
      go_wp2_with fail
      refine c1.mono ?_
      rintro e w1 ⟨rfl, hw1⟩
      clear c1
      go_wp2_with fail
      all_goals
        try subst h
        refine (cN _ _ _ _ hw1 (by intro g off h1 h2; first | omega | (rw [h1]; rfl)) (by simp)).mono ?_
        rintro e w2 ⟨rfl, rfl⟩
        go_wp2_with fail
        go_ret3
        exact ⟨rfl, hw1⟩
    · rw [readL_of b hf rfl (by omega)]
      have k1 : ∀ x : Int, x = 65536 → decide (((numL (b.drop 16) 0 : Nat) : Int) > x) = false := by intro x hx; simp; omega
      have cH := fun W (hbW : Below w.heap.size w W) => headOf_any (numL (b.drop 16) 0) W (by omega) (hE.later hbW)
      have hHl : (headL (numL (b.drop 16) 0)).length ≤ 25 := by rw [headL_length]; have := dec_long (n := numL (b.drop 16) 0) (by omega); omega
      obtain ⟨H, hH⟩ : ∃ H, headL (numL (b.drop 16) 0) = H := ⟨_, rfl⟩
      rw [hH] at hHl ⊢
      simp only [hH] at cH
      obtain ⟨F, hF⟩ : ∃ F, fitL b H = F := ⟨_, rfl⟩
      have cF2 : ∀ W, Below w.heap.size w W → Calls Tryd.prog 28 #[.slice a b.length cap, .string ⟨H.toArray⟩] W fun e w' => e = .returned (.int .i64 F) ∧ Below W.heap.size W w' := fun W hbW => by
        have := cF ⟨H.toArray⟩ (by show H.length ≤ _; omega) W hbW
        rw [← hF]
        exact this
      rw [hF]
      have hHs : (⟨H.toArray⟩ : ByteArray).size = H.length := rfl
      obtain ⟨N, hN⟩ : ∃ N, numL (b.drop 16) 0 = N := ⟨_, rfl⟩
      simp only [hN] at cN k1 cH
      rw [hN]
      clear hN hF hH
      clear hov cF hf hE hb1 e1
      go_enter Tryd.func22, Tryd.ntmps22
      generalize hL : (65536 : Int) = lim
      have k2 := k1 lim hL.symm
      clear hL k1
      go_wp2_with fail
      refine c1.mono ?_
      rintro e w1 ⟨rfl, hw1⟩
      clear c1
      go_wp2_with fail
      all_goals
        try subst h
        refine (cN _ _ _ _ hw1 (by intro g off h1 h2; first | omega | (rw [h1]; rfl)) (by simp)).mono ?_
        rintro e w2 ⟨rfl, rfl⟩
        go_wp2_with fail
        refine (cH _ hw1).mono ?_
        rintro e w3 ⟨rfl, hw3⟩
        have hw13 := hw1.trans (hw3.mono hw1.size)
        go_wp2_with fail
        refine (cF2 _ hw13).mono ?_
        rintro e w4 ⟨rfl, hw4⟩
        have hw14 := hw13.trans (hw4.mono hw13.size)
        go_wp2_with fail
        go_ret3
        exact ⟨rfl, hw14⟩
  · rw [readL_no hf]
    have hfi : ((fitL b hb : Nat) : Int) ≠ 2 := by omega
    generalize fitL b hb = f at c1 hfi
    clear cF hf hE hb1 e1 hl
    go_enter Tryd.func22, Tryd.ntmps22
    go_wp2_with fail
    refine c1.mono ?_
    rintro e w1 ⟨rfl, hw1⟩
    clear c1
    go_wp2_with fail
    go_ret3
    exact ⟨rfl, hw1⟩
end Go.Proofs.YtojdginbaaoidaaDoor.F

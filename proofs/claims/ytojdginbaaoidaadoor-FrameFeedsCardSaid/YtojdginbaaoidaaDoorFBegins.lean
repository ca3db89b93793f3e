/- The contract of the document's answer for frames: what bytes begin with. -/
import Derived.Test.YtojdginbaaoidaaDoorFNum
namespace Go.Proofs.YtojdginbaaoidaaDoor.F
open Go.RowKit
open Go.Lib

theorem ext_bytes (s : ByteArray) (a b : Nat) : s.extract a b = ⟨((s.data.toList.take b).drop a).toArray⟩ := by
  apply ByteArray.ext
  rw [ByteArray.data_extract]
  apply Array.ext'
  rw [Array.toList_extract, List.extract_eq_take_drop, List.drop_take]
theorem slice_to (s : ByteArray) (k : Nat) (h : k ≤ s.size) : ∀ W, (Instr.slice 9 (.string s) none (some (.int .i64 k)) none).run Tryd.prog W = .ok (.string ⟨(s.data.toList.take k).toArray⟩) W := fun W => by
  rw [run_slice_string_h W _ s Tryd.underlying9 .i64 k (by omega) (by omega), ext_bytes]
  simp
theorem slice_from (s : ByteArray) (k : Nat) (h : k ≤ s.size) : ∀ W, (Instr.slice 9 (.string s) (some (.int .i64 k)) none none).run Tryd.prog W = .ok (.string ⟨(s.data.toList.drop k).toArray⟩) W := fun W => by
  rw [run_slice_string_l W _ s Tryd.underlying9 .i64 k (by omega) (by omega), ext_bytes, List.take_of_length_le (by simp)]
  simp
theorem slice_mid (s : ByteArray) (a b : Nat) (h : a ≤ b) (h2 : b ≤ s.size) : ∀ W, (Instr.slice 9 (.string s) (some (.int .i64 a)) (some (.int .i64 b)) none).run Tryd.prog W = .ok (.string ⟨((s.data.toList.drop a).take (b - a)).toArray⟩) W := fun W => by
  rw [run_slice_string W _ _ _ _ _ _ Tryd.underlying9 (by omega) (by omega) (by omega)]
  have e1 : ((a : Int)).toNat = a := by omega
  have e2 : ((b : Int)).toNat = b := by omega
  rw [e1, e2, ext_bytes, List.drop_take]
def wordS : ByteArray := ⟨#[67, 111, 110, 116, 101, 110, 116, 45, 76, 101, 110, 103, 116, 104, 58, 32]⟩
def endS : ByteArray := ⟨#[13, 10, 13, 10]⟩

/-- How the call ends. -/
def Begins (l : List UInt8) (w : World) (e : Ending) (w' : World) : Prop :=
  e = .returned (.tuple #[.int .i64 (begL l).1, .string ⟨(begL l).2.1.toArray⟩, .int .i64 (begL l).2.2]) ∧ ∃ k, w' = w.drewN k

set_option maxHeartbeats 8000000 in
theorem begins_any (s : ByteArray) (w : World) (hs : s.size ≤ 1099511627776) :
    Calls Tryd.prog 24 #[.string s] w (Begins s.data.toList w) := by
  have hsl : s.data.toList.length = s.size := by simp
  obtain ⟨m, hm⟩ : ∃ m, min s.size 16 = m := ⟨_, rfl⟩
  have hmi : min (s.size : Int) 16 = (m : Int) := by omega
  have hsA := slice_to s m (by omega)
  have hsB := slice_to wordS m (by show m ≤ 16; omega)
  have hw1 : wordS.data.toList = hb := rfl
  have hw2 : wordS.size = 16 := rfl
  rw [hw1] at hsB
  unfold Begins
  by_cases hA : s.data.toList.take m = hb.take m
  · rw [← hA] at hsB
    have hAw : s.data.toList.take (min s.data.toList.length 16) = hb.take (min s.data.toList.length 16) := by rw [hsl, hm]; exact hA
    have hsA0 := hsA
    generalize hla : s.data.toList.take m = la at hsA hsB
    clear hw1 hsA0
    by_cases h16 : s.size ≤ 16
    · rw [beg_short hAw (by rw [hsl]; exact h16)]
      clear hAw hA hla
      go_enter Tryd.func24, Tryd.ntmps24
      have hwS : (⟨#[67, 111, 110, 116, 101, 110, 116, 45, 76, 101, 110, 103, 116, 104, 58, 32]⟩ : ByteArray) = wordS := rfl
      have hwE : (⟨#[13, 10, 13, 10]⟩ : ByteArray) = endS := rfl
      rw [hwS, hwE]
      clear hwS hwE
      generalize wordS = wS at hsB hw2 ⊢
      generalize endS = eS
      go_wp2_with fail
      go_quiet (fail)
      obtain ⟨w1, hw1⟩ : ∃ w1, w.drewN nq = w1 := ⟨_, rfl⟩
      rw [hw1]
      have HW1 := Lib.hid hw1
      clear hw1
      go_wp2_with fail
      go_ret3
      exact ⟨rfl, nq, HW1.out.symm⟩
    · have hR := word_is hAw (by rw [hsl]; omega)
      have hs3 : ∀ W, (Instr.slice 9 (.string s) (some (.int .i64 16)) none none).run Tryd.prog W = .ok (.string ⟨(s.data.toList.drop 16).toArray⟩) W := slice_from s 16 (by omega)
      have hRl : (s.data.toList.drop 16).length = s.size - 16 := by rw [List.length_drop, hsl]
      obtain ⟨c, r, hcr⟩ : ∃ c r, s.data.toList.drop 16 = c :: r := by
        cases h : s.data.toList.drop 16 with
        | nil => rw [h] at hRl; simp at hRl; omega
        | cons c r => exact ⟨c, r, rfl⟩
      obtain ⟨R, hRd⟩ : ∃ R, s.data.toList.drop 16 = R := ⟨_, rfl⟩
      rw [hRd] at hR hs3 hRl hcr
      have cN := fun W => num_any ⟨R.toArray⟩ W (by show R.length ≤ _; omega)
      have hce : (⟨R.toArray⟩ : ByteArray).data.toList = R := rfl
      rw [hce] at cN
      rw [hR]
      clear hAw hA hla hce hR
      have HRD := Lib.hid hRd
      clear hRd
      by_cases hdc : digB c = true
      · rcases numberR_some (r := r) hdc with ⟨h1, h2⟩ | ⟨m1, r1, h1, hm1, h3, h4⟩
        · rw [← hcr] at h1 h2
          rw [h2]
          generalize numberR R = NR at cN h1
          obtain ⟨n1, n2⟩ := NR
          simp only at h1 cN
          subst h1
          clear h2 hdc hcr
          go_enter Tryd.func24, Tryd.ntmps24
          have hwS : (⟨#[67, 111, 110, 116, 101, 110, 116, 45, 76, 101, 110, 103, 116, 104, 58, 32]⟩ : ByteArray) = wordS := rfl
          have hwE : (⟨#[13, 10, 13, 10]⟩ : ByteArray) = endS := rfl
          rw [hwS, hwE]
          clear hwS hwE
          generalize wordS = wS at hsB hw2 ⊢
          generalize endS = eS
          go_wp2_with fail
          go_quiet (fail)
          obtain ⟨w1, hw1⟩ : ∃ w1, w.drewN nq = w1 := ⟨_, rfl⟩
          rw [hw1]
          have HW1 := Lib.hid hw1
          clear hw1
          go_wp2_with fail
          refine (cN _).mono ?_
          rintro e w2 ⟨rfl, rfl⟩
          go_wp2_with fail
          go_ret3
          exact ⟨rfl, nq, HW1.out.symm⟩
        · rw [← hcr] at h1 h3
          have hfg1 := decDigits_ne m1
          have hfg2 := dec_long hm1
          have hr1 : R.drop (decDigits m1).length = r1 := by rw [h3, List.drop_left]
          have hrl : r1.length + (decDigits m1).length = s.size - 16 := by rw [← hRl, h3, List.length_append]; omega
          have hfg3 : 0 < (decDigits m1).length := by
            cases h : decDigits m1 with
            | nil => exact absurd h hfg1
            | cons x t => simp
          rw [h1] at cN
          simp only at cN
          have hfin1 := beg_end (r := r1) hm1 h4
          have hfin2 := beg_wait (r := r1) hm1 h4
          have hfin3 := beg_frame (r := r1) hm1 h4
          rw [← h3] at hfin1 hfin2 hfin3
          obtain ⟨fg, hfg⟩ : ∃ fg, (decDigits m1).length = fg := ⟨_, rfl⟩
          rw [hfg] at cN hfg2 hfg3 hr1 hrl hfin3
          have hs4 : ∀ W, (Instr.slice 9 (.string s) (some (.int .i64 ((16 : Int) + (fg : Int)))) none none).run Tryd.prog W = .ok (.string ⟨r1.toArray⟩) W := fun W => by
            have h := slice_from s (16 + fg) (by omega) W
            rw [show ((16 + fg : Nat) : Int) = 16 + (fg : Int) by omega, ← List.drop_drop, HRD.out, hr1] at h
            exact h
          obtain ⟨m2, hm2⟩ : ∃ m2, min r1.length 4 = m2 := ⟨_, rfl⟩
          have hmi2 : min (r1.length : Int) 4 = (m2 : Int) := by omega
          have hsC := slice_to ⟨r1.toArray⟩ m2 (by show m2 ≤ r1.length; omega)
          have hsD := slice_to endS m2 (by show m2 ≤ 4; omega)
          have hre : (⟨r1.toArray⟩ : ByteArray).data.toList = r1 := rfl
          have hee : endS.data.toList = he := rfl
          have hw4 : endS.size = 4 := rfl
          rw [hre] at hsC
          rw [hee] at hsD
          rw [hm2] at hfin1 hfin2 hfin3
          have hr1s : (⟨r1.toArray⟩ : ByteArray).size = r1.length := rfl
          have hdn : decide ((m1 : Int) < 0) = false := by simp
          have hfz : ((fg : Int) == 0) = false := by simp; omega
          clear h1 h3 h4 hdc hcr hfg1 hfg hr1 hre hee
          by_cases hB : r1.take m2 = he.take m2
          · rw [← hB] at hsD
            have hf2 := hfin2 hB
            have hf3 := hfin3 hB
            clear hfin1 hfin2 hfin3 hB
            generalize hlb : r1.take m2 = lb at hsC hsD
            clear hlb
            by_cases hlen : r1.length < 4 + m1
            · rw [hf2 hlen]
              clear hf2 hf3
              go_enter Tryd.func24, Tryd.ntmps24
              have hwS : (⟨#[67, 111, 110, 116, 101, 110, 116, 45, 76, 101, 110, 103, 116, 104, 58, 32]⟩ : ByteArray) = wordS := rfl
              have hwE : (⟨#[13, 10, 13, 10]⟩ : ByteArray) = endS := rfl
              rw [hwS, hwE]
              clear hwS hwE
              generalize wordS = wS at hsB hw2 ⊢
              generalize endS = eS at hsD hw4 ⊢
              go_wp2_with fail
              go_quiet (fail)
              obtain ⟨w1, hw1⟩ : ∃ w1, w.drewN nq = w1 := ⟨_, rfl⟩
              rw [hw1]
              have HW1 : Hid (∃ k, w1 = w.drewN k) := Lib.hid ⟨nq, hw1.symm⟩
              clear hw1
              go_wp2_with fail
              refine (cN _).mono ?_
              rintro e w2 ⟨rfl, rfl⟩
              clear cN
              go_wp2_with fail
              go_quiet (fail)
              obtain ⟨w2', hw2'⟩ : ∃ w2', w2.drewN nq = w2' := ⟨_, rfl⟩
              rw [hw2']
              have HW2 : Hid (∃ k, w2' = w.drewN k) := Lib.hid (by obtain ⟨k, hk⟩ := HW1.out; exact ⟨k + nq, by rw [← hw2', hk]; simp⟩)
              clear hw2'
              go_wp2_with fail
              go_ret3
              exact ⟨rfl, HW2.out⟩
            · rw [hf3 (by omega)]
              have hsE : ∀ W, (Instr.slice 9 (.string ⟨r1.toArray⟩) (some (.int .i64 4)) (some (.int .i64 ((4 : Int) + (m1 : Int)))) none).run Tryd.prog W = .ok (.string ⟨((r1.drop 4).take m1).toArray⟩) W := fun W => by
                have h := slice_mid ⟨r1.toArray⟩ 4 (4 + m1) (by omega) (by show 4 + m1 ≤ r1.length; omega) W
                rw [show ((4 + m1 : Nat) : Int) = 4 + (m1 : Int) by omega, show 4 + m1 - 4 = m1 by omega] at h
                exact h
              generalize (r1.drop 4).take m1 = body at hsE
              clear hf2 hf3
              go_enter Tryd.func24, Tryd.ntmps24
              have hwS : (⟨#[67, 111, 110, 116, 101, 110, 116, 45, 76, 101, 110, 103, 116, 104, 58, 32]⟩ : ByteArray) = wordS := rfl
              have hwE : (⟨#[13, 10, 13, 10]⟩ : ByteArray) = endS := rfl
              rw [hwS, hwE]
              clear hwS hwE
              generalize wordS = wS at hsB hw2 ⊢
              generalize endS = eS at hsD hw4 ⊢
              go_wp2_with fail
              go_quiet (fail)
              obtain ⟨w1, hw1⟩ : ∃ w1, w.drewN nq = w1 := ⟨_, rfl⟩
              rw [hw1]
              have HW1 : Hid (∃ k, w1 = w.drewN k) := Lib.hid ⟨nq, hw1.symm⟩
              clear hw1
              go_wp2_with fail
              refine (cN _).mono ?_
              rintro e w2 ⟨rfl, rfl⟩
              clear cN
              go_wp2_with fail
              go_quiet (fail)
              obtain ⟨w2', hw2'⟩ : ∃ w2', w2.drewN nq = w2' := ⟨_, rfl⟩
              rw [hw2']
              have HW2 : Hid (∃ k, w2' = w.drewN k) := Lib.hid (by obtain ⟨k, hk⟩ := HW1.out; exact ⟨k + nq, by rw [← hw2', hk]; simp⟩)
              clear hw2'
              go_wp2_with fail
              go_quiet (fail)
              obtain ⟨w3, hw3⟩ : ∃ w3, w2'.drewN nq = w3 := ⟨_, rfl⟩
              rw [hw3]
              have HW3 : Hid (∃ k, w3 = w.drewN k) := Lib.hid (by obtain ⟨k, hk⟩ := HW2.out; exact ⟨k + nq, by rw [← hw3, hk]; simp⟩)
              clear hw3
              go_wp2_with fail
              go_ret3
              exact ⟨rfl, HW3.out⟩
          · have hf1 := hfin1 hB
            rw [hf1]
            clear hf1 hfin1 hfin2 hfin3
            generalize r1.take m2 = lc at hsC hB
            generalize he.take m2 = ld at hsD hB
            have hx3 : (lc == ld) = false := beq_eq_false_iff_ne.2 hB
            go_enter Tryd.func24, Tryd.ntmps24
            have hwS : (⟨#[67, 111, 110, 116, 101, 110, 116, 45, 76, 101, 110, 103, 116, 104, 58, 32]⟩ : ByteArray) = wordS := rfl
            have hwE : (⟨#[13, 10, 13, 10]⟩ : ByteArray) = endS := rfl
            rw [hwS, hwE]
            clear hwS hwE
            generalize wordS = wS at hsB hw2 ⊢
            generalize endS = eS at hsD hw4 ⊢
            go_wp2_with fail
            go_quiet (fail)
            obtain ⟨w1, hw1⟩ : ∃ w1, w.drewN nq = w1 := ⟨_, rfl⟩
            rw [hw1]
            have HW1 : Hid (∃ k, w1 = w.drewN k) := Lib.hid ⟨nq, hw1.symm⟩
            clear hw1
            go_wp2_with fail
            refine (cN _).mono ?_
            rintro e w2 ⟨rfl, rfl⟩
            clear cN
            go_wp2_with fail
            go_quiet (fail)
            obtain ⟨w2', hw2'⟩ : ∃ w2', w2.drewN nq = w2' := ⟨_, rfl⟩
            rw [hw2']
            have HW2 : Hid (∃ k, w2' = w.drewN k) := Lib.hid (by obtain ⟨k, hk⟩ := HW1.out; exact ⟨k + nq, by rw [← hw2', hk]; simp⟩)
            clear hw2'
            go_wp2_with fail
            go_ret3
            exact ⟨rfl, HW2.out⟩
      · have hdc' : digB c = false := by simpa using hdc
        obtain ⟨h1, h2⟩ := numberR_none (r := r) hdc'
        have h3 : (numberR (c :: r)).1 = 0 := by
          unfold numberR
          rw [numR, if_neg hdc]
          rfl
        rw [← hcr] at h1 h2 h3
        rw [h2]
        simp only [h1, h3] at cN
        clear h2 h1 h3 hdc hdc' hcr
        go_enter Tryd.func24, Tryd.ntmps24
        have hwS : (⟨#[67, 111, 110, 116, 101, 110, 116, 45, 76, 101, 110, 103, 116, 104, 58, 32]⟩ : ByteArray) = wordS := rfl
        have hwE : (⟨#[13, 10, 13, 10]⟩ : ByteArray) = endS := rfl
        rw [hwS, hwE]
        clear hwS hwE
        generalize wordS = wS at hsB hw2 ⊢
        generalize endS = eS
        go_wp2_with fail
        go_quiet (fail)
        obtain ⟨w1, hw1⟩ : ∃ w1, w.drewN nq = w1 := ⟨_, rfl⟩
        rw [hw1]
        have HW1 := Lib.hid hw1
        clear hw1
        go_wp2_with fail
        refine (cN _).mono ?_
        rintro e w2 ⟨rfl, rfl⟩
        go_wp2_with fail
        go_ret3
        exact ⟨rfl, nq, HW1.out.symm⟩
  · have hbg := beg_word (s := s.data.toList) (by rw [hsl, hm]; exact hA)
    rw [hbg]
    generalize s.data.toList.take m = la at hsA hA
    generalize hb.take m = lb at hsB hA
    have hx2 : (la == lb) = false := beq_eq_false_iff_ne.2 hA
    clear hbg hw1
    go_enter Tryd.func24, Tryd.ntmps24
    have hwS : (⟨#[67, 111, 110, 116, 101, 110, 116, 45, 76, 101, 110, 103, 116, 104, 58, 32]⟩ : ByteArray) = wordS := rfl
    rw [hwS]
    clear hwS
    generalize wordS = wS at hsB hw2 ⊢
    go_wp2_with fail
    go_quiet (fail)
    go_wp2_with fail
    go_ret3
    exact ⟨rfl, nq, rfl⟩
end Go.Proofs.YtojdginbaaoidaaDoor.F

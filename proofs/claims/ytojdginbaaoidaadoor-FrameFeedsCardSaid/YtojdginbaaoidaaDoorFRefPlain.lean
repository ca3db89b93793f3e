/- Plain facts: how the document's answer for frames reads figures and heads is how heads fit. It imports nothing of the program. -/
import Derived.Test.YtojdginbaaoidaaDoorFPlain
namespace Go.Proofs.YtojdginbaaoidaaDoor.F
open Go.Lib

/-- Figures as they come, as a number, and how many; -1: more than five, a needless nought, or too much. z: the first one is a nought. -/
def numR (z : Bool) : List UInt8 → Nat → Nat → Int × Nat
  | [], n, k => (n, k)
  | c :: r, n, k => if digB c = true then (if 5 < k + 1 ∨ 65536 < 10 * n + (c.toNat - 48) ∨ (1 < k + 1 ∧ z = true) then (-1, k + 1) else numR z r (10 * n + (c.toNat - 48)) (k + 1)) else (n, k)
def zeroB (l : List UInt8) : Bool := l.head? == some 48
def numberR (l : List UInt8) : Int × Nat := numR (zeroB l) l 0 0

theorem fitL_pre : ∀ (p b s : List UInt8), fitL (p ++ b) (p ++ s) = fitL b s
  | [], _, _ => rfl
  | x :: p, b, s => by simp only [List.cons_append, fitL, if_pos, fitL_pre p b s]
theorem dig_range {c : UInt8} (h : digB c = true) : ∃ d, d < 10 ∧ c = UInt8.ofNat (48 + d) ∧ c.toNat - 48 = d := by
  have hh : ∀ n : Fin 256, digB (UInt8.ofNat n.val) = true → (48 ≤ n.val ∧ n.val ≤ 57) := by decide +kernel
  have h1 := hh ⟨c.toNat, c.toNat_lt⟩ (by simpa using h)
  simp only at h1
  refine ⟨c.toNat - 48, by omega, ?_, rfl⟩
  apply UInt8.toNat_inj.1
  simp
  omega
theorem dec_head : ∀ (n : Nat), 0 < n → (decDigits n).head? ≠ some 48 := by
  intro n
  induction n using Nat.strongRecOn with
  | _ n ih =>
    intro hn
    by_cases h : n < 10
    · rw [decDigits_one h]
      have hh : ∀ d : Fin 10, 0 < d.val → ([UInt8.ofNat (48 + d.val)] : List UInt8).head? ≠ some 48 := by decide +kernel
      exact hh ⟨n, h⟩ hn
    · rw [decDigits, dif_neg h]
      have h1 := decDigits_ne (n / 10)
      have h2 := ih (n / 10) (by omega) (by omega)
      cases h3 : decDigits (n / 10) with
      | nil => exact absurd h3 h1
      | cons x t => rw [h3] at h2; exact h2
theorem dec_zero : decDigits 0 = [48] := decDigits_one (by omega)
theorem readL_hb (b : List UInt8) : readL (hb ++ b) = if 65536 < numL b 0 then (0, 0, 0) else ((headL (numL b 0)).length, numL b 0, fitL b (decDigits (numL b 0) ++ he)) := by
  unfold readL
  rw [if_pos (fitL_self _ _), drop_hb]
  split
  · rfl
  · rw [headL, fitL_pre]
theorem dec_long {n : Nat} (h : n ≤ 65536) : (decDigits n).length ≤ 5 := by
  rw [decDigits_length]
  by_cases h1 : n < 10
  · rw [nDigits_small h1]; omega
  rw [nDigits_big h1]
  by_cases h2 : n / 10 < 10
  · rw [nDigits_small h2]; omega
  rw [nDigits_big h2]
  by_cases h3 : n / 10 / 10 < 10
  · rw [nDigits_small h3]; omega
  rw [nDigits_big h3]
  by_cases h4 : n / 10 / 10 / 10 < 10
  · rw [nDigits_small h4]; omega
  rw [nDigits_big h4, nDigits_small (by omega)]; omega
theorem dec_five {n : Nat} (h : 5 ≤ (decDigits n).length) : 10000 ≤ n := by
  rw [decDigits_length] at h
  by_cases h1 : n < 10
  · rw [nDigits_small h1] at h; omega
  rw [nDigits_big h1] at h
  by_cases h2 : n / 10 < 10
  · rw [nDigits_small h2] at h; omega
  rw [nDigits_big h2] at h
  by_cases h3 : n / 10 / 10 < 10
  · rw [nDigits_small h3] at h; omega
  rw [nDigits_big h3] at h
  by_cases h4 : n / 10 / 10 / 10 < 10
  · rw [nDigits_small h4] at h; omega
  omega

theorem numR_spec : ∀ (r : List UInt8) (n : Nat), n ≤ 65536 →
    ((numR (n == 0) r n (decDigits n).length).1 = -1 ∧ (readL (hb ++ (decDigits n ++ r))).2.2 = 0) ∨
    (∃ (m : Nat) (r' : List UInt8), numR (n == 0) r n (decDigits n).length = ((m : Int), (decDigits m).length) ∧ m ≤ 65536 ∧ decDigits n ++ r = decDigits m ++ r' ∧ (r' = [] ∨ ∃ c t, r' = c :: t ∧ digB c = false))
  | [], n, hn => .inr ⟨n, [], rfl, hn, rfl, .inl rfl⟩
  | c :: r, n, hn => by
    by_cases hc : digB c = true
    · obtain ⟨d, hd, hcd, hcn⟩ := dig_range hc
      by_cases h0 : n = 0
      · subst h0
        left
        constructor
        · rw [numR, if_pos hc, if_pos]
          exact .inr (.inr ⟨by rw [dec_zero]; decide, rfl⟩)
        · rw [readL_hb]
          split
          · rfl
          · rw [dec_zero]
            show fitL (48 :: c :: r) _ = 0
            generalize numL ([48] ++ c :: r) 0 = m
            by_cases hm : m = 0
            · subst hm
              rw [dec_zero]
              show fitL (48 :: c :: r) (48 :: 13 :: [10, 13, 10]) = 0
              have h13 : c ≠ 13 := by rintro rfl; revert hc; decide
              simp [fitL, h13]
            · have h1 := dec_head m (by omega)
              have h2 := decDigits_ne m
              cases h3 : decDigits m with
              | nil => exact absurd h3 h2
              | cons x t =>
                rw [h3] at h1
                have h4 : (48 : UInt8) ≠ x := by intro h; apply h1; rw [← h]; rfl
                simp [fitL, h4]
      · by_cases hov : 65536 < 10 * n + (c.toNat - 48)
        · left
          constructor
          · rw [numR, if_pos hc, if_pos (.inr (.inl hov))]
          · rw [readL_hb, numL_dec _ _ (by omega), numL_step _ _ _ hc hn, numL_over _ _ (by omega), if_pos (by omega)]
        · have h5 : ¬ 5 < (decDigits n).length + 1 := by
            intro h
            have := dec_five (n := n) (by omega)
            omega
          have e : 10 * n + (c.toNat - 48) = n * 10 + d := by omega
          have hd1 : decDigits (n * 10 + d) = decDigits n ++ [c] := by rw [decDigits_ten (by omega) hd, hcd]
          have hz : (n == 0) = false := by simpa using h0
          have hz' : (n * 10 + d == 0) = false := by simp; omega
          have hl : (decDigits n).length + 1 = (decDigits (n * 10 + d)).length := by rw [hd1]; simp
          have ih := numR_spec r (n * 10 + d) (by omega)
          rw [hz', ← hl, hd1, List.append_assoc] at ih
          rw [numR, if_pos hc, if_neg (by rw [hz]; exact fun h => h.elim h5 fun h => h.elim hov fun h => by cases h.2), e, hz]
          exact ih
    · right
      refine ⟨n, c :: r, ?_, hn, rfl, .inr ⟨c, r, rfl, by simpa using hc⟩⟩
      rw [numR, if_neg hc]

/-- What bytes begin with: 0 nothing, 1 what could become a frame, 2 a frame; its body, how many bytes it has. -/
def begL (s : List UInt8) : Nat × List UInt8 × Nat :=
  if step s = 2 then (2, (s.drop (readL s).1).take (readL s).2.1, (readL s).1 + (readL s).2.1) else (step s, [], 0)
theorem begL_zero {s : List UInt8} (h : (readL s).2.2 = 0) : begL s = (0, [], 0) := by
  have := step_zero.2 h
  unfold begL
  rw [if_neg (by omega), this]

/-- The head's word does not come. -/
theorem beg_word {s : List UInt8} (h : s.take (min s.length 16) ≠ hb.take (min s.length 16)) : begL s = (0, [], 0) := by
  have hf : fitL s hb = 0 := by
    have := fitL_le hb s
    have h1 : fitL s hb ≠ 2 := by
      intro h2
      obtain ⟨r, rfl⟩ := (fitL_whole _ _).1 h2
      apply h
      rw [show min (hb ++ r).length 16 = 16 by simp [hb]]
      rfl
    have h2 : fitL s hb ≠ 1 := by
      intro h2
      obtain ⟨y, r, h3⟩ := (fitL_still _ _).1 h2
      apply h
      have h4 : s.length ≤ 16 := by
        have := congrArg List.length h3
        simp [hb] at this
        omega
      rw [Nat.min_eq_left h4, h3]
      simp
    omega
  apply begL_zero
  unfold readL
  rw [if_neg (by omega)]
  exact hf
theorem word_is {s : List UInt8} (h : s.take (min s.length 16) = hb.take (min s.length 16)) (hl : 16 < s.length) : s = hb ++ s.drop 16 := by
  rw [Nat.min_eq_right (by omega)] at h
  have : hb.take 16 = hb := rfl
  rw [this] at h
  rw [← h, List.take_append_drop]
theorem beg_short {s : List UInt8} (h : s.take (min s.length 16) = hb.take (min s.length 16)) (hl : s.length ≤ 16) : begL s = (1, [], 0) := by
  rw [Nat.min_eq_left hl, List.take_length] at h
  have h1 : headL 0 = s ++ (hb.drop s.length ++ (48 :: he)) := by
    rw [← List.append_assoc]
    conv => rhs; lhs; lhs; rw [h]
    rw [List.take_append_drop, headL, dec_zero]; rfl
  have hne : ∃ y t, hb.drop s.length ++ (48 :: he) = y :: t := by
    cases hb.drop s.length with
    | nil => exact ⟨_, _, rfl⟩
    | cons y t => exact ⟨_, _, rfl⟩
  obtain ⟨y, t, hyt⟩ := hne
  rw [hyt] at h1
  have h2 := readL_still (n := 0) (by omega) h1
  have h3 : step s = 1 := by
    unfold step
    rw [h2]; simp
  unfold begL
  rw [if_neg (by omega), h3]

theorem numberR_none {c : UInt8} {r : List UInt8} (hc : digB c = false) : (numberR (c :: r)).2 = 0 ∧ begL (hb ++ c :: r) = (0, [], 0) := by
  constructor
  · unfold numberR
    rw [numR, if_neg (by rw [hc]; decide)]
  · apply begL_zero
    rw [readL_hb, numL_stop _ _ _ hc, if_neg (by omega), dec_zero]
    have : c ≠ 48 := by rintro rfl; revert hc; decide
    show fitL (c :: r) (48 :: he) = 0
    rw [fitL, if_neg this]
theorem numberR_some {c : UInt8} {r : List UInt8} (hc : digB c = true) :
    ((numberR (c :: r)).1 = -1 ∧ begL (hb ++ c :: r) = (0, [], 0)) ∨
    (∃ (m : Nat) (r' : List UInt8), numberR (c :: r) = ((m : Int), (decDigits m).length) ∧ m ≤ 65536 ∧ c :: r = decDigits m ++ r' ∧ (r' = [] ∨ ∃ c t, r' = c :: t ∧ digB c = false)) := by
  obtain ⟨d, hd, hcd, hcn⟩ := dig_range hc
  have h1 : decDigits d = [c] := by rw [decDigits_one hd, hcd]
  have hz : zeroB (c :: r) = (d == 0) := by
    have hh : ∀ d : Fin 10, ((some (UInt8.ofNat (48 + d.val)) : Option UInt8) == some 48) = (d.val == 0) := by decide +kernel
    unfold zeroB
    rw [hcd]
    exact hh ⟨d, hd⟩
  have e : numberR (c :: r) = numR (d == 0) r d (decDigits d).length := by
    unfold numberR
    rw [hz, numR, if_pos hc, if_neg, hcn, h1]
    · simp
    · rintro (h | h | h) <;> omega
  have := numR_spec r d (by omega)
  rw [h1] at this
  rw [e, h1]
  rcases this with ⟨h2, h3⟩ | h2
  · exact .inl ⟨h2, begL_zero h3⟩
  · exact .inr h2

theorem readL_dec {m : Nat} {r : List UInt8} (hm : m ≤ 65536) (hr : r = [] ∨ ∃ c t, r = c :: t ∧ digB c = false) : readL (hb ++ (decDigits m ++ r)) = ((headL m).length, m, fitL r he) := by
  have hn : numL (decDigits m ++ r) 0 = m := by
    rw [numL_dec _ _ (by omega)]
    rcases hr with rfl | ⟨c, t, rfl, hc⟩
    · rfl
    · exact numL_stop _ _ _ hc
  rw [readL_hb, hn, if_neg (by omega), fitL_pre]
theorem beg_end {m : Nat} {r : List UInt8} (hm : m ≤ 65536) (hr : r = [] ∨ ∃ c t, r = c :: t ∧ digB c = false) (h : r.take (min r.length 4) ≠ he.take (min r.length 4)) : begL (hb ++ (decDigits m ++ r)) = (0, [], 0) := by
  apply begL_zero
  rw [readL_dec hm hr]
  have := fitL_le he r
  have h1 : fitL r he ≠ 2 := by
    intro h2
    obtain ⟨t, rfl⟩ := (fitL_whole _ _).1 h2
    apply h
    rw [show min (he ++ t).length 4 = 4 by simp [he]]
    rfl
  have h2 : fitL r he ≠ 1 := by
    intro h2
    obtain ⟨y, t, h3⟩ := (fitL_still _ _).1 h2
    apply h
    have h4 : r.length ≤ 4 := by
      have := congrArg List.length h3
      simp [he] at this
      omega
    rw [Nat.min_eq_left h4, h3]
    simp
  simp only
  omega
theorem fit_end {r : List UInt8} (h : r.take (min r.length 4) = he.take (min r.length 4)) : fitL r he ≠ 0 ∧ (4 ≤ r.length → fitL r he = 2) := by
  by_cases hl : 4 ≤ r.length
  · rw [Nat.min_eq_right hl] at h
    have h1 : r = he ++ r.drop 4 := by
      have : he.take 4 = he := rfl
      rw [this] at h
      rw [← h, List.take_append_drop]
    have : fitL r he = 2 := (fitL_whole _ _).2 ⟨_, h1⟩
    exact ⟨by omega, fun _ => this⟩
  · rw [Nat.min_eq_left (by omega), List.take_length] at h
    have h1 : he = r ++ he.drop r.length := by
      conv => rhs; lhs; rw [h]
      rw [List.take_append_drop]
    have h2 : he.drop r.length ≠ [] := by
      intro h3
      have := congrArg List.length h3
      simp [he] at this
      omega
    cases h4 : he.drop r.length with
    | nil => exact absurd h4 h2
    | cons y t =>
      rw [h4] at h1
      have : fitL r he = 1 := (fitL_still _ _).2 ⟨_, _, h1⟩
      exact ⟨by omega, fun h => by omega⟩
theorem beg_wait {m : Nat} {r : List UInt8} (hm : m ≤ 65536) (hr : r = [] ∨ ∃ c t, r = c :: t ∧ digB c = false) (h : r.take (min r.length 4) = he.take (min r.length 4)) (hl : r.length < 4 + m) : begL (hb ++ (decDigits m ++ r)) = (1, [], 0) := by
  have hf := fit_end h
  have hs : step (hb ++ (decDigits m ++ r)) = 1 := by
    unfold step
    rw [readL_dec hm hr, if_neg (by exact hf.1), if_neg]
    rintro ⟨_, h2⟩
    simp only [headL_length, List.length_append] at h2
    have : hb.length = 16 := rfl
    omega
  unfold begL
  rw [if_neg (by omega), hs]
theorem beg_frame {m : Nat} {r : List UInt8} (hm : m ≤ 65536) (hr : r = [] ∨ ∃ c t, r = c :: t ∧ digB c = false) (h : r.take (min r.length 4) = he.take (min r.length 4)) (hl : 4 + m ≤ r.length) : begL (hb ++ (decDigits m ++ r)) = (2, (r.drop 4).take m, 16 + (decDigits m).length + 4 + m) := by
  have hf := (fit_end h).2 (by omega)
  have hb16 : hb.length = 16 := rfl
  have hs : step (hb ++ (decDigits m ++ r)) = 2 := by
    refine step_two.2 ?_
    rw [readL_dec hm hr]
    refine ⟨hf, ?_⟩
    simp only [headL_length, List.length_append]
    omega
  unfold begL
  rw [if_pos hs, readL_dec hm hr]
  simp only [headL_length, Prod.mk.injEq, true_and]
  refine ⟨?_, by omega⟩
  congr 1
  rw [show 20 + (decDigits m).length = hb.length + ((decDigits m).length + 4) by omega, ← List.drop_drop, List.drop_left, ← List.drop_drop, List.drop_left]
end Go.Proofs.YtojdginbaaoidaaDoor.F

/- Plain facts about frames: how bytes fit a head, how a decoder goes on, what it tells of pieces, and of what is encoded. It imports nothing of the program. -/
import Derived.Lib.ItoaNum
namespace Go.Proofs.YtojdginbaaoidaaDoor.F
open Go.Lib

def hb : List UInt8 := [67, 111, 110, 116, 101, 110, 116, 45, 76, 101, 110, 103, 116, 104, 58, 32]
def he : List UInt8 := [13, 10, 13, 10]
def headL (n : Nat) : List UInt8 := hb ++ (decDigits n ++ he)

/-- 0: never; 1: still; 2: whole. -/
def fitL : List UInt8 → List UInt8 → Nat
  | _, [] => 2
  | [], _ :: _ => 1
  | x :: b, y :: s => if x = y then fitL b s else 0

def digB (c : UInt8) : Bool := 48 ≤ c && c ≤ 57
/-- The number that figures tell, up to the first that is too great. -/
def numL : List UInt8 → Nat → Nat
  | [], n => n
  | c :: r, n => if digB c = false ∨ 65536 < n then n else numL r (n * 10 + (c.toNat - 48))

/-- How long the head is, the body, and the fit. -/
def readL (b : List UInt8) : Nat × Nat × Nat :=
  if fitL b hb = 2 then
    if 65536 < numL (b.drop 16) 0 then (0, 0, 0)
    else ((headL (numL (b.drop 16) 0)).length, numL (b.drop 16) 0, fitL b (headL (numL (b.drop 16) 0)))
  else (0, 0, fitL b hb)

/-- What a decoder tells: bodies, how many bytes were passed over, what is left. -/
structure Told where
  out : List (List UInt8)
  lost : Nat
  left : List UInt8

/-- What it does next: 0: it passes one byte over; 1: it waits; 2: it tells a body. -/
def step (b : List UInt8) : Nat :=
  if (readL b).2.2 = 0 then 0 else if (readL b).2.2 = 2 ∧ (readL b).1 + (readL b).2.1 ≤ b.length then 2 else 1

def goF : Nat → List UInt8 → Told
  | 0, b => ⟨[], 0, b⟩
  | f + 1, b =>
    if step b = 0 then ⟨(goF f (b.drop 1)).out, (goF f (b.drop 1)).lost + 1, (goF f (b.drop 1)).left⟩
    else if step b = 2 then ⟨(b.drop (readL b).1).take (readL b).2.1 :: (goF f (b.drop ((readL b).1 + (readL b).2.1))).out, (goF f (b.drop ((readL b).1 + (readL b).2.1))).lost, (goF f (b.drop ((readL b).1 + (readL b).2.1))).left⟩
    else ⟨[], 0, b⟩
def goL (b : List UInt8) : Told := goF (b.length + 1) b

/-- The frames of bodies. -/
def encL : List (List UInt8) → List UInt8
  | [] => []
  | b :: r => headL b.length ++ (b ++ encL r)

/-! ### How bytes fit -/
theorem fitL_le : ∀ (s b : List UInt8), fitL b s ≤ 2
  | [], _ => by cases ‹List UInt8› <;> simp [fitL]
  | y :: s, [] => by simp [fitL]
  | y :: s, x :: b => by
    simp only [fitL]
    split
    · exact fitL_le s b
    · omega
theorem fitL_whole : ∀ (s b : List UInt8), fitL b s = 2 ↔ ∃ r, b = s ++ r
  | [], b => by cases b <;> simp [fitL]
  | y :: s, [] => by simp [fitL]
  | y :: s, x :: b => by
    simp only [fitL]
    split
    · rename_i h
      subst h
      rw [fitL_whole s b]
      simp
    · rename_i h
      simp [h]
theorem fitL_still : ∀ (s b : List UInt8), fitL b s = 1 ↔ ∃ y r, s = b ++ y :: r
  | [], b => by cases b <;> simp [fitL]
  | y :: s, [] => by simp [fitL]
  | y :: s, x :: b => by
    simp only [fitL]
    split
    · rename_i h
      subst h
      rw [fitL_still s b]
      simp
    · rename_i h
      simp
      intro h1
      exact absurd h1.symm h
theorem fitL_app : ∀ (s b c : List UInt8), fitL b s ≠ 1 → fitL (b ++ c) s = fitL b s
  | [], b, c, _ => by cases b <;> cases c <;> simp [fitL]
  | y :: s, [], c, h => absurd rfl h
  | y :: s, x :: b, c, h => by
    simp only [List.cons_append, fitL] at h ⊢
    split
    · rename_i hxy
      rw [if_pos hxy] at h
      exact fitL_app s b c h
    · rfl
theorem headL_length (n : Nat) : (headL n).length = 20 + (decDigits n).length := by simp only [headL, hb, he, List.length_append, List.length_cons, List.length_nil]; omega
theorem headL_pos (n : Nat) : 0 < (headL n).length := by rw [headL_length]; omega

/-! ### Figures -/
theorem decDigits_dig : ∀ (n : Nat), ∀ c ∈ decDigits n, digB c = true := by
  intro n
  rw [decDigits_eq]
  intro c hc
  simp only [List.mem_map, List.mem_range] at hc
  obtain ⟨t, _, rfl⟩ := hc
  have h : ∀ d : Fin 10, digB (UInt8.ofNat (48 + d.val)) = true := by decide +kernel
  unfold dg
  exact h ⟨_, Nat.mod_lt _ (by omega)⟩
theorem decDigits_ten {n d : Nat} (hn : 0 < n) (hd : d < 10) : decDigits (n * 10 + d) = decDigits n ++ [UInt8.ofNat (48 + d)] := by
  rw [decDigits, dif_neg (by omega)]
  have h1 : (n * 10 + d) / 10 = n := by omega
  have h2 : (n * 10 + d) % 10 = d := by omega
  rw [h1, h2]
theorem decDigits_ne (n : Nat) : decDigits n ≠ [] := by
  intro h
  have h1 := decDigits_length n
  have h2 := nDigits_pos n
  rw [h, List.length_nil] at h1
  omega

theorem digB_of {d : Nat} (hd : d < 10) : digB (UInt8.ofNat (48 + d)) = true ∧ (UInt8.ofNat (48 + d)).toNat - 48 = d := by
  have h : ∀ d : Fin 10, digB (UInt8.ofNat (48 + d.val)) = true ∧ (UInt8.ofNat (48 + d.val)).toNat - 48 = d.val := by decide +kernel
  exact h ⟨d, hd⟩
theorem numL_step (c : UInt8) (r : List UInt8) (n : Nat) (hc : digB c = true) (hn : n ≤ 65536) : numL (c :: r) n = numL r (n * 10 + (c.toNat - 48)) := by
  rw [numL, if_neg]
  rintro (h | h)
  · rw [hc] at h; cases h
  · omega
theorem numL_stop (c : UInt8) (r : List UInt8) (n : Nat) (hc : digB c = false) : numL (c :: r) n = n := by rw [numL, if_pos (.inl hc)]
theorem numL_over (r : List UInt8) (n : Nat) (hn : 65536 < n) : numL r n = n := by
  cases r with
  | nil => rfl
  | cons c r => rw [numL, if_pos (.inr hn)]
theorem numL_dec : ∀ (n : Nat) (r : List UInt8), n / 10 ≤ 65536 → numL (decDigits n ++ r) 0 = numL r n := by
  intro n
  induction n using Nat.strongRecOn with
  | _ n ih =>
    intro r hn
    by_cases h : n < 10
    · rw [decDigits_one h]
      have := digB_of h
      show numL (_ :: r) 0 = _
      rw [numL_step _ _ _ this.1 (by omega), this.2]; simp
    · rw [decDigits, dif_neg h, List.append_assoc, ih (n / 10) (by omega) _ (by omega)]
      have := digB_of (d := n % 10) (by omega)
      show numL (_ :: r) (n / 10) = _
      rw [numL_step _ _ _ this.1 (by omega), this.2]
      congr 1; omega
theorem dec_prefix : ∀ (n : Nat) (b : List UInt8) (y : UInt8) (r : List UInt8), decDigits n = b ++ y :: r → b ≠ [] → ∃ m, m ≤ n ∧ b = decDigits m := by
  intro n
  induction n using Nat.strongRecOn with
  | _ n ih =>
    intro b y r h hb
    by_cases hn : n < 10
    · rw [decDigits_one hn] at h
      cases b with
      | nil => exact absurd rfl hb
      | cons x b => simp at h
    · rw [decDigits, dif_neg hn] at h
      rcases List.eq_nil_or_concat r with rfl | ⟨r', z, rfl⟩
      · have := List.append_inj' h rfl
        exact ⟨n / 10, by omega, this.1.symm⟩
      · rw [List.concat_eq_append, ← List.cons_append, ← List.append_assoc] at h
        have := List.append_inj' h rfl
        obtain ⟨m, h1, h2⟩ := ih (n / 10) (by omega) b y r' this.1 hb
        exact ⟨m, by omega, h2⟩

/-! ### What a head is -/
theorem fitL_self (s r : List UInt8) : fitL (s ++ r) s = 2 := (fitL_whole s _).2 ⟨r, rfl⟩
theorem drop_hb (r : List UInt8) : (hb ++ r).drop 16 = r := rfl
theorem readL_of {n : Nat} (b : List UInt8) (hf : fitL b hb = 2) (hn : numL (b.drop 16) 0 = n) (h : n ≤ 65536) : readL b = ((headL n).length, n, fitL b (headL n)) := by
  unfold readL
  rw [if_pos hf, hn, if_neg (by omega)]
theorem readL_whole {n : Nat} (r : List UInt8) (h : n ≤ 65536) : readL (headL n ++ r) = ((headL n).length, n, 2) := by
  have e : headL n ++ r = hb ++ (decDigits n ++ (he ++ r)) := by simp [headL]
  have := readL_of (n := n) (headL n ++ r) (by rw [e]; exact fitL_self _ _) (by rw [e, drop_hb, numL_dec _ _ (by omega)]; rfl) h
  rw [this, fitL_self]
theorem readL_still {n : Nat} {b r : List UInt8} {y : UInt8} (h : n ≤ 65536) (hb1 : headL n = b ++ y :: r) : (readL b).2.2 = 1 := by
  by_cases hlt : b.length < 16
  · have hp : ∃ z t, hb = b ++ z :: t := by
      have h1 : b = (headL n).take b.length := by rw [hb1]; simp
      have h2 : (headL n).take b.length = hb.take b.length := by
        unfold headL
        rw [List.take_append_of_le_length]
        show b.length ≤ 16
        omega
      have h3 : hb = hb.take b.length ++ hb.drop b.length := (List.take_append_drop _ _).symm
      have h4 : hb.drop b.length ≠ [] := by
        intro h5
        have := congrArg List.length h5
        simp [hb] at this
        omega
      cases h6 : hb.drop b.length with
      | nil => exact absurd h6 h4
      | cons z t =>
        rw [h6, ← h2, ← h1] at h3
        exact ⟨z, t, h3⟩
    have h1 := (fitL_still hb b).2 hp
    unfold readL
    rw [if_neg (by omega)]
    exact h1
  · have hb2 : ∃ b', b = hb ++ b' := by
      have h1 : (b ++ y :: r).take 16 = b.take 16 := List.take_append_of_le_length (by omega)
      rw [← hb1] at h1
      have h2 : (headL n).take 16 = hb := rfl
      refine ⟨b.drop 16, ?_⟩
      rw [← h2, h1, List.take_append_drop]
    obtain ⟨b', rfl⟩ := hb2
    have h1 : decDigits n ++ he = b' ++ y :: r := by
      unfold headL at hb1
      rw [List.append_assoc] at hb1
      exact List.append_cancel_left hb1
    have key : ∃ m, m ≤ 65536 ∧ numL b' 0 = m ∧ ∃ z t, headL m = (hb ++ b') ++ z :: t := by
      rcases List.append_eq_append_iff.1 h1 with ⟨q, h2, h3⟩ | ⟨q, h2, h3⟩
      · -- b' = decDigits n ++ q
        refine ⟨n, h, ?_, y, r, by rw [← hb1]⟩
        rw [h2, numL_dec _ _ (by omega)]
        cases q with
        | nil => rfl
        | cons c q =>
          have : c = 13 := by
            have := congrArg List.head? h3
            simpa [he] using this.symm
          subst this
          exact numL_stop _ _ _ (by decide)
      · -- decDigits n = b' ++ q
        cases q with
        | nil =>
          rw [List.append_nil] at h2
          refine ⟨n, h, ?_, y, r, by rw [← hb1]⟩
          have := numL_dec n [] (by omega)
          rw [List.append_nil] at this
          rw [← h2, this]; rfl
        | cons c q =>
          by_cases hb0 : b' = []
          · subst hb0
            exact ⟨0, by omega, rfl, 48, he, by decide +kernel⟩
          · obtain ⟨m, h4, h5⟩ := dec_prefix n b' c q h2 hb0
            refine ⟨m, by omega, ?_, 13, [10, 13, 10], by simp [headL, he, h5]⟩
            have := numL_dec m [] (by omega)
            rw [List.append_nil] at this
            rw [h5, this]; rfl
    obtain ⟨m, h2, h3, h4⟩ := key
    rw [readL_of (hb ++ b') (fitL_self _ _) (by rw [drop_hb]; exact h3) h2]
    exact (fitL_still _ _).2 h4
theorem whole_of {b : List UInt8} (h : (readL b).2.2 = 2) : ∃ n r, n ≤ 65536 ∧ b = headL n ++ r ∧ readL b = ((headL n).length, n, 2) := by
  by_cases hf : fitL b hb = 2
  · by_cases hn : 65536 < numL (b.drop 16) 0
    · unfold readL at h
      rw [if_pos hf, if_pos hn] at h
      simp at h
    · have := readL_of b hf rfl (by omega)
      rw [this] at h
      obtain ⟨r, hr⟩ := (fitL_whole _ _).1 h
      refine ⟨_, r, Nat.le_of_not_lt hn, hr, ?_⟩
      rw [this]
      simp only [Prod.mk.injEq, true_and]
      exact h
  · unfold readL at h
    rw [if_neg hf] at h
    exact absurd h hf
theorem still_of {b : List UInt8} (h : (readL b).2.2 = 1) : ∃ n y r, n ≤ 65536 ∧ headL n = b ++ y :: r := by
  by_cases hf : fitL b hb = 2
  · by_cases hn : 65536 < numL (b.drop 16) 0
    · unfold readL at h
      rw [if_pos hf, if_pos hn] at h
      simp at h
    · have := readL_of b hf rfl (by omega)
      rw [this] at h
      obtain ⟨y, r, hr⟩ := (fitL_still _ _).1 h
      exact ⟨_, y, r, Nat.le_of_not_lt hn, hr⟩
  · unfold readL at h
    rw [if_neg hf] at h
    obtain ⟨y, r, hr⟩ := (fitL_still _ _).1 h
    refine ⟨0, y, r ++ (decDigits 0 ++ he), by omega, ?_⟩
    unfold headL
    rw [hr]
    simp
theorem fit_le (b : List UInt8) : (readL b).2.2 ≤ 2 := by
  unfold readL
  split
  · split
    · simp
    · exact fitL_le _ _
  · exact fitL_le _ _
theorem never_app {b c : List UInt8} (h : (readL b).2.2 = 0) : (readL (b ++ c)).2.2 = 0 := by
  have hle := fit_le (b ++ c)
  have h1 : (readL (b ++ c)).2.2 ≠ 2 := by
    intro h2
    obtain ⟨n, r, hn, hr, _⟩ := whole_of h2
    rcases List.append_eq_append_iff.1 hr with ⟨q, h3, h4⟩ | ⟨q, h3, h4⟩
    · -- headL n = b ++ q
      cases q with
      | nil =>
        rw [List.append_nil] at h3
        have := readL_whole (n := n) [] hn
        rw [List.append_nil, h3] at this
        rw [this] at h; simp at h
      | cons y q => rw [readL_still hn h3] at h; simp at h
    · rw [h3, readL_whole _ hn] at h; simp at h
  have h2 : (readL (b ++ c)).2.2 ≠ 1 := by
    intro h2
    obtain ⟨n, y, r, hn, hr⟩ := still_of h2
    cases c with
    | nil =>
      rw [List.append_nil] at hr
      rw [readL_still hn hr] at h; simp at h
    | cons z c =>
      rw [List.append_assoc, List.cons_append] at hr
      rw [readL_still hn hr] at h; simp at h
  omega

/-! ### What it does next -/
theorem step_le (b : List UInt8) : step b ≤ 2 := by
  unfold step
  split
  · omega
  · split <;> omega
theorem step_zero {b : List UInt8} : step b = 0 ↔ (readL b).2.2 = 0 := by
  unfold step
  split
  · simp [*]
  · split <;> simp [*]
theorem step_two {b : List UInt8} : step b = 2 ↔ (readL b).2.2 = 2 ∧ (readL b).1 + (readL b).2.1 ≤ b.length := by
  unfold step
  split
  · rename_i h; simp [h]
  · split
    · rename_i h; simp [h]
    · rename_i h; simp only [h]; simp
theorem frame_of {b : List UInt8} (h : step b = 2) : ∃ body r, body.length ≤ 65536 ∧ b = headL body.length ++ (body ++ r) ∧ readL b = ((headL body.length).length, body.length, 2) := by
  obtain ⟨h1, h2⟩ := step_two.1 h
  obtain ⟨n, r, hn, hr, he1⟩ := whole_of h1
  rw [he1] at h2
  have hl : n ≤ r.length := by
    rw [hr] at h2; simp only [List.length_append] at h2; omega
  have hb1 : (r.take n).length = n := by simp [hl]
  refine ⟨r.take n, r.drop n, by omega, ?_, ?_⟩
  · rw [hb1, List.take_append_drop]; exact hr
  · rw [hb1]; exact he1
theorem step_frame {body : List UInt8} (r : List UInt8) (h : body.length ≤ 65536) : step (headL body.length ++ (body ++ r)) = 2 := by
  refine step_two.2 ?_
  rw [readL_whole _ h]
  simp only [List.length_append]
  exact ⟨trivial, by omega⟩
theorem step_app_zero {b c : List UInt8} (h : step b = 0) : step (b ++ c) = 0 := step_zero.2 (never_app (step_zero.1 h))
theorem step_app_two {b c : List UInt8} (h : step b = 2) : step (b ++ c) = 2 ∧ readL (b ++ c) = readL b := by
  obtain ⟨body, r, h1, h2, h3⟩ := frame_of h
  rw [h3, h2]
  simp only [List.append_assoc]
  exact ⟨step_frame _ h1, readL_whole _ h1⟩
theorem step_nil : step [] = 1 := by decide +kernel
theorem step_pos {b : List UInt8} (h : step b ≠ 1) : 0 < b.length := by
  cases b with
  | nil => exact absurd step_nil h
  | cons x b => simp
theorem two_pos {b : List UInt8} (h : step b = 2) : 0 < (readL b).1 + (readL b).2.1 ∧ (readL b).1 + (readL b).2.1 ≤ b.length := by
  obtain ⟨body, r, h1, h2, h3⟩ := frame_of h
  have := headL_pos body.length
  have h4 := (step_two.1 h).2
  rw [h3] at h4 ⊢
  exact ⟨by simp only; omega, h4⟩
theorem goF_enough : ∀ (f g : Nat) (b : List UInt8), b.length < f → b.length < g → goF f b = goF g b
  | 0, _, _, h, _ => absurd h (Nat.not_lt_zero _)
  | _ + 1, 0, _, _, h => absurd h (Nat.not_lt_zero _)
  | f + 1, g + 1, b, h1, h2 => by
    rw [goF, goF]
    by_cases h0 : step b = 0
    · have := step_pos (b := b) (by omega)
      rw [if_pos h0, if_pos h0, goF_enough f g (b.drop 1) (by simp; omega) (by simp; omega)]
    · rw [if_neg h0, if_neg h0]
      by_cases h3 : step b = 2
      · have := two_pos h3
        rw [if_pos h3, if_pos h3, goF_enough f g (b.drop ((readL b).1 + (readL b).2.1)) (by simp; omega) (by simp; omega)]
      · rw [if_neg h3, if_neg h3]
theorem goL_pass {b : List UInt8} (h : step b = 0) : goL b = ⟨(goL (b.drop 1)).out, (goL (b.drop 1)).lost + 1, (goL (b.drop 1)).left⟩ := by
  have := step_pos (b := b) (by omega)
  unfold goL
  rw [goF, if_pos h, goF_enough b.length ((b.drop 1).length + 1) (b.drop 1) (by simp; omega) (by omega)]
theorem goL_body {b : List UInt8} (h : step b = 2) : goL b = ⟨(b.drop (readL b).1).take (readL b).2.1 :: (goL (b.drop ((readL b).1 + (readL b).2.1))).out, (goL (b.drop ((readL b).1 + (readL b).2.1))).lost, (goL (b.drop ((readL b).1 + (readL b).2.1))).left⟩ := by
  have := two_pos h
  unfold goL
  rw [goF, if_neg (by omega), if_pos h, goF_enough b.length ((b.drop ((readL b).1 + (readL b).2.1)).length + 1) (b.drop ((readL b).1 + (readL b).2.1)) (by simp; omega) (by omega)]
theorem goL_wait {b : List UInt8} (h : step b = 1) : goL b = ⟨[], 0, b⟩ := by
  unfold goL
  rw [goF, if_neg (by omega), if_neg (by omega)]
theorem goL_frame {body : List UInt8} (r : List UInt8) (h : body.length ≤ 65536) : goL (headL body.length ++ (body ++ r)) = ⟨body :: (goL r).out, (goL r).lost, (goL r).left⟩ := by
  rw [goL_body (step_frame r h), readL_whole _ h]
  have h1 : (headL body.length ++ (body ++ r)).drop (headL body.length).length = body ++ r := by simp
  have h2 : (headL body.length ++ (body ++ r)).drop ((headL body.length).length + body.length) = r := by rw [← List.drop_drop, h1]; simp
  simp only [h1, h2, List.take_left]

/-- However it is cut. -/
theorem goL_app (c : List UInt8) : ∀ (k : Nat) (b : List UInt8), b.length ≤ k → goL (b ++ c) = ⟨(goL b).out ++ (goL ((goL b).left ++ c)).out, (goL b).lost + (goL ((goL b).left ++ c)).lost, (goL ((goL b).left ++ c)).left⟩
  | k, b, hk => by
    have hle := step_le b
    by_cases h0 : step b = 0
    · have hp := step_pos (b := b) (by omega)
      obtain ⟨j, rfl⟩ : ∃ j, k = j + 1 := ⟨k - 1, by omega⟩
      have ih := goL_app c j (b.drop 1) (by simp; omega)
      rw [goL_pass h0, goL_pass (step_app_zero h0)]
      have : (b ++ c).drop 1 = b.drop 1 ++ c := List.drop_append_of_le_length (by omega)
      rw [this, ih]
      simp only [Told.mk.injEq, true_and, and_true]
      omega
    · by_cases h2 : step b = 2
      · have hp := two_pos h2
        obtain ⟨j, rfl⟩ : ∃ j, k = j + 1 := ⟨k - 1, by omega⟩
        obtain ⟨body, r, h3, h4, h5⟩ := frame_of h2
        have ih := goL_app c j r (by
          have h6 := headL_pos body.length
          rw [h4] at hk
          simp only [List.length_append] at hk
          omega)
        subst h4
        rw [goL_frame r h3]
        have : (headL body.length ++ (body ++ r)) ++ c = headL body.length ++ (body ++ (r ++ c)) := by simp
        rw [this, goL_frame _ h3, ih]
        simp
      · rw [goL_wait (b := b) (by omega)]; simp

/-- What was passed over, the frames of the bodies, and what is left, are all bytes. -/
theorem goL_all : ∀ (k : Nat) (b : List UInt8), b.length ≤ k → (goL b).lost + (encL (goL b).out).length + (goL b).left.length = b.length ∧ (∀ x ∈ (goL b).out, x.length ≤ 65536)
  | k, b, hk => by
    have hle := step_le b
    by_cases h0 : step b = 0
    · have hp := step_pos (b := b) (by omega)
      obtain ⟨j, rfl⟩ : ∃ j, k = j + 1 := ⟨k - 1, by omega⟩
      have ih := goL_all j (b.drop 1) (by simp; omega)
      rw [goL_pass h0]
      refine ⟨?_, ih.2⟩
      have h1 := ih.1
      simp only [List.length_drop] at h1
      simp only
      omega
    · by_cases h2 : step b = 2
      · obtain ⟨j, rfl⟩ : ∃ j, k = j + 1 := ⟨k - 1, by have := two_pos h2; omega⟩
        obtain ⟨body, r, h3, h4, h5⟩ := frame_of h2
        subst h4
        have h6 := headL_pos body.length
        simp only [List.length_append] at hk
        have ih := goL_all j r (by omega)
        rw [goL_frame r h3]
        refine ⟨?_, ?_⟩
        · have h1 := ih.1
          simp only [encL, List.length_append]
          omega
        · intro x hx
          rcases List.mem_cons.1 hx with rfl | hx
          · exact h3
          · exact ih.2 x hx
      · rw [goL_wait (b := b) (by omega)]
        exact ⟨by simp [encL], fun x hx => by cases hx⟩
theorem goL_lost (b : List UInt8) : (goL b).lost ≤ b.length := by have := (goL_all _ b (Nat.le_refl _)).1; omega
theorem goL_left (b : List UInt8) : (goL b).left.length ≤ b.length := by have := (goL_all _ b (Nat.le_refl _)).1; omega

/-- There and back. -/
theorem goL_enc : ∀ (l : List (List UInt8)), (∀ x ∈ l, x.length ≤ 65536) → goL (encL l) = ⟨l, 0, []⟩
  | [], _ => goL_wait step_nil
  | b :: r, h => by
    rw [encL, goL_frame _ (h b List.mem_cons_self), goL_enc r (fun x hx => h x (List.mem_cons_of_mem _ hx))]
theorem goL_none : ∀ (a b : List UInt8), (∀ c ∈ a, c ≠ 67) → goL (a ++ b) = ⟨(goL b).out, a.length + (goL b).lost, (goL b).left⟩
  | [], b, _ => by simp
  | x :: a, b, h => by
    have hx : x ≠ 67 := h x List.mem_cons_self
    have h0 : step (x :: (a ++ b)) = 0 := by
      refine step_zero.2 ?_
      have hf : fitL (x :: (a ++ b)) hb = 0 := by
        unfold hb
        rw [fitL, if_neg hx]
      unfold readL
      rw [if_neg (by omega), hf]
    rw [List.cons_append, goL_pass h0]
    have ih := goL_none a b (fun c hc => h c (List.mem_cons_of_mem _ hc))
    simp only [List.drop_succ_cons, List.drop_zero, ih, List.length_cons, Told.mk.injEq, true_and, and_true]
    omega
end Go.Proofs.YtojdginbaaoidaaDoor.F

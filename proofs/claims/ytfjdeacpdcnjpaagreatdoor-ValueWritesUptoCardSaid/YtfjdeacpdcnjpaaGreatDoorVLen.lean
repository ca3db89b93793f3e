/- What is left of a text is no longer than the text. -/
import Derived.Test.YtfjdeacpdcnjpaaGreatDoorVRead6
namespace Go.Proofs.YtfjdeacpdcnjpaaGreatDoor.V
open Go.Lib

theorem skip_len (l : List UInt8) : (skip l).length ≤ l.length := (List.dropWhile_suffix _).length_le
theorem number_len {l r : List UInt8} {n : Int} (h : number l = some (n, r)) : r.length ≤ l.length := by
  unfold number at h
  split at h
  · split at h
    · simp only [Option.some.injEq, Prod.mk.injEq] at h
      obtain ⟨_, rfl⟩ := h
      exact (List.dropWhile_suffix _).length_le
    · cases h
  · cases h
theorem quoted_len : ∀ (f : Nat) (l acc t r : List UInt8), quoted f l acc = some (t, r) → r.length < l.length
  | 0, _, _, _, _, h => by cases h
  | _ + 1, [], _, _, _, h => by cases h
  | f + 1, c :: l, acc, t, r, h => by
    by_cases h1 : c = 34
    · rw [quoted_end h1] at h
      simp only [Option.some.injEq, Prod.mk.injEq] at h
      obtain ⟨_, rfl⟩ := h; simp
    · by_cases h2 : c < 32
      · rw [quoted_low h1 h2] at h; cases h
      · by_cases h3 : c = 92
        · cases he : escape l with
          | none => rw [quoted_wrong h1 h2 h3 he] at h; cases h
          | some p =>
            obtain ⟨x, l'⟩ := p
            rw [quoted_esc h1 h2 h3 he] at h
            have := quoted_len f l' _ t r h
            have := escape_len he
            simp; omega
        · rw [quoted_byte h1 h2 h3] at h
          have := quoted_len f l _ t r h
          simp; omega
theorem quoted_tlen : ∀ (f : Nat) (l acc t r : List UInt8), quoted f l acc = some (t, r) → t.length ≤ acc.length + 4 * l.length
  | 0, _, _, _, _, h => by cases h
  | _ + 1, [], _, _, _, h => by cases h
  | f + 1, c :: l, acc, t, r, h => by
    by_cases h1 : c = 34
    · rw [quoted_end h1] at h
      simp only [Option.some.injEq, Prod.mk.injEq] at h
      obtain ⟨rfl, _⟩ := h; omega
    · by_cases h2 : c < 32
      · rw [quoted_low h1 h2] at h; cases h
      · by_cases h3 : c = 92
        · cases he : escape l with
          | none => rw [quoted_wrong h1 h2 h3 he] at h; cases h
          | some p =>
            obtain ⟨x, l'⟩ := p
            rw [quoted_esc h1 h2 h3 he] at h
            have hq := quoted_tlen f l' _ t r h
            have := escape_len he
            have h4 := (Lib.runeCells_le x).2
            rw [Lib.runeCells_length] at h4
            rw [List.length_append] at hq
            simp; omega
        · rw [quoted_byte h1 h2 h3] at h
          have := quoted_tlen f l _ t r h
          simp at this ⊢; omega
theorem key_tlen {l k r : List UInt8} (h : key l = some (k, r)) : k.length ≤ 4 * l.length := by
  have hs := skip_len l
  unfold key at h
  split at h
  · rename_i r0 h0
    rw [h0] at hs
    cases hq : quotedA r0 with
    | none => rw [hq] at h; cases h
    | some p =>
      obtain ⟨k', r1⟩ := p
      rw [hq] at h
      have h1 := quoted_tlen _ _ _ _ _ hq
      simp only at h
      split at h
      · simp only [Option.some.injEq, Prod.mk.injEq] at h
        obtain ⟨rfl, _⟩ := h
        simp at h1 hs; omega
      · cases h
  · cases h
theorem quotedA_len {l t r : List UInt8} (h : quotedA l = some (t, r)) : r.length < l.length := quoted_len _ _ _ _ _ h
theorem key_len {l k r : List UInt8} (h : key l = some (k, r)) : r.length < l.length := by
  have hs := skip_len l
  unfold key at h
  split at h
  · rename_i r0 h0
    rw [h0] at hs
    cases hq : quotedA r0 with
    | none => rw [hq] at h; cases h
    | some p =>
      obtain ⟨k', r1⟩ := p
      rw [hq] at h
      have h1 := quotedA_len hq
      have h2 := skip_len r1
      simp only at h
      split at h
      · rename_i r2 h3
        rw [h3] at h2
        simp only [Option.some.injEq, Prod.mk.injEq] at h
        obtain ⟨_, rfl⟩ := h
        simp at h2 hs; omega
      · cases h
  · cases h
theorem plain_len {l r : List UInt8} {v : Val} (h : plain l = some (v, r)) : r.length ≤ l.length := by
  unfold plain at h
  split at h
  · simp only [Option.some.injEq, Prod.mk.injEq] at h
    obtain ⟨_, rfl⟩ := h; simp
  · split at h
    · simp only [Option.some.injEq, Prod.mk.injEq] at h
      obtain ⟨_, rfl⟩ := h; simp
    · split at h
      · simp only [Option.some.injEq, Prod.mk.injEq] at h
        obtain ⟨_, rfl⟩ := h; simp
      · split at h
        · simp only [Option.map_eq_some_iff, Prod.mk.injEq] at h
          obtain ⟨p, h1, _, rfl⟩ := h
          have := quotedA_len h1; simp; omega
        · simp only [Option.map_eq_some_iff, Prod.mk.injEq] at h
          obtain ⟨p, h1, _, rfl⟩ := h
          exact number_len h1

mutual
theorem value_len : ∀ (f o : Nat) (l : List UInt8) (v : Val) (r : List UInt8), value f o l = .ok v r → r.length ≤ l.length
  | 0, _, _, _, _, h => by cases h
  | f + 1, o, l, v, r, h => by
    have hs := skip_len l
    unfold value at h
    split at h
    · rename_i r0 h0
      rw [h0] at hs
      split at h
      · cases h
      · have h2 := skip_len r0
        split at h
        · rename_i r1 h1
          rw [h1] at h2
          simp only [Res.ok.injEq] at h
          obtain ⟨_, rfl⟩ := h
          have := skip_len r1
          simp at hs h2; omega
        · split at h
          · rename_i vs r1 h1
            simp only [Res.ok.injEq] at h
            obtain ⟨_, rfl⟩ := h
            have := items_len f _ _ _ _ _ h1
            have := skip_len r1
            simp at hs; omega
          · cases h
          · cases h
    · rename_i r0 h0
      rw [h0] at hs
      split at h
      · cases h
      · have h2 := skip_len r0
        split at h
        · rename_i r1 h1
          rw [h1] at h2
          simp only [Res.ok.injEq] at h
          obtain ⟨_, rfl⟩ := h
          have := skip_len r1
          simp at hs h2; omega
        · split at h
          · rename_i vs r1 h1
            simp only [Res.ok.injEq] at h
            obtain ⟨_, rfl⟩ := h
            have := fields_len f _ _ _ _ _ _ h1
            have := skip_len r1
            simp at hs; omega
          · cases h
          · cases h
    · split at h
      · rename_i v' r1 h1
        simp only [Res.ok.injEq] at h
        obtain ⟨_, rfl⟩ := h
        have := plain_len h1
        have := skip_len r1
        omega
      · cases h
theorem items_len : ∀ (f o : Nat) (l : List UInt8) (acc vs : List Val) (r : List UInt8), items f o l acc = .ok vs r → r.length ≤ l.length
  | 0, _, _, _, _, _, h => by cases h
  | f + 1, o, l, acc, vs, r, h => by
    unfold items at h
    split at h
    · cases h
    · cases h
    · rename_i v r0 h0
      have h1 := value_len f o l v r0 h0
      split at h
      · simp only [Res.ok.injEq] at h
        obtain ⟨_, rfl⟩ := h
        simp at h1; omega
      · have := items_len f o _ _ _ _ h
        simp at h1; omega
      · cases h
theorem fields_len : ∀ (f o : Nat) (l : List UInt8) (ks : List (List UInt8)) (vs : List Val) (p : List (List UInt8) × List Val) (r : List UInt8), fields f o l ks vs = .ok p r → r.length ≤ l.length
  | 0, _, _, _, _, _, _, h => by cases h
  | f + 1, o, l, ks, vs, p, r, h => by
    unfold fields at h
    split at h
    · cases h
    · rename_i k r0 h0
      have hk := key_len h0
      split at h
      · cases h
      · split at h
        · cases h
        · cases h
        · rename_i v r1 h2
          have h1 := value_len f o r0 v r1 h2
          split at h
          · simp only [Res.ok.injEq] at h
            obtain ⟨_, rfl⟩ := h
            simp at h1; omega
          · have := fields_len f o _ _ _ _ _ h
            simp at h1; omega
          · cases h
end
end Go.Proofs.YtfjdeacpdcnjpaaGreatDoor.V

/- Plain facts about lists and records that are nested one in another: their text, how deep they are, and that a deeper text is read as too deep. -/
import Derived.Test.YtfjdeacpdcnjpaaDoorVBits
namespace Go.Proofs.YtfjdeacpdcnjpaaDoor.V
open Go.Lib

/-- The outermost first; true: a record. -/
def chainV : List Bool → Val
  | [] => .mk 0 false 0 [] [] []
  | b :: bs => if b then .mk 5 false 0 [] [chainV bs] [[107]] else .mk 4 false 0 [] [chainV bs] []
def chainT : List Bool → List UInt8
  | [] => [110, 117, 108, 108]
  | b :: bs => if b then [123, 34, 107, 34, 58] ++ chainT bs ++ [125] else [91] ++ chainT bs ++ [93]

theorem quote_k : quoteT [107] = [34, 107, 34] := by decide +kernel
theorem chain_write : ∀ bs : List Bool, write (chainV bs) = chainT bs
  | [] => by simp [chainV, chainT, write]
  | true :: bs => by
    have ih := chain_write bs
    simp [chainV, chainT, write, writeR, writeR1, ih, quote_k]
  | false :: bs => by
    have ih := chain_write bs
    simp [chainV, chainT, write, writeL, writeL1, ih]
theorem ok_k : okP [107] = true := by decide +kernel
theorem keys_k : keysP [[107]] [] = true := by decide +kernel
theorem chain_right : ∀ bs : List Bool, rightP (chainV bs) = true
  | [] => by decide +kernel
  | true :: bs => by
    have ih := chain_right bs
    simp [chainV, rightP, rightPs, elseP, ih, keys_k]
  | false :: bs => by
    have ih := chain_right bs
    simp [chainV, rightP, rightPs, elseP, ih]
theorem chain_nest : ∀ (bs : List Bool) (m : Nat), nestP (chainV bs) m = decide (bs.length ≤ m)
  | [], 0 => by decide +kernel
  | [], m + 1 => by simp [chainV, nestP, nestL]
  | true :: bs, 0 => by simp [chainV, nestP]
  | false :: bs, 0 => by simp [chainV, nestP]
  | true :: bs, m + 1 => by
    have ih := chain_nest bs m
    simp [chainV, nestP, nestL, ih]
  | false :: bs, m + 1 => by
    have ih := chain_nest bs m
    simp [chainV, nestP, nestL, ih]
theorem chain_top (bs : List Bool) : rightTop (chainV bs) = decide (bs.length ≤ 20) := by
  unfold rightTop
  rw [chain_nest, chain_right, Bool.and_true]
theorem chain_wt : ∀ bs : List Bool, wt (chainV bs) ≤ 3 * bs.length + 1
  | [] => by simp [chainV, wt, wtL]
  | true :: bs => by
    have ih := chain_wt bs
    simp [chainV, wt, wtL]; omega
  | false :: bs => by
    have ih := chain_wt bs
    simp [chainV, wt, wtL]; omega
theorem chainT_length : ∀ bs : List Bool, (chainT bs).length ≤ 6 * bs.length + 4
  | [] => by simp [chainT]
  | true :: bs => by
    have ih := chainT_length bs
    simp [chainT]; omega
  | false :: bs => by
    have ih := chainT_length bs
    simp [chainT]; omega
theorem chainT_ge : ∀ bs : List Bool, bs.length ≤ (chainT bs).length
  | [] => by simp
  | true :: bs => by
    have ih := chainT_ge bs
    simp [chainT]; omega
  | false :: bs => by
    have ih := chainT_ge bs
    simp [chainT]; omega
theorem chain_first : ∀ bs : List Bool, ∃ c t, chainT bs = c :: t ∧ blank c = false ∧ c ≠ 93 ∧ c ≠ 125
  | [] => ⟨110, _, rfl, by decide, by decide, by decide⟩
  | true :: bs => ⟨123, _, rfl, by decide, by decide, by decide⟩
  | false :: bs => ⟨91, _, rfl, by decide, by decide, by decide⟩

theorem key_k (r : List UInt8) : key (34 :: 107 :: 34 :: 58 :: r) = some ([107], r) := by
  have h1 : skip (34 :: 107 :: 34 :: 58 :: r) = 34 :: 107 :: 34 :: 58 :: r := skip_at (by decide)
  have h2 : quotedA (107 :: 34 :: 58 :: r) = some ([107], 58 :: r) := by
    unfold quotedA
    simp [quoted]
  have h3 : skip (58 :: r) = 58 :: r := skip_at (by decide)
  unfold key
  rw [h1]
  simp only [h2, h3]
theorem chain_deep : ∀ (bs : List Bool) (f d : Nat) (r : List UInt8), d ≤ 20 → 20 < d + bs.length → 2 * bs.length + 1 ≤ f → value f d (chainT bs ++ r) = .deep
  | [], f, d, r, hd, hl, _ => by simp at hl; omega
  | true :: bs, f, d, r, hd, hl, hf => by
    obtain ⟨g, rfl⟩ : ∃ g, f = g + 1 := ⟨f - 1, by simp at hf; omega⟩
    have e : chainT (true :: bs) ++ r = 123 :: 34 :: 107 :: 34 :: 58 :: (chainT bs ++ (125 :: r)) := by simp [chainT]
    rw [e, value, skip_at (by decide)]
    simp only
    by_cases h20 : d = 20
    · rw [if_pos h20]
    · rw [if_neg h20, skip_at (by decide)]
      simp only [List.length_cons] at hl hf
      obtain ⟨k, rfl⟩ : ∃ k, g = k + 1 := ⟨g - 1, by omega⟩
      have ih := chain_deep bs k (d + 1) (125 :: r) (by omega) (by omega) (by omega)
      have hfi : fields (k + 1) (d + 1) (34 :: 107 :: 34 :: 58 :: (chainT bs ++ (125 :: r))) [] [] = .deep := by
        rw [fields, key_k]
        simp only [List.not_mem_nil, if_false, ih]
      split
      · rename_i heq; exact absurd (List.cons.inj heq).1 (by decide)
      · rw [hfi]
  | false :: bs, f, d, r, hd, hl, hf => by
    obtain ⟨g, rfl⟩ : ∃ g, f = g + 1 := ⟨f - 1, by simp at hf; omega⟩
    have e : chainT (false :: bs) ++ r = 91 :: (chainT bs ++ (93 :: r)) := by simp [chainT]
    rw [e, value, skip_at (by decide)]
    simp only
    by_cases h20 : d = 20
    · rw [if_pos h20]
    · obtain ⟨c, t, hc, hb, h93, _⟩ := chain_first bs
      have hsk : skip (chainT bs ++ (93 :: r)) = chainT bs ++ (93 :: r) := by rw [hc]; exact skip_at hb
      rw [if_neg h20, hsk]
      simp only [List.length_cons] at hl hf
      obtain ⟨k, rfl⟩ : ∃ k, g = k + 1 := ⟨g - 1, by omega⟩
      have ih := chain_deep bs k (d + 1) (93 :: r) (by omega) (by omega) (by omega)
      have hit : items (k + 1) (d + 1) (chainT bs ++ (93 :: r)) [] = .deep := by
        rw [items, ih]
      have hne : ∀ r', chainT bs ++ (93 :: r) ≠ 93 :: r' := by
        intro r' h
        rw [hc] at h
        injection h with h _
        exact h93 h
      split
      · rename_i heq; exact absurd heq (hne _)
      · rw [hit]
theorem chain_ok (bs : List Bool) : U.okB ⟨(chainT bs).toArray⟩ = true := by
  rw [← U.valid_ok, ← chain_write]
  exact valid_write _ (chain_right bs)
theorem chain_readB (bs : List Bool) : readB ⟨(chainT bs).toArray⟩ = if bs.length ≤ 20 then .ok (chainV bs) else .error 22 := by
  by_cases h : bs.length ≤ 20
  · rw [if_pos h, ← chain_write]
    exact readB_write _ (by rw [chain_top]; exact decide_eq_true h)
  · rw [if_neg h]
    unfold readB
    rw [if_pos (chain_ok bs)]
    unfold readP
    have h1 := chainT_ge bs
    have h2 := chain_deep bs (2 * (chainT bs).length + 1) 0 [] (by omega) (by omega) (by omega)
    rw [List.append_nil] at h2
    simp only [h2]
end Go.Proofs.YtfjdeacpdcnjpaaDoor.V

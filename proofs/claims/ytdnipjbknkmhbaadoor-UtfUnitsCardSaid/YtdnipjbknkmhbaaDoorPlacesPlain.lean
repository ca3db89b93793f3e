/- Plain facts on the places of a text's scalars as two lists (bytes, and units, ahead of each, and at the end): what is found in them is what the calls answer. It imports nothing of the program. -/
import Derived.Test.YtdnipjbknkmhbaaDoorRefPlain
namespace Go.Proofs.YtdnipjbknkmhbaaDoor.U
open Go.Lib

def posL : List (Nat × Nat) → Nat → List Nat
  | [], p => [p]
  | x :: t, p => p :: posL t (p + x.2)
def unL : List (Nat × Nat) → Nat → List Nat
  | [], a => [a]
  | x :: t, a => a :: unL t (a + uw x.1)
theorem posL_length : ∀ (l : List (Nat × Nat)) (p : Nat), (posL l p).length = l.length + 1
  | [], _ => rfl
  | x :: t, p => by simp only [posL, List.length_cons, posL_length t]
theorem unL_length : ∀ (l : List (Nat × Nat)) (a : Nat), (unL l a).length = l.length + 1
  | [], _ => rfl
  | x :: t, a => by simp only [unL, List.length_cons, unL_length t]
theorem posL_snoc : ∀ (l : List (Nat × Nat)) (p : Nat) (y : Nat × Nat), posL (l ++ [y]) p = posL l p ++ [p + sumW l + y.2]
  | [], p, y => by simp [posL, sumW]
  | x :: t, p, y => by
    simp only [List.cons_append, posL, sumW, posL_snoc t]
    rw [Nat.add_assoc p x.2 (sumW t)]
theorem unL_snoc : ∀ (l : List (Nat × Nat)) (a : Nat) (y : Nat × Nat), unL (l ++ [y]) a = unL l a ++ [a + sumU l + uw y.1]
  | [], a, y => by simp [unL, sumU]
  | x :: t, a, y => by
    simp only [List.cons_append, unL, sumU, unL_snoc t]
    rw [Nat.add_assoc a (uw x.1) (sumU t)]
theorem unL_last : ∀ (l : List (Nat × Nat)) (a : Nat), (unL l a).getD l.length 0 = a + sumU l
  | [], a => by simp [unL, sumU]
  | x :: t, a => by
    simp only [unL, sumU, List.length_cons, List.getD_cons_succ, unL_last t]
    omega
theorem length_le : ∀ l : List (Nat × Nat), Wide l → l.length ≤ sumW l
  | [], _ => Nat.le_refl _
  | x :: t, h => by
    have h1 := h x (by simp)
    have h2 := length_le t (fun y hy => h y (by simp [hy]))
    simp only [List.length_cons, sumW]; omega

/-- Where a number stands in a list; -1: nowhere. -/
def fnd : List Nat → Int → Nat → Int
  | [], _, _ => -1
  | a :: t, x, i => if (a : Int) = x then i else fnd t x (i + 1)
theorem fnd_range : ∀ (l : List Nat) (x : Int) (i : Nat), fnd l x i = -1 ∨ ((i : Int) ≤ fnd l x i ∧ fnd l x i < ((i + l.length : Nat) : Int))
  | [], _, _ => .inl rfl
  | a :: t, x, i => by
    simp only [fnd]
    split
    · exact .inr ⟨Int.le_refl _, by simp only [List.length_cons]; omega⟩
    · rcases fnd_range t x (i + 1) with h | h
      · exact .inl h
      · exact .inr ⟨by omega, by simp only [List.length_cons]; omega⟩
theorem off_fnd : ∀ (l : List (Nat × Nat)) (pos ahead i : Nat) (unit : Int),
    (fnd (unL l ahead) unit i = -1 ∧ off l pos ahead unit = (0, 12)) ∨ (∃ k : Nat, fnd (unL l ahead) unit i = ((i + k : Nat) : Int) ∧ off l pos ahead unit = ((((posL l pos).getD k 0 : Nat) : Int), 0))
  | [], pos, ahead, i, unit => by
    simp only [unL, fnd, off, posL]
    by_cases h : (ahead : Int) = unit
    · rw [if_pos h, if_pos h]; exact .inr ⟨0, rfl, rfl⟩
    · rw [if_neg h, if_neg h]; exact .inl ⟨rfl, rfl⟩
  | x :: t, pos, ahead, i, unit => by
    simp only [unL, fnd, off, posL]
    by_cases h : (ahead : Int) = unit
    · rw [if_pos h, if_pos h]; exact .inr ⟨0, rfl, rfl⟩
    · rw [if_neg h, if_neg h]
      rcases off_fnd t (pos + x.2) (ahead + uw x.1) (i + 1) unit with h1 | ⟨k, h1, h2⟩
      · exact .inl h1
      · exact .inr ⟨k + 1, by rw [h1]; omega, by rw [h2, List.getD_cons_succ]⟩
theorem uni_fnd : ∀ (l : List (Nat × Nat)) (pos ahead i : Nat) (a : Int),
    (fnd (posL l pos) a i = -1 ∧ uni l pos ahead a = (0, 12)) ∨ (∃ k : Nat, fnd (posL l pos) a i = ((i + k : Nat) : Int) ∧ uni l pos ahead a = ((((unL l ahead).getD k 0 : Nat) : Int), 0))
  | [], pos, ahead, i, a => by
    simp only [unL, fnd, uni, posL]
    by_cases h : (pos : Int) = a
    · rw [if_pos h, if_pos h]; exact .inr ⟨0, rfl, rfl⟩
    · rw [if_neg h, if_neg h]; exact .inl ⟨rfl, rfl⟩
  | x :: t, pos, ahead, i, a => by
    simp only [unL, fnd, uni, posL]
    by_cases h : (pos : Int) = a
    · rw [if_pos h, if_pos h]; exact .inr ⟨0, rfl, rfl⟩
    · rw [if_neg h, if_neg h]
      rcases uni_fnd t (pos + x.2) (ahead + uw x.1) (i + 1) a with h1 | ⟨k, h1, h2⟩
      · exact .inl h1
      · exact .inr ⟨k + 1, by rw [h1]; omega, by rw [h2, List.getD_cons_succ]⟩
/-- The last of the places that are not beyond. -/
def foldE : List Nat → Int → Nat → Nat
  | [], _, e => e
  | b :: t, most, e => foldE t most (if (b : Int) ≤ most then b else e)
theorem foldE_low : ∀ (l : List (Nat × Nat)) (pos e : Nat) (most : Int), Wide l → most < (pos : Int) → foldE (posL l pos) most e = e
  | [], pos, e, most, _, h => by simp only [posL, foldE]; rw [if_neg (by omega)]
  | x :: t, pos, e, most, hw, h => by
    simp only [posL, foldE]; rw [if_neg (by omega)]
    exact foldE_low t _ e most (fun y hy => hw y (by simp [hy])) (by omega)
theorem foldE_cut : ∀ (l : List (Nat × Nat)) (pos e : Nat) (most : Int), Wide l → foldE (posL l pos) most e = if ((pos + sumW l : Nat) : Int) ≤ most then pos + sumW l else cutE l pos most e
  | [], pos, e, most, _ => by
    simp only [posL, foldE, sumW, cutE, Nat.add_zero]
    rfl
  | x :: t, pos, e, most, hw => by
    have hx := hw x (by simp)
    have hwt : Wide t := fun y hy => hw y (by simp [hy])
    by_cases h : most < (pos : Int)
    · rw [foldE_low (x :: t) pos e most hw h, if_neg (by omega)]
      simp only [cutE]; rw [if_pos h]
    · simp only [posL, foldE, sumW, cutE]
      rw [if_pos (by omega), if_neg h, foldE_cut t _ pos most hwt]
      have e1 : pos + x.2 + sumW t = pos + (x.2 + sumW t) := by omega
      rw [e1]
      rfl
theorem cutB_fold (s : ByteArray) (most : Int) (hok : okB s = true) : cutB s most = s.extract 0 (foldE (posL (items s) 0) most 0) := by
  unfold cutB
  rw [if_pos hok, foldE_cut (items s) 0 0 most (itemsF_wide s _ _), sumW_items, Nat.zero_add]
  by_cases h : (s.size : Int) ≤ most
  · rw [if_pos h, if_pos h]; simp
  · rw [if_neg h, if_neg h]

/-- The lists within bounds. -/
theorem posL_le : ∀ (l : List (Nat × Nat)) (p : Nat), ∀ x ∈ posL l p, x ≤ p + sumW l
  | [], p, x, h => by simp only [posL, List.mem_singleton] at h; subst h; simp [sumW]
  | y :: t, p, x, h => by
    simp only [posL, List.mem_cons] at h
    simp only [sumW]
    rcases h with rfl | h
    · omega
    · have := posL_le t _ x h; omega
theorem unL_le : ∀ (l : List (Nat × Nat)) (p : Nat), ∀ x ∈ unL l p, x ≤ p + sumU l
  | [], p, x, h => by simp only [unL, List.mem_singleton] at h; subst h; simp [sumU]
  | y :: t, p, x, h => by
    simp only [unL, List.mem_cons] at h
    simp only [sumU]
    rcases h with rfl | h
    · omega
    · have := unL_le t _ x h; omega
theorem getD_le (l : List Nat) (k B : Nat) (h : ∀ x ∈ l, x ≤ B) : l.getD k 0 ≤ B := by
  rw [List.getD_eq_getElem?_getD]
  by_cases hk : k < l.length
  · rw [List.getElem?_eq_getElem hk, Option.getD_some]; exact h _ (List.getElem_mem hk)
  · rw [List.getElem?_eq_none (by omega), Option.getD_none]; omega

/-- The first scalar of what is left of a text. -/
theorem scal_at (s : ByteArray) (pos : Nat) : scal (s.extract pos s.size) = if (Utf8.decode s pos).1 = 65533 ∧ (Utf8.decode s pos).2 = 1 then (0, 0) else Utf8.decode s pos := by
  have h := tail_decode s pos 0
  rw [Nat.add_zero] at h
  unfold scal
  rw [h]
theorem okL_bad (s : ByteArray) (f pos : Nat) (h : pos < s.size) (hb : (Utf8.decode s pos).1 = 65533 ∧ (Utf8.decode s pos).2 = 1) : okL (itemsF s (f + 1) pos) = false := by
  rw [itemsF_step s f pos h]; simp only [okL]; rw [if_pos hb]
theorem okL_on (s : ByteArray) (f pos : Nat) (h : pos < s.size) (hb : ¬ ((Utf8.decode s pos).1 = 65533 ∧ (Utf8.decode s pos).2 = 1)) : okL (itemsF s (f + 1) pos) = okL (itemsF s f (pos + (Utf8.decode s pos).2)) := by
  rw [itemsF_step s f pos h]; simp only [okL]; rw [if_neg hb]
theorem okL_done (s : ByteArray) (f pos : Nat) (h : ¬ pos < s.size) : okL (itemsF s f pos) = true := by rw [itemsF_end s f pos h]; rfl
/-- What has been gone through, and what is left. -/
def Split (s : ByteArray) (l : List (Nat × Nat)) (f pos : Nat) : Prop := items s = l ++ itemsF s f pos ∧ sumW l = pos ∧ s.size - pos ≤ f ∧ pos ≤ s.size
theorem split_zero (s : ByteArray) : Split s [] s.size 0 := ⟨rfl, rfl, by omega, by omega⟩
theorem split_step {s : ByteArray} {l : List (Nat × Nat)} {f pos : Nat} (h : Split s l (f + 1) pos) (hp : pos < s.size) : Split s (l ++ [Utf8.decode s pos]) f (pos + (Utf8.decode s pos).2) := by
  obtain ⟨h1, h2, h3, h4⟩ := h
  have hw := width_pos s pos hp
  refine ⟨?_, ?_, by omega, width_le s pos hp⟩
  · rw [h1, itemsF_step s f pos hp]; simp
  · rw [sumW_append, h2]; rfl
theorem split_done {s : ByteArray} {l : List (Nat × Nat)} {f pos : Nat} (h : Split s l f pos) (hp : ¬ pos < s.size) : l = items s := by
  obtain ⟨h1, h2, h3, h4⟩ := h
  rw [h1, itemsF_end s f pos hp, List.append_nil]
end Go.Proofs.YtdnipjbknkmhbaaDoor.U

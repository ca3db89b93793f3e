/- Plain facts about lines: where a text's bytes 10 stand, its lines, where each begins and ends, the offset of a place, the place of an offset, and what texts have that stand one behind the other. It imports nothing of the program. -/
import Derived.Test.YtapjomdplibanaaDoorPlain
namespace Go.Proofs.YtapjomdplibanaaDoor.L
open Go.Lib Go.Proofs.YtapjomdplibanaaDoor.U

/-! ### Places of units, the other way round -/
theorem uni_there : ∀ (l : List (Nat × Nat)) (pos ahead : Nat) (a u : Int), Wide l → uni l pos ahead a = (u, 0) →
    (pos : Int) ≤ a ∧ a ≤ ((pos + sumW l : Nat) : Int) ∧ (ahead : Int) ≤ u ∧ u ≤ ((ahead + sumU l : Nat) : Int) ∧ off l pos ahead u = (a, 0)
  | [], pos, ahead, a, u, _, h => by
    simp only [off, sumW, sumU, uni] at *
    split at h
    · rename_i hu
      simp only [Prod.mk.injEq, and_true] at h
      subst hu; subst h
      refine ⟨by omega, by omega, by omega, by omega, by simp⟩
    · simp at h
  | x :: t, pos, ahead, a, u, hw, h => by
    have hx := hw x (by simp)
    have hux := uw_pos x.1
    simp only [uni] at h
    split at h
    · rename_i hu
      simp only [Prod.mk.injEq, and_true] at h
      subst hu; subst h
      simp only [sumW, sumU, off]
      refine ⟨by omega, by omega, by omega, by omega, by simp⟩
    · rename_i hu
      obtain ⟨h1, h2, h3, h4, h5⟩ := uni_there t _ _ a u (fun y hy => hw y (by simp [hy])) h
      simp only [sumW, sumU, off]
      refine ⟨by omega, by omega, by omega, by omega, ?_⟩
      rw [if_neg (by omega)]; exact h5
theorem uni_less : ∀ (l : List (Nat × Nat)) (pos ahead : Nat) (a b u v : Int), Wide l → uni l pos ahead a = (u, 0) → uni l pos ahead b = (v, 0) → a < b → u < v
  | [], pos, ahead, a, b, u, v, _, h, k, hl => by
    simp only [uni] at h k
    split at h
    · split at k
      · omega
      · simp at k
    · simp at h
  | x :: t, pos, ahead, a, b, u, v, hw, h, k, hl => by
    have hx := hw x (by simp)
    have hux := uw_pos x.1
    simp only [uni] at h k
    split at k
    · rename_i hb
      split at h
      · omega
      · have := (uni_there t _ _ a u (fun y hy => hw y (by simp [hy])) h).1
        omega
    · split at h
      · simp only [Prod.mk.injEq, and_true] at h
        have := (uni_there t _ _ b v (fun y hy => hw y (by simp [hy])) k).2.2.1
        omega
      · exact uni_less t _ _ a b u v (fun y hy => hw y (by simp [hy])) h k hl
theorem uni_or : ∀ (l : List (Nat × Nat)) (pos ahead : Nat) (a : Int), (uni l pos ahead a = (0, 12)) ∨ ∃ u, uni l pos ahead a = (u, 0)
  | [], pos, ahead, a => by
    simp only [uni]; split
    · exact .inr ⟨_, rfl⟩
    · exact .inl rfl
  | x :: t, pos, ahead, a => by
    simp only [uni]; split
    · exact .inr ⟨_, rfl⟩
    · exact uni_or t _ _ a
/-- Of a text a unit's place, and the units ahead of a place, say the same. -/
theorem uniB_there (s : ByteArray) (a u : Int) (h : uniB s a = (u, 0)) : 0 ≤ a ∧ a ≤ s.size ∧ 0 ≤ u ∧ u ≤ 2 * (s.size : Int) ∧ offB s u = (a, 0) := by
  unfold uniB at h
  split at h
  · rename_i hok
    obtain ⟨h1, h2, h3, h4, h5⟩ := uni_there (items s) 0 0 a u (itemsF_wide s _ _) h
    rw [sumW_items] at h2
    have := sumU_items s
    refine ⟨by omega, by omega, by omega, by omega, ?_⟩
    unfold offB; rw [if_pos hok]; exact h5
  · simp at h
theorem uniB_less (s : ByteArray) (a b u v : Int) (h : uniB s a = (u, 0)) (k : uniB s b = (v, 0)) (hl : a < b) : u < v := by
  unfold uniB at h k
  split at h
  · rename_i hok
    rw [if_pos hok] at k
    exact uni_less (items s) 0 0 a b u v (itemsF_wide s _ _) h k hl
  · simp at h
theorem offB_there (s : ByteArray) (u a : Int) (h : offB s u = (a, 0)) : 0 ≤ a ∧ a ≤ s.size := by
  unfold offB at h
  split at h
  · obtain ⟨h1, h2, _⟩ := off_there (items s) 0 0 u a (itemsF_wide s _ _) h
    rw [sumW_items] at h2
    exact ⟨by omega, by omega⟩
  · simp at h
/-- What is answered of a unit's place: nothing and a reason, or the place. -/
theorem offB_or (s : ByteArray) (u : Int) : (∃ a : Nat, offB s u = ((a : Int), 0) ∧ a ≤ s.size) ∨ offB s u = (0, 12) ∨ offB s u = (0, 11) := by
  unfold offB
  split
  · rcases off_or (items s) 0 0 u with h | ⟨a, h⟩
    · exact .inr (.inl h)
    · obtain ⟨h1, h2, _⟩ := off_there (items s) 0 0 u a (itemsF_wide s _ _) h
      rw [sumW_items] at h2
      exact .inl ⟨a.toNat, by rw [h]; congr 1; omega, by omega⟩
  · exact .inr (.inr rfl)
theorem uniB_or (s : ByteArray) (a : Int) : (∃ u : Nat, uniB s a = ((u : Int), 0) ∧ u ≤ 2 * s.size ∧ 0 ≤ a ∧ a ≤ s.size) ∨ uniB s a = (0, 12) ∨ uniB s a = (0, 11) := by
  by_cases hok : okB s = true
  · rcases uni_or (items s) 0 0 a with h | ⟨u, h⟩
    · refine .inr (.inl ?_); unfold uniB; rw [if_pos hok]; exact h
    · have h' : uniB s a = (u, 0) := by unfold uniB; rw [if_pos hok]; exact h
      obtain ⟨h1, h2, h3, h4, _⟩ := uniB_there s a u h'
      exact .inl ⟨u.toNat, by rw [h']; congr 1; omega, by omega, h1, h2⟩
  · refine .inr (.inr ?_); unfold uniB; rw [if_neg hok]

/-! ### Ends and lines -/
def nlAt (s : ByteArray) (i : Nat) : Bool := (s.get! i).toNat == 10
/-- Where the bytes 10 stand of the first i. -/
def endsTo (s : ByteArray) (i : Nat) : List Nat := (List.range i).filter (nlAt s)
def ends (s : ByteArray) : List Nat := endsTo s s.size
theorem endsTo_zero (s : ByteArray) : endsTo s 0 = [] := rfl
theorem endsTo_hit (s : ByteArray) (i : Nat) (h : nlAt s i = true) : endsTo s (i + 1) = endsTo s i ++ [i] := by
  unfold endsTo; rw [List.range_succ, List.filter_append]; simp [h]
theorem endsTo_miss (s : ByteArray) (i : Nat) (h : nlAt s i = false) : endsTo s (i + 1) = endsTo s i := by
  unfold endsTo; rw [List.range_succ, List.filter_append]; simp [h]
theorem endsTo_len (s : ByteArray) (i : Nat) : (endsTo s i).length ≤ i := by
  unfold endsTo; have := List.length_filter_le (nlAt s) (List.range i); simpa using this
theorem endsTo_lt (s : ByteArray) (i x : Nat) (h : x ∈ endsTo s i) : x < i := by
  unfold endsTo at h; simp at h; exact h.1
theorem endsTo_rise (s : ByteArray) (i : Nat) : (endsTo s i).Pairwise (· < ·) := by
  unfold endsTo; exact (List.pairwise_lt_range).filter _

/-- Rising numbers below a bound. -/
structure Rise (E : List Nat) (n : Nat) : Prop where
  rise : E.Pairwise (· < ·)
  lt : ∀ x ∈ E, x < n
theorem rise_to (s : ByteArray) (i : Nat) : Rise (endsTo s i) i := ⟨endsTo_rise s i, endsTo_lt s i⟩
theorem rise_ends (s : ByteArray) : Rise (ends s) s.size := rise_to s s.size
theorem Rise.at_lt {E : List Nat} {n : Nat} (h : Rise E n) (i : Nat) (hi : i < E.length) : E.getD i 0 < n := by
  rw [List.getD_eq_getElem?_getD, List.getElem?_eq_getElem hi, Option.getD_some]; exact h.lt _ (List.getElem_mem hi)
theorem Rise.less {E : List Nat} {n : Nat} (h : Rise E n) (i j : Nat) (hij : i < j) (hj : j < E.length) : E.getD i 0 < E.getD j 0 := by
  rw [List.getD_eq_getElem?_getD, List.getElem?_eq_getElem (by omega), Option.getD_some, List.getD_eq_getElem?_getD, List.getElem?_eq_getElem hj, Option.getD_some]
  exact List.pairwise_iff_getElem.1 h.rise i j (by omega) hj hij
theorem Rise.count {E : List Nat} {n : Nat} (h : Rise E n) : E.length ≤ n := by
  have hk : ∀ k, k < E.length → k ≤ E.getD k 0 := by
    intro k
    induction k with
    | zero => intro _; omega
    | succ k ih => intro hk; have := ih (by omega); have := h.less k (k + 1) (by omega) hk; omega
  by_cases h0 : E.length = 0
  · omega
  · have := hk (E.length - 1) (by omega); have := h.at_lt (E.length - 1) (by omega); omega

/-- Where a line begins, and ends. -/
def nx (E : List Nat) (n : Nat) : Nat := if n = 0 then 0 else E.getD (n - 1) 0 + 1
def en (E : List Nat) (z n : Nat) : Nat := if n = E.length then z else E.getD n 0
theorem nx_zero (E : List Nat) : nx E 0 = 0 := rfl
theorem nx_succ (E : List Nat) (n : Nat) : nx E (n + 1) = E.getD n 0 + 1 := by unfold nx; rw [if_neg (by omega)]; rfl
theorem en_last (E : List Nat) (z : Nat) : en E z E.length = z := by unfold en; rw [if_pos rfl]
theorem en_at (E : List Nat) (z n : Nat) (h : n < E.length) : en E z n = E.getD n 0 := by unfold en; rw [if_neg (by omega)]
theorem nx_le_en {E : List Nat} {z : Nat} (h : Rise E z) (n : Nat) (hn : n ≤ E.length) : nx E n ≤ en E z n ∧ en E z n ≤ z := by
  rcases Nat.lt_or_ge n E.length with hlt | hge
  · rw [en_at E z n hlt]
    have h2 := h.at_lt n hlt
    rcases Nat.eq_zero_or_pos n with rfl | hp
    · rw [nx_zero]; omega
    · obtain ⟨m, rfl⟩ : ∃ m, n = m + 1 := ⟨n - 1, by omega⟩
      rw [nx_succ]; have := h.less m (m + 1) (by omega) hlt; omega
  · obtain rfl : n = E.length := by omega
    rw [en_last]
    rcases Nat.eq_zero_or_pos E.length with h0 | hp
    · rw [h0, nx_zero]; omega
    · obtain ⟨m, hm⟩ : ∃ m, E.length = m + 1 := ⟨E.length - 1, by omega⟩
      rw [hm, nx_succ]; have := h.at_lt m (by omega); omega
theorem nx_snoc (E : List Nat) (e n : Nat) (h : n ≤ E.length) : nx (E ++ [e]) n = nx E n := by
  unfold nx; split
  · rfl
  · rw [List.getD_eq_getElem?_getD, List.getElem?_append_left (by omega), ← List.getD_eq_getElem?_getD]
theorem getD_snoc (E : List Nat) (e n : Nat) (h : n < E.length) : (E ++ [e]).getD n 0 = E.getD n 0 := by
  rw [List.getD_eq_getElem?_getD, List.getElem?_append_left h, ← List.getD_eq_getElem?_getD]
theorem getD_last (E : List Nat) (e : Nat) : (E ++ [e]).getD E.length 0 = e := by simp

/-- The line of that number. -/
def ln (s : ByteArray) (n : Nat) : ByteArray := s.extract (nx (ends s) n) (en (ends s) s.size n)
theorem size_extract (s : ByteArray) (i j : Nat) (h : i ≤ j) (hj : j ≤ s.size) : (s.extract i j).size = j - i := by
  simp [ByteArray.size_extract]; omega
theorem ln_size (s : ByteArray) (n : Nat) (hn : n ≤ (ends s).length) : (ln s n).size = en (ends s) s.size n - nx (ends s) n := by
  obtain ⟨h1, h2⟩ := nx_le_en (rise_ends s) n hn
  exact size_extract s _ _ h1 h2
theorem ln_le (s : ByteArray) (n : Nat) (hn : n ≤ (ends s).length) : nx (ends s) n + (ln s n).size ≤ s.size := by
  obtain ⟨h1, h2⟩ := nx_le_en (rise_ends s) n hn
  rw [ln_size s n hn]; omega

/-- What is answered. -/
def lineL (s : ByteArray) (n : Int) : ByteArray × Int := if 0 ≤ n ∧ n ≤ ((ends s).length : Int) then (ln s n.toNat, 0) else (⟨#[]⟩, 51)
def offL (s : ByteArray) (l u : Int) : Int × Int :=
  if 0 ≤ l ∧ l ≤ ((ends s).length : Int) then (if (offB (ln s l.toNat) u).2 = 0 then ((nx (ends s) l.toNat : Int) + (offB (ln s l.toNat) u).1, 0) else (0, 51)) else (0, 51)
/-- How many lines end ahead of an offset. -/
def ahead (E : List Nat) (a : Int) : Nat := E.countP (fun e : Nat => decide ((e : Int) < a))
def placeL (s : ByteArray) (a : Int) : Int × Int × Int :=
  if (uniB (ln s (ahead (ends s) a)) (a - nx (ends s) (ahead (ends s) a))).2 = 0 then (ahead (ends s) a, (uniB (ln s (ahead (ends s) a)) (a - nx (ends s) (ahead (ends s) a))).1, 0) else (0, 0, 51)

theorem ahead_le (E : List Nat) (a : Int) : ahead E a ≤ E.length := List.countP_le_length
/-- The lines' ends ahead of an offset are the first ones. -/
theorem countP_first (p : Nat → Bool) : ∀ (E : List Nat), (∀ i j, i < j → j < E.length → p (E.getD j 0) = true → p (E.getD i 0) = true) → ∀ i, i < E.length → (i < E.countP p ↔ p (E.getD i 0) = true)
  | [], _, i, hi => by simp at hi
  | x :: t, h, i, hi => by
    have ht : ∀ i j, i < j → j < t.length → p (t.getD j 0) = true → p (t.getD i 0) = true := by
      intro i j hij hj hp
      have := h (i + 1) (j + 1) (by omega) (by simp; omega) (by simpa using hp)
      simpa using this
    by_cases hx : p x = true
    · rw [List.countP_cons_of_pos hx]
      cases i with
      | zero => simp [hx]
      | succ i =>
        have := countP_first p t ht i (by simpa using hi)
        simp only [List.getD_cons_succ]
        rw [← this]; omega
    · rw [List.countP_cons_of_neg hx]
      have hz : t.countP p = 0 := by
        rw [List.countP_eq_zero]
        intro y hy
        obtain ⟨k, hk, rfl⟩ := List.mem_iff_getElem.1 hy
        intro hp
        have := h 0 (k + 1) (by omega) (by simp; omega) (by simp [List.getD_eq_getElem?_getD, hk, hp])
        simp at this
        exact hx this
      cases i with
      | zero => simp [hz]; simpa using hx
      | succ i =>
        have := countP_first p t ht i (by simpa using hi)
        simp only [List.getD_cons_succ]
        rw [← this, hz]
        constructor
        · intro h; omega
        · intro h; omega
theorem ahead_iff {E : List Nat} {z : Nat} (h : Rise E z) (a : Int) (i : Nat) (hi : i < E.length) : i < ahead E a ↔ (E.getD i 0 : Int) < a := by
  unfold ahead
  rw [countP_first _ E (fun i j hij hj hp => ?_) i hi]
  · simp
  · have := h.less i j hij hj
    simp only [decide_eq_true_eq] at hp ⊢
    omega
/-- The line that an offset is in. -/
theorem ahead_is {E : List Nat} {z : Nat} (h : Rise E z) (a : Int) (n : Nat) (hn : n ≤ E.length) (h1 : (nx E n : Int) ≤ a) (h2 : n < E.length → a ≤ (E.getD n 0 : Int)) : ahead E a = n := by
  have hl := ahead_le E a
  rcases Nat.lt_trichotomy (ahead E a) n with hlt | rfl | hgt
  · obtain ⟨m, rfl⟩ : ∃ m, n = m + 1 := ⟨n - 1, by omega⟩
    rw [nx_succ] at h1
    have := (ahead_iff h a m (by omega)).2 (by omega)
    have h3 : ahead E a = m := by omega
    omega
  · rfl
  · have := (ahead_iff h a n (by omega)).1 hgt
    have := h2 (by omega)
    omega
theorem ahead_bounds {E : List Nat} {z : Nat} (h : Rise E z) (a : Int) (h0 : 0 ≤ a) : (nx E (ahead E a) : Int) ≤ a ∧ (ahead E a < E.length → a ≤ (E.getD (ahead E a) 0 : Int)) := by
  constructor
  · rcases Nat.eq_zero_or_pos (ahead E a) with h1 | h1
    · rw [h1, nx_zero]; simpa using h0
    · obtain ⟨m, hm⟩ : ∃ m, ahead E a = m + 1 := ⟨ahead E a - 1, by omega⟩
      have hl := ahead_le E a
      rw [hm, nx_succ]
      have := (ahead_iff h a m (by omega)).1 (by omega)
      omega
  · intro hlt
    have := mt (ahead_iff h a _ hlt).2 (by omega)
    omega
theorem ahead_low {E : List Nat} (a : Int) (h0 : a < 0) : ahead E a = 0 := by
  unfold ahead
  rw [List.countP_eq_zero]
  intro x _
  simp; omega
theorem nx_mono {E : List Nat} {z : Nat} (h : Rise E z) (i j : Nat) (hij : i < j) (hj : j ≤ E.length) : (en E z i : Int) < nx E j := by
  rw [en_at E z i (by omega)]
  obtain ⟨m, rfl⟩ : ∃ m, j = m + 1 := ⟨j - 1, by omega⟩
  rw [nx_succ]
  rcases Nat.lt_or_ge i m with hlt | hge
  · have := h.less i m hlt (by omega); omega
  · obtain rfl : i = m := by omega
    omega

/-! ### There and back -/
theorem place_or (s : ByteArray) (a : Int) : (∃ n u : Nat, placeL s a = ((n : Int), (u : Int), 0) ∧ n = ahead (ends s) a ∧ n ≤ (ends s).length ∧ u ≤ 2 * s.size ∧ uniB (ln s n) (a - nx (ends s) n) = ((u : Int), 0) ∧ 0 ≤ a ∧ a ≤ s.size) ∨ placeL s a = (0, 0, 51) := by
  have hl := ahead_le (ends s) a
  unfold placeL
  rcases uniB_or (ln s (ahead (ends s) a)) (a - nx (ends s) (ahead (ends s) a)) with ⟨u, h, h1, h2, h3⟩ | h | h
  · rw [h]
    have := ln_le s _ hl
    exact .inl ⟨_, u, by simp, rfl, hl, by omega, h, by omega, by omega⟩
  · rw [h]; exact .inr (by simp)
  · rw [h]; exact .inr (by simp)
theorem off_or' (s : ByteArray) (l u : Int) : (∃ a : Nat, offL s l u = ((a : Int), 0) ∧ a ≤ s.size ∧ 0 ≤ l ∧ l ≤ (ends s).length) ∨ offL s l u = (0, 51) := by
  unfold offL
  split
  · rename_i hl
    have := ln_le s l.toNat (by omega)
    rcases offB_or (ln s l.toNat) u with ⟨a, h, h1⟩ | h | h
    · rw [h]; exact .inl ⟨nx (ends s) l.toNat + a, by simp, by omega, hl.1, hl.2⟩
    · rw [h]; exact .inr (by simp)
    · rw [h]; exact .inr (by simp)
  · exact .inr rfl
theorem place_back (s : ByteArray) (a n u : Int) (h : placeL s a = (n, u, 0)) : offL s n u = (a, 0) := by
  rcases place_or s a with ⟨m, v, h1, h2, h3, h4, h5, h6, h7⟩ | h1
  · rw [h] at h1
    simp only [Prod.mk.injEq, and_true] at h1
    obtain ⟨rfl, rfl⟩ := h1
    obtain ⟨k1, k2, k3, k4, k5⟩ := uniB_there _ _ _ h5
    unfold offL
    rw [if_pos ⟨by omega, by omega⟩, Int.toNat_natCast, k5]
    simp
    omega
  · rw [h] at h1; simp at h1
theorem place_less (s : ByteArray) (a b n u m v : Int) (h : placeL s a = (n, u, 0)) (k : placeL s b = (m, v, 0)) : ((n < m ∨ n = m ∧ u < v) ↔ a < b) := by
  rcases place_or s a with ⟨n', u', h1, h2, h3, h4, h5, h6, h7⟩ | h1
  · rcases place_or s b with ⟨m', v', k1, k2, k3, k4, k5, k6, k7⟩ | k1
    · rw [h] at h1; rw [k] at k1
      simp only [Prod.mk.injEq, and_true] at h1 k1
      obtain ⟨rfl, rfl⟩ := h1
      obtain ⟨rfl, rfl⟩ := k1
      obtain ⟨a1, a2, _⟩ := uniB_there _ _ _ h5
      obtain ⟨b1, b2, _⟩ := uniB_there _ _ _ k5
      rw [ln_size s _ h3] at a2
      rw [ln_size s _ k3] at b2
      have ha := nx_le_en (rise_ends s) n' h3
      have hb := nx_le_en (rise_ends s) m' k3
      rcases Nat.lt_trichotomy n' m' with hlt | heq | hgt
      · have := nx_mono (rise_ends s) n' m' hlt k3
        constructor
        · intro _; omega
        · intro _; left; omega
      · subst heq
        rcases Int.lt_trichotomy a b with l | l | l
        · have := uniB_less _ _ _ _ _ h5 k5 (by omega)
          constructor
          · intro _; exact l
          · intro _; right; exact ⟨rfl, this⟩
        · subst l
          rw [h5] at k5
          simp only [Prod.mk.injEq, and_true] at k5
          constructor
          · intro h; omega
          · intro h; omega
        · have := uniB_less _ _ _ _ _ k5 h5 (by omega)
          constructor
          · intro h; omega
          · intro h; omega
      · have := nx_mono (rise_ends s) m' n' hgt h3
        constructor
        · intro h; omega
        · intro h; omega
    · rw [k] at k1; simp at k1
  · rw [h] at h1; simp at h1

/-! ### One behind the other -/
def joined (a b : ByteArray) : ByteArray := a ++ ⟨#[10]⟩ ++ b
theorem joined_size (a b : ByteArray) : (joined a b).size = a.size + 1 + b.size := by unfold joined; rw [size_append, size_append]; rfl
theorem joined_left (a b : ByteArray) (i : Nat) (h : i < a.size) : (joined a b).get! i = a.get! i := by
  unfold joined; rw [get!_left _ _ _ (by rw [size_append]; omega), get!_left _ _ _ h]
theorem joined_mid (a b : ByteArray) : ((joined a b).get! a.size).toNat = 10 := by
  unfold joined
  rw [get!_left _ _ _ (by rw [size_append]; show a.size < a.size + 1; omega)]
  have := get!_right a ⟨#[10]⟩ 0
  rw [Nat.add_zero] at this
  rw [this]; rfl
theorem joined_right (a b : ByteArray) (i : Nat) : (joined a b).get! (a.size + 1 + i) = b.get! i := by
  unfold joined
  have := get!_right (a ++ ⟨#[10]⟩) b i
  rw [size_append] at this
  exact this
theorem ends_joined (a b : ByteArray) : ends (joined a b) = ends a ++ a.size :: (ends b).map (fun e => a.size + 1 + e) := by
  unfold ends endsTo
  rw [joined_size, List.range_add, List.range_succ, List.filter_append, List.filter_append]
  have h1 : (List.range a.size).filter (nlAt (joined a b)) = (List.range a.size).filter (nlAt a) := by
    apply List.filter_congr
    intro i hi
    unfold nlAt; rw [joined_left a b i (by simpa using hi)]
  have h2 : [a.size].filter (nlAt (joined a b)) = [a.size] := by
    have : nlAt (joined a b) a.size = true := by unfold nlAt; rw [joined_mid]; rfl
    simp [this]
  have h3 : ((List.range b.size).map (fun x => a.size + 1 + x)).filter (nlAt (joined a b)) = ((List.range b.size).filter (nlAt b)).map (fun e => a.size + 1 + e) := by
    rw [List.filter_map]
    congr 1
    apply List.filter_congr
    intro i _
    simp only [Function.comp]
    unfold nlAt; rw [joined_right]
  rw [h1, h2, h3]
  simp
theorem okB_nl : okB ⟨#[10]⟩ = true := by kernel_rfl
theorem okB_joined (a b : ByteArray) (ha : okB a = true) (hb : okB b = true) : okB (joined a b) = true := okB_append _ _ (okB_append _ _ ha okB_nl) hb
theorem ends_joined_len (a b : ByteArray) : (ends (joined a b)).length = (ends a).length + 1 + (ends b).length := by rw [ends_joined]; simp; omega
theorem getD_app1 (x y : List Nat) (i : Nat) (h : i < x.length) : (x ++ y).getD i 0 = x.getD i 0 := by
  rw [List.getD_eq_getElem?_getD, List.getElem?_append_left h, ← List.getD_eq_getElem?_getD]
theorem getD_app2 (x y : List Nat) (i : Nat) : (x ++ y).getD (x.length + i) 0 = y.getD i 0 := by
  rw [List.getD_eq_getElem?_getD, List.getElem?_append_right (by omega), Nat.add_sub_cancel_left, ← List.getD_eq_getElem?_getD]
theorem getD_map_add (l : List Nat) (k i : Nat) (h : i < l.length) : (l.map (fun e => k + e)).getD i 0 = k + l.getD i 0 := by
  rw [List.getD_eq_getElem?_getD, List.getD_eq_getElem?_getD]
  simp [h]
theorem nx_left (a b : ByteArray) (n : Nat) (h : n ≤ (ends a).length) : nx (ends (joined a b)) n = nx (ends a) n := by
  unfold nx; split
  · rfl
  · rw [ends_joined, getD_app1 _ _ _ (by omega)]
theorem en_left (a b : ByteArray) (n : Nat) (h : n ≤ (ends a).length) : en (ends (joined a b)) (joined a b).size n = en (ends a) a.size n := by
  rw [en_at _ _ _ (by rw [ends_joined_len]; omega), ends_joined]
  rcases Nat.lt_or_ge n (ends a).length with hlt | hge
  · rw [getD_app1 _ _ _ hlt, en_at _ _ _ hlt]
  · obtain rfl : n = (ends a).length := by omega
    have := getD_app2 (ends a) (a.size :: (ends b).map (fun e => a.size + 1 + e)) 0
    rw [Nat.add_zero] at this
    rw [en_last]; exact this
theorem nx_right (a b : ByteArray) (n : Nat) (h : n ≤ (ends b).length) : nx (ends (joined a b)) ((ends a).length + 1 + n) = a.size + 1 + nx (ends b) n := by
  rw [show (ends a).length + 1 + n = (ends a).length + n + 1 by omega, nx_succ, ends_joined, getD_app2]
  cases n with
  | zero => simp [nx_zero]
  | succ n => rw [nx_succ, List.getD_cons_succ, getD_map_add _ _ _ (by omega)]; omega
theorem en_right (a b : ByteArray) (n : Nat) (h : n ≤ (ends b).length) : en (ends (joined a b)) (joined a b).size ((ends a).length + 1 + n) = a.size + 1 + en (ends b) b.size n := by
  rcases Nat.lt_or_ge n (ends b).length with hlt | hge
  · rw [en_at _ _ _ (by rw [ends_joined_len]; omega), en_at _ _ _ hlt, show (ends a).length + 1 + n = (ends a).length + (n + 1) by omega, ends_joined, getD_app2, List.getD_cons_succ, getD_map_add _ _ _ hlt]
  · obtain rfl : n = (ends b).length := by omega
    have : (ends a).length + 1 + (ends b).length = (ends (joined a b)).length := by rw [ends_joined_len]
    rw [this, en_last, en_last, joined_size]
theorem extract_app1 (a b : ByteArray) (i j : Nat) (h : j ≤ a.size) : (a ++ b).extract i j = a.extract i j := by
  apply ByteArray.ext
  simp only [ByteArray.data_extract, ByteArray.data_append]
  rw [Array.extract_append]
  have h2 : a.data.size = a.size := rfl
  have : b.data.extract (i - a.data.size) (j - a.data.size) = #[] := by
    apply Array.extract_empty_of_stop_le_start
    omega
  rw [this]; simp
theorem extract_app2 (a b : ByteArray) (i j : Nat) : (a ++ b).extract (a.size + i) (a.size + j) = b.extract i j := by
  apply ByteArray.ext
  simp only [ByteArray.data_extract, ByteArray.data_append]
  rw [Array.extract_append]
  have h2 : a.data.size = a.size := rfl
  have : a.data.extract (a.size + i) (a.size + j) = #[] := by
    apply Array.extract_empty_of_size_le_start
    omega
  rw [this, h2]; simp
theorem ln_left (a b : ByteArray) (n : Nat) (h : n ≤ (ends a).length) : ln (joined a b) n = ln a n := by
  obtain ⟨h1, h2⟩ := nx_le_en (rise_ends a) n h
  unfold ln
  rw [nx_left a b n h, en_left a b n h]
  unfold joined
  rw [extract_app1 _ _ _ _ (by rw [size_append]; omega), extract_app1 _ _ _ _ h2]
theorem ln_right (a b : ByteArray) (n : Nat) (h : n ≤ (ends b).length) : ln (joined a b) ((ends a).length + 1 + n) = ln b n := by
  unfold ln
  rw [nx_right a b n h, en_right a b n h]
  unfold joined
  have := extract_app2 (a ++ ⟨#[10]⟩) b (nx (ends b) n) (en (ends b) b.size n)
  rw [size_append] at this
  exact this
theorem off_left (a b : ByteArray) (l u : Int) (x : Int) (h : offL a l u = (x, 0)) : offL (joined a b) l u = (x, 0) := by
  unfold offL at *
  by_cases hl : 0 ≤ l ∧ l ≤ ((ends a).length : Int)
  · rw [if_pos hl] at h
    rw [if_pos ⟨hl.1, by rw [ends_joined_len]; omega⟩, ln_left a b _ (by omega), nx_left a b _ (by omega)]
    exact h
  · rw [if_neg hl] at h; simp at h
theorem off_right (a b : ByteArray) (l u : Int) (h0 : 0 ≤ l) : offL (joined a b) (l + ((ends a).length + 1 : Nat)) u = if (offL b l u).2 = 0 then (a.size + 1 + (offL b l u).1, 0) else (0, 51) := by
  unfold offL
  by_cases hl : 0 ≤ l ∧ l ≤ ((ends b).length : Int)
  · have e : (l + ((ends a).length + 1 : Nat)).toNat = (ends a).length + 1 + l.toNat := by omega
    rw [if_pos ⟨by omega, by rw [ends_joined_len]; omega⟩, if_pos hl, e, ln_right a b _ (by omega), nx_right a b _ (by omega)]
    split
    · rw [if_pos rfl]; congr 1; simp only; omega
    · rw [if_neg (by simp)]
  · rw [if_neg hl, if_neg (by rw [ends_joined_len]; omega)]; simp
end Go.Proofs.YtapjomdplibanaaDoor.L
